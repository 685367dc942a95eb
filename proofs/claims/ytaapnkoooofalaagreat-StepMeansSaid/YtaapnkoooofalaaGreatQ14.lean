/- Laws that the last text leans on. -/
import Derived.Test.YtaapnkoooofalaaGreatQ13

set_option maxRecDepth 20000
set_option maxHeartbeats 2000000
namespace Go.Proofs.YtaapnkoooofalaaGreat
namespace Se
open Go Rw So
def rg (t:Tm):Bool:=(flat t).all rgt
theorem z3f (a:Tm):rg (.block a)=rg a:=by
  show ((nOf 9::flat a).all rgt)=_
  rw [List.all_cons,show rgt (nOf 9)=true by decide +kernel]
  rfl
theorem y1b (s:Int) (c:Tm):rg (.fin s c)=(rgt (nEnd s)&&rg c):=by
  show ((nEnd s::flat c).all rgt)=_
  rw [List.all_cons]
  rfl
theorem z9d {k:Int} {t a b:Tm} (e:flat t=nOf k::(flat a++flat b)) (hk:rgt (nOf k)=true):rg t=(rg a&&rg b):=by
  unfold rg;rw [e,List.all_cons,List.all_append,hk]
  rfl
theorem z7n (a b:Tm):rg (.seq a b)=(rg a&&rg b):=z9d (k:=5) rfl (by decide +kernel)
theorem rg_alt (a b:Tm):rg (.alt a b)=(rg a&&rg b):=z9d (k:=6) rfl (by decide +kernel)
theorem z4h (a b:Tm):rg (.par a b)=(rg a&&rg b):=z9d (k:=7) rfl (by decide +kernel)
theorem z5s (a b:Tm):rg (.hand a b)=(rg a&&rg b):=z9d (k:=8) rfl (by decide +kernel)
theorem rg_pair (a b:Tm):rg (.pair a b)=(rg a&&rg b):=z9d (k:=10) rfl (by decide +kernel)
theorem z3w (a b:Tm):rg (.going a b)=(rg a&&rg b):=z9d (k:=12) rfl (by decide +kernel)
theorem z3v (a b:Tm):rg (.stack a b)=(rg a&&rg b):=z9d (k:=13) rfl (by decide +kernel)
theorem x6k:rg .skip=true:=by decide +kernel
theorem y7p (s:Int):rg (.over s)=(decide (1≤s)&&decide (s≤3)):=by
  show ([nOver s].all rgt)=_
  rw [List.all_cons,z3u _ _ (.inl rfl),show decide (ByteArray.size ⟨#[]⟩=0)=true from rfl,Bool.true_and,List.all_nil,Bool.and_true]
theorem y2r (s:Int):rgt (nEnd s)=(decide (1≤s)&&decide (s≤3)):=by
  rw [z3u _ _ (.inr rfl),show decide (ByteArray.size ⟨#[]⟩=0)=true from rfl,Bool.true_and]
theorem v0w {s t:Int} (hs:1≤s∧s≤3) (ht:1≤t∧t≤3):1≤Sg.both s t∧Sg.both s t≤3:=by
  have h1:s=1∨s=2∨s=3:=by omega
  have h2:t=1∨t=2∨t=3:=by omega
  rcases h1 with rfl | rfl | rfl <;> rcases h2 with rfl | rfl | rfl <;> decide
theorem stk_rg {a d:Tm} (ha:rg a=true) (hd:rg d=true):rg (stk a d)=true:=by
  cases a <;> simp_all [stk,z3v,y1b,z7n]
theorem S_rg:∀ t:Tm,rg t=true→rg (S t)=true:=by
  apply x4w
  intro t ih h
  cases t with
  | act s=>exact h
  | skip=>decide +kernel
  | throw=>decide +kernel
  | yield=>exact h
  | over s=>exact h
  | fin s c=>exact h
  | alt a b=>exact h
  | pair a b=>exact h
  | seq a b=>
    rw [z7n,Bool.and_eq_true] at h;have ia:=ih a (by simp [sz]; omega) h.1;have ib:=ih b (by simp [sz]; omega) h.2;rw [y9o];generalize S a=x at ia
    cases x <;> simp only [sSeq] <;> (try split) <;> simp_all [z7n,y1b,stk_rg]
  | hand a b=>
    rw [z5s,Bool.and_eq_true] at h;have ia:=ih a (by simp [sz]; omega) h.1;have ib:=ih b (by simp [sz]; omega) h.2;rw [y0m];generalize S a=x at ia
    cases x <;> simp only [sHand] <;> (try split) <;> simp_all [z5s]
  | par a b=>
    rw [z4h,Bool.and_eq_true] at h;have ia:=ih a (by simp [sz]; omega) h.1;have ib:=ih b (by simp [sz]; omega) h.2;rw [y9p];generalize S a=x at ia ⊢;generalize S b=y at ib ⊢
    cases x <;> simp only [sPar] <;> (try (simp_all [z4h]; done))
    · cases y <;> simp only [] <;> (try (simp_all [z4h]; done))
      simp only [y7p,Bool.and_eq_true,decide_eq_true_eq] at ia ib ⊢;exact v0w ia ib
    · cases y <;> simp only [] <;> (try (simp_all [z4h]; done))
      simp only [y1b,z4h,y2r,Bool.and_eq_true,decide_eq_true_eq] at ia ib ⊢;exact ⟨v0w ia.1 ib.1,ia.2,ib.2⟩
  | block a=>
    rw [z3f] at h;have ia:=ih a (by simp [sz]) h;have hs:=S_sz a;rw [z5x];generalize S a=x at ia hs
    cases x with
    | fin s c=>
      simp only [sBlock];simp only [sz] at hs;have ic:=ih c (by simp [sz]; omega)
      repeat' split
      · decide +kernel
      · rw [y1b,Bool.and_eq_true] at ia;exact ic ia.2
      · rw [z3f]; exact ia
    | _=>simpa [sBlock,z3f] using ia
  | going a b=>
    rw [z3w,Bool.and_eq_true] at h;have ia:=ih a (by simp [sz]; omega) h.1;rw [z5w];generalize S a=x at ia
    cases x <;> simp only [sGoing] <;> (try split) <;> simp_all [z3w,y1b,y7p,y2r,x6k]
  | stack a b=>
    rw [z3v,Bool.and_eq_true] at h;have ia:=ih a (by simp [sz]; omega) h.1;rw [z5v];exact stk_rg ia h.2
theorem y0r (t:Tm):whole (flat t)=(rg t&&decide (sz t≤200)):=by
  unfold whole rg;rw [flat_len,(z0k t).size,flat_len];have:=z0l t;simp [show 1≤sz t from this]
def Goes (t:Tm):Prop:=rg t=true∧sz t≤200∧(is t 3=true∨is t 4=true)
theorem Goes.S {t:Tm} (h:Goes t):Goes (S t):=⟨S_rg t h.1,Nat.le_trans (S_sz t) h.2.1,h.2.2.imp (S_is t).1 (S_is t).2⟩
theorem of_flat {t:Tm} (h:rg t=true) (hz:sz t≤200):of (flat t)=if is t 1 then 1 else if is t 2 then 2 else if is t 3 then 3 else if is t 4 then 4 else 0:=by
  unfold of first
  rw [y0r,h,decide_eq_true hz,z2p t 1 (by omega),z2p t 2 (by omega),z2p t 3 (by omega),z2p t 4 (by omega)]
  rfl
theorem x8s {t:Tm}:¬ (is t 3=true∧is t 4=true):=by
  rw [← z2p t 3 (by omega),← z2p t 4 (by omega)];exact apart _ (flat t) (Nat.le_refl _)
theorem z9i {t:Tm} (h:rg t=true) (hz:sz t≤200) (p:Bool):onB (flat t) p=if p then is t 4 else is t 3:=by
  have n:=x8s (t:=t);have j:=is13 t;unfold onB;rw [of_flat h hz]
  cases h1:is t 1 <;> cases h2:is t 2 <;> cases h3:is t 3 <;> cases h4:is t 4 <;> cases p <;> simp_all
theorem z9z {l:List Nd} (h:of l≠0):∃ t,flat t=l∧Goes t:=by
  have hw:whole l=true:=by
    cases hw:whole l with
    | true=>rfl
    | false=>exact absurd (of_not hw) h
  obtain ⟨t,rfl⟩:=whole_tm hw;rw [y0r,Bool.and_eq_true,decide_eq_true_eq] at hw;refine ⟨t,rfl,hw.1,hw.2,?_⟩;rw [of_flat hw.1 hw.2] at h;have j:=is13 t
  cases h1:is t 1 <;> cases h2:is t 2 <;> cases h3:is t 3 <;> cases h4:is t 4 <;> simp_all
theorem Goes.of {t:Tm} (h:Goes t):of (flat t)≠0:=by
  rw [of_flat h.1 h.2.1];have h3:=h.2.2;have j:=is13 t
  cases h1:is t 1 <;> cases h2:is t 2 <;> cases h3:is t 3 <;> cases h4:is t 4 <;> simp_all
def waits:Tm→Bool
  | .act _=>true
  | .alt _ _=>true
  | .yield=>true
  | .pair _ _=>true
  | .seq a _=>waits a
  | .hand a _=>waits a
  | .going a _=>waits a
  | .stack a _=>waits a
  | .block a=>waits a
  | .par a b=>waits a||waits b
  | _=>false
def isQuery:Tm→Bool
  | .fin s _=>s==3
  | _=>false
def stuck:Tm→Bool
  | .block a=>isQuery a||stuck a
  | .seq a _=>stuck a
  | .hand a _=>stuck a
  | .going a _=>stuck a
  | .stack a _=>stuck a
  | .par a b=>stuck a||stuck b
  | _=>false
theorem over_is {a:Tm} (h:isOver a=true):is a 4=false:=by cases a <;> simp_all [isOver,is]
theorem fin_is {a:Tm} (h:isFin a=true):is a 3=false:=by cases a <;> simp_all [isFin,is]
def ct (f:Nd→Bool) (t:Tm):Nat:=(flat t).countP f
def Plain (f:Nd→Bool):Prop:=(∀ s,f (nOver s)=false)∧(∀ s,f (nEnd s)=false)∧f (nOf 2)=false∧f (nOf 5)=false∧f (nOf 7)=false∧f (nOf 12)=false∧f (nOf 13)=false
theorem y0e {f:Nd→Bool} {n:Nd} {t a b:Tm} (e:flat t=n::(flat a++flat b)):ct f t=ct f a+ct f b+if f n then 1 else 0:=by
  unfold ct;rw [e,List.countP_cons,List.countP_append]
theorem ct_one {f:Nd→Bool} {n:Nd} {t a:Tm} (e:flat t=n::flat a):ct f t=ct f a+if f n then 1 else 0:=by
  unfold ct;rw [e,List.countP_cons]
theorem v0m (f:Nd→Bool) (a b:Tm):ct f (.seq a b)=ct f a+ct f b+if f (nOf 5) then 1 else 0:=y0e rfl
theorem y6g (f:Nd→Bool) (a b:Tm):ct f (.par a b)=ct f a+ct f b+if f (nOf 7) then 1 else 0:=y0e rfl
theorem ct_hand (f:Nd→Bool) (a b:Tm):ct f (.hand a b)=ct f a+ct f b+if f (nOf 8) then 1 else 0:=y0e rfl
theorem x1o (f:Nd→Bool) (a b:Tm):ct f (.going a b)=ct f a+ct f b+if f (nOf 12) then 1 else 0:=y0e rfl
theorem x1n (f:Nd→Bool) (a b:Tm):ct f (.stack a b)=ct f a+ct f b+if f (nOf 13) then 1 else 0:=y0e rfl
theorem z4b (f:Nd→Bool) (a:Tm):ct f (.block a)=ct f a+if f (nOf 9) then 1 else 0:=ct_one rfl
theorem z7q (f:Nd→Bool) (s:Int) (c:Tm):ct f (.fin s c)=ct f c+if f (nEnd s) then 1 else 0:=ct_one rfl
theorem ct_over {f:Nd→Bool} (hf:Plain f) (s:Int):ct f (.over s)=0:=by
  show [nOver s].countP f=0
  simp [hf.1 s]
theorem ct_skip {f:Nd→Bool} (hf:Plain f):ct f .skip=0:=by
  show [nOf 2].countP f=0
  simp [hf.2.2.1]
theorem stk_ct {f:Nd→Bool} (hf:Plain f) (a d:Tm):ct f (stk a d)=ct f a+ct f d:=by
  obtain ⟨h1,h2,h3,h4,h5,h6,h7⟩:=hf
  cases a <;> simp only [stk,x1n,z7q,v0m,h7,h2,h4] <;> simp
theorem S_ct {f:Nd→Bool} (hf:Plain f):∀ t:Tm,ct f (S t)≤ct f t:=by
  have hst:=stk_ct hf;have hov:=ct_over hf;have hsk:=ct_skip hf;have hf':=hf;obtain ⟨h1,h2,h3,h4,h5,h6,h7⟩:=hf
  apply x4w
  intro t ih
  cases t with
  | act s=>exact Nat.le_refl _
  | skip=>rw [x2f,hov]; exact Nat.zero_le _
  | throw=>rw [y4h,hov]; exact Nat.zero_le _
  | yield=>exact Nat.le_refl _
  | over s=>exact Nat.le_refl _
  | fin s c=>exact Nat.le_refl _
  | alt a b=>exact Nat.le_refl _
  | pair a b=>exact Nat.le_refl _
  | seq a b=>
    have ia:=ih a (by simp [sz]; omega);have ib:=ih b (by simp [sz]; omega);rw [y9o,v0m,h4];generalize S a=x at ia
    cases x <;> simp only [sSeq] <;> (try split) <;> simp only [hov,v0m,z7q,hst,h2,h4] at ia ⊢ <;> simp only [Bool.false_eq_true,if_false] at ia ⊢ <;> omega
  | hand a b=>
    have ia:=ih a (by simp [sz]; omega);have ib:=ih b (by simp [sz]; omega);rw [y0m];generalize S a=x at ia
    cases x <;> simp only [sHand] <;> (try split) <;> simp only [hov,ct_hand] at ia ⊢ <;> omega
  | par a b=>
    have ia:=ih a (by simp [sz]; omega);have ib:=ih b (by simp [sz]; omega);rw [y9p,y6g,h5];generalize S a=x at ia ⊢;generalize S b=y at ib ⊢
    cases x <;> simp only [sPar] <;> (try simp only [y6g,h5] at ia) <;> (try (simp only [y6g,h5] <;> omega))
    · cases y <;> simp only [] <;> simp only [hov,y6g,h5] at ia ib ⊢ <;> omega
    · cases y <;> simp only [] <;> simp only [z7q,y6g,h2,h5] at ia ib ⊢ <;> simp only [Bool.false_eq_true,if_false] at ia ib ⊢ <;> omega
  | block a=>
    have ia:=ih a (by simp [sz]);have hs:=S_sz a;rw [z5x];generalize S a=x at ia hs
    cases x with
    | fin s c=>
      simp only [sBlock];simp only [sz] at hs;have ic:=ih c (by simp [sz]; omega);rw [z7q,h2] at ia;simp only [Bool.false_eq_true,if_false] at ia
      split
      · simp only [hov,z4b]; omega
      · split
        · simp only [z4b]; omega
        · simp only [z4b,z7q,h2,Bool.false_eq_true,if_false]; omega
    | _=>(try simp only [z4b] at ia); simp only [sBlock,z4b]; omega
  | going a b=>
    have ia:=ih a (by simp [sz]; omega);rw [z5w,x1o,h6];generalize S a=x at ia
    cases x <;> simp only [sGoing] <;> (try split) <;> simp only [hov,hsk,x1o,z7q,h2,h6] at ia ⊢ <;> (try simp only [Bool.false_eq_true,if_false]) <;> omega
  | stack a b=>
    have ia:=ih a (by simp [sz]; omega);rw [z5v,x1n,h7,hst];omega
end Se
namespace Tr
open Go Go.RowKit
theorem y9x (b o k c:Nat) (w:World):(Instr.slice 65 (.slice (some ⟨b,o,none⟩) (k+1) c) (some (.int .i64 1)) none none).run Tryz.prog w=.ok (.slice (some ⟨b,if c=1 then o else o+1,none⟩) k (c-1)) w:=by
  have hu:=Tryz.underlying65;have h1:(1:Int)≤(k:Int)+1:=by omega
  by_cases hc:c=1 <;> simp [go_sem,hu,h1,hc]
end Tr
namespace Rf
open Go Go.RowKit Rw

end Rf
namespace Se
open Go Go.RowKit Rw So
theorem kd14 {a:Tm} (h:kd a=14):∃ s c,a=.fin s c:=by
  cases a <;> first | exact ⟨_,_,rfl⟩ | simp [kd,flat,hd,nOf] at h
theorem kd11 {a:Tm} (h:kd a=11):∃ s,a=.over s:=by
  cases a <;> first | exact ⟨_,rfl⟩ | simp [kd,flat,hd,nOf] at h
theorem x5s {a d:Tm} (h:kd a≠14):stk a d=.stack a d:=by
  cases a <;> first | rfl | exact absurd rfl h
end Se
namespace Tr
open Go Go.RowKit
theorem below2 (w:World) (x y:Obj):Below w.heap.size w ((w.alloc x).alloc y):=((Below.refl _ _).alloc (Nat.le_refl _) x).alloc (by simp) y
theorem map_snoc {α β:Type} (f:α→β) (rs:List α) (k:Nat) (h:k<rs.length):(rs.take (k+1)).map f=(rs.take k).map f++[f rs[k]]:=by
  rw [List.take_succ_eq_append_getElem h,List.map_append]
  rfl
end Tr
namespace Rf
open Go Go.RowKit Rw

end Rf
namespace Se
open Go Go.RowKit Rw So
theorem sPar_11 {s:Int} {d:Tm} (h:kd d≠11):sPar (.over s) d=.par (.over s) d:=by cases d <;> first | rfl | exact absurd rfl h
theorem sPar_14 {s:Int} {c d:Tm} (h:kd d≠14):sPar (.fin s c) d=.par (.fin s c) d:=by cases d <;> first | rfl | exact absurd rfl h
theorem sPar_no {a d:Tm} (h1:kd a≠11) (h2:kd a≠14):sPar a d=.par a d:=by cases a <;> first | rfl | exact absurd rfl h1 | exact absurd rfl h2
theorem not14 {a:Tm} (h:is a 3=true):kd a≠14:=fun e=>by
  obtain ⟨s,c,rfl⟩:=kd14 e;simp [is] at h
end Se
namespace Tr
open Go Go.RowKit
def pr (p q:Tr):List Tr:=norm ((mx 19 p.a q.a).map fun r=>⟨r,Sg.both p.e q.e⟩)
def mix (a b:List ByteArray):List (List ByteArray):=(pr ⟨a,1⟩ ⟨b,1⟩).map (·.a)
theorem pr_len (p q:Tr):(pr p q).length≤524288:=by
  refine Nat.le_trans (z1b _) ?_;rw [List.length_map];exact Nat.le_trans (x7s _ _ _) (by decide)
end Tr
namespace Rf
open Go Go.RowKit Rw
theorem infoIn:(Tryz.prog.info? 3).map (fun i=>(i.zero,i.size,i.bytes))=some (some (.int .i64 0),1,8):=by kernel_rfl
def GotI (w wr:World) (v:Value) (P:List Nat):Prop:=wr.ownsRow w.heap.size 3 1 v P.length (P.map fun (i:Nat)=>.int .i64 (i:Int))∧Below w.heap.size w wr
def Plc (w:World) (v:Value) (P:List Nat):Prop:=Ap.Rd w 1 v P.length (P.map fun (i:Nat)=>.int .i64 (i:Int))
theorem Plc.below {w w':World} {v:Value} {P:List Nat} (h:Plc w v P) (hb:Below w.heap.size w w'):Plc w' v P:=Ap.Rd.below h hb
def AtP (w:World) (b off:Nat) (P:List Nat):Prop:=∀ k,(h:k<P.length)→w.cell? ⟨b,off+k,none⟩=some (.int .i64 (P[k]:Int))
theorem Plc.form {w:World} {v:Value} {P:List Nat} (h:Plc w v P):(P=[]∧∃ a cap,v=.slice a 0 cap)∨∃ b off cap,v=.slice (some ⟨b,off,none⟩) P.length cap∧AtP w b off P:=by
  obtain ⟨_,a,cap,rfl,hle,_,hcell⟩:=h
  by_cases h0:0<P.length
  · obtain ⟨b,off,rfl,hj⟩:=hcell h0;exact Or.inr ⟨b,off,cap,rfl,fun k hk=>hj _ _ (by rw [List.getElem?_map,List.getElem?_eq_getElem hk]; rfl)⟩
  · have:P=[]:=List.eq_nil_of_length_eq_zero (by omega);subst this;exact Or.inl ⟨rfl,a,cap,rfl⟩
end Rf
namespace Se
open Go Go.RowKit Rw So
def NdO (base:Nat) (w:World) (v:Value) (t:Tm):Prop:=Ap.RdO (fun g=>base≤g) w 3 v (flat t).length (cls (flat t))
theorem NdO.nds {base:Nat} {w:World} {v:Value} {t:Tm} (h:NdO base w v t):Nds w v (flat t):=Ap.RdO.rd h
theorem NdO.below {base:Nat} {w w':World} {v:Value} {t:Tm} (h:NdO base w v t) (hb:Below w.heap.size w w'):NdO base w' v t:=Ap.RdO.below h hb
theorem NdO.more {base base':Nat} {w:World} {v:Value} {t:Tm} (h:NdO base w v t) (hb:base'≤base):NdO base' w v t:=Ap.RdO.imp h fun _ _ h=>Nat.le_trans hb h
def OutB (base:Nat) (t:Tm) (w:World) (e:Ending) (w':World):Prop:=∃ y,e=.returned y∧NdO base w' y t∧Below w.heap.size w w'
def nml:List Nd→ByteArray
  | []=>⟨#[]⟩
  | n::_=>n.n
def nmT (t:Tm):ByteArray:=nml (flat t)
theorem at0n {l:List Nd} (h:0<l.length):l[0].n=nml l:=by
  cases l with
  | nil=>simp at h
  | cons n r=>rfl
theorem z2f {w:World} {v:Value} {t:Tm} (hv:Nds w v (flat t)):∃ b o c,v=.slice (some ⟨b,o,none⟩) (sz t) c∧sz t≤c∧b<w.heap.size∧(∀ w',Below w.heap.size w w'→w'.cell? ⟨b,o,none⟩=some (.int .i64 (kd t))∧w'.cell? ⟨b,o+1,none⟩=some (.string (nmT t))∧w'.cell? ⟨b,o+2,none⟩=some (.int .i64 (sg t)))∧At w b o (flat t):=by
  obtain ⟨b,o,c,rfl,hc,hlt,hw,hat⟩:=form hv;refine ⟨b,o,c,rfl,hc,hlt,fun w' hb=>⟨(hw w' hb).1,?_,(hw w' hb).2⟩,hat⟩;have hp:=z0l t;have hl:=flat_len t;have h2:=(hat 0 (by omega)).2.1;rw [Nat.zero_mul,Nat.add_zero] at h2;rw [hb.cell (p:=⟨b,o+1,none⟩) hlt,h2];rw [at0n (by omega)]
  rfl
theorem eq_ndP (x y:Nd) (w:World):(binOp .eql 36 (.agg #[.int .i64 x.k,.string x.n,.int .i64 x.s]) (.agg #[.int .i64 y.k,.string y.n,.int .i64 y.s])).run Tryz.prog w=.ok (.bool (decide (x=y))) w:=by
  rw [run_eql_struct,show (10000:Nat)=9998+2 from rfl,x9r]
  rfl
theorem eq_bare (k s j r:Int) (n:ByteArray) (w:World):(binOp .eql 36 (.agg #[.int .i64 k,.string n,.int .i64 s]) (.agg #[.int .i64 j,.string ⟨#[]⟩,.int .i64 r])).run Tryz.prog w=.ok (.bool (decide ((⟨k,n,s⟩:Nd)=⟨j,⟨#[]⟩,r⟩))) w:=eq_ndP ⟨k,n,s⟩ ⟨j,⟨#[]⟩,r⟩ w
theorem z1i (s:Int) (w:World):Calls Tryz.prog 140 #[.int .i64 s] w fun e w'=>e=.returned (.agg #[.int .i64 11,.string ⟨#[]⟩,.int .i64 s])∧Below w.heap.size w w':=by
  go_enter Tryz.func140,Tryz.ntmps140
  go_wp2_with fail;refine bodyPost_ret (v:=.agg #[.int .i64 11,.string ⟨#[]⟩,.int .i64 s]) (by simp [results,Tryz.results140,go_sem]) rfl ⟨rfl,?_⟩;exact z0f w _
theorem z1e (s:Int) (w:World):Calls Tryz.prog 181 #[.int .i64 s] w fun e w'=>e=.returned (.agg #[.int .i64 14,.string ⟨#[]⟩,.int .i64 s])∧Below w.heap.size w w':=by
  go_enter Tryz.func181,Tryz.ntmps181
  go_wp2_with fail;refine bodyPost_ret (v:=.agg #[.int .i64 14,.string ⟨#[]⟩,.int .i64 s]) (by simp [results,Tryz.results181,go_sem]) rfl ⟨rfl,?_⟩;exact z0f w _
def goK (k:Int):Int:=if k=7 then 2 else if k=5∨k=8∨k=9∨k=12∨k=13 then 1 else 0
theorem z1k (t:Tm) (w:World):Calls Tryz.prog 97 #[.int .i64 (kd t)] w fun e w'=>e=.returned (.int .i64 (goK (kd t)))∧w=w':=by
  have hk:=kinds (z0k t).ar;change kd t=1∨kd t=2∨kd t=3∨kd t=4∨kd t=5∨kd t=6∨kd t=7∨kd t=8∨kd t=9∨kd t=10∨kd t=11∨kd t=12∨kd t=13∨kd t=14 at hk;generalize kd t=k at hk
  rcases hk with rfl | rfl | rfl | rfl | rfl | rfl | rfl | rfl | rfl | rfl | rfl | rfl | rfl | rfl
  all_goals go_enter Tryz.func97,Tryz.ntmps97
  all_goals go_wp2_with fail
  all_goals go_ret
  all_goals exact ⟨rfl,rfl⟩
theorem y7n {w:World} {y1 y2:Value} {l1 l2:List Nd} (h1:Nds w y1 l1) (h2:Nds w y2 l2) (ty:TypeId):Rws (w.alloc (.cells #[y1,y2] ty)) (.slice (some ⟨w.heap.size,0,none⟩) 2 2) [l1,l2]:=by
  refine ⟨[y1,y2],⟨rfl,_,2,rfl,Nat.le_refl _,fun h=>(by cases h),fun _=>⟨w.heap.size,0,rfl,fun j u hu=>?_⟩⟩,h1.below (z0f w _),h2.below (z0f w _),trivial⟩
  match j,hu with
  | 0,hu=>simp at hu; subst hu; simp
  | 1,hu=>simp at hu; subst hu; simp
  | j+2,hu=>simp at hu
theorem rws_one {w:World} {y1:Value} {l1:List Nd} (h1:Nds w y1 l1) (ty:TypeId):Rws (w.alloc (.cells #[y1] ty)) (.slice (some ⟨w.heap.size,0,none⟩) 1 1) [l1]:=by
  refine ⟨[y1],⟨rfl,_,1,rfl,Nat.le_refl _,fun h=>(by cases h),fun _=>⟨w.heap.size,0,rfl,fun j u hu=>?_⟩⟩,h1.below (z0f w _),trivial⟩
  match j,hu with
  | 0,hu=>simp at hu; subst hu; simp
  | j+1,hu=>simp at hu
theorem rws_none (w:World):Rws w (.slice none 0 0) []:=⟨[],⟨rfl,none,0,rfl,Nat.le_refl _,fun _=>⟨rfl,rfl⟩,fun h=>absurd h (Nat.lt_irrefl 0)⟩,trivial⟩
theorem mkP (base:Nat) (x:Nd) (ls:List (List Nd)) (t:Tm) (h:flat t=x::ls.flatten) (v:Value) (w:World) (hv:Rws w v ls) (hl:ls.length≤2) (hs:sz t≤1000) (hb:base≤w.heap.size) :
    Calls Tryz.prog 83 #[.agg #[.int .i64 x.k,.string x.n,.int .i64 x.s],v] w (OutB base t w):=by
  have e:=flat_len t;rw [h,List.length_cons] at e;refine (Rx.y5m x v ls w hv (by omega) (by omega)).mono ?_;rintro e w1 ⟨y,rfl,hn,hb1⟩;refine ⟨y,rfl,?_,hb1⟩;unfold NdO;rw [h];exact Ap.RdO.imp hn fun _ _ h=>Nat.le_trans hb h
theorem mkP0 (base:Nat) (k s:Int) (t:Tm) (h:flat t=[⟨k,⟨#[]⟩,s⟩]) (w:World) (hb:base≤w.heap.size) :
    Calls Tryz.prog 83 #[.agg #[.int .i64 k,.string ⟨#[]⟩,.int .i64 s],.slice none 0 0] w (OutB base t w):=
  mkP base ⟨k,⟨#[]⟩,s⟩ [] t h _ w (rws_none w) (by simp) (by have:=flat_len t; rw [h] at this; simp at this; omega) hb
theorem mkP1 (base:Nat) (k s:Int) (t a:Tm) (h:flat t=⟨k,⟨#[]⟩,s⟩::flat a) (v:Value) (w:World) (ty:TypeId) (ha:Nds w v (flat a)) (hs:sz t≤1000) (hb:base≤w.heap.size) :
    Calls Tryz.prog 83 #[.agg #[.int .i64 k,.string ⟨#[]⟩,.int .i64 s],.slice (some ⟨w.heap.size,0,none⟩) 1 1] (w.alloc (.cells #[v] ty)) (OutB base t w):=by
  refine (mkP base ⟨k,⟨#[]⟩,s⟩ [flat a] t (by rw [h]; simp) _ _ (rws_one ha ty) (by simp) hs (by simp; omega)).mono ?_;rintro e w1 ⟨y,rfl,hn,hb1⟩;exact ⟨y,rfl,hn,(z0f w _).trans (hb1.mono (z0f w _).size)⟩
theorem mkP2 (base:Nat) (k s:Int) (t a b:Tm) (h:flat t=⟨k,⟨#[]⟩,s⟩::(flat a++flat b)) (v u:Value) (w:World) (ty:TypeId) (ha:Nds w v (flat a)) (hu:Nds w u (flat b)) (hs:sz t≤1000) (hb:base≤w.heap.size) :
    Calls Tryz.prog 83 #[.agg #[.int .i64 k,.string ⟨#[]⟩,.int .i64 s],.slice (some ⟨w.heap.size,0,none⟩) 2 2] (w.alloc (.cells #[v,u] ty)) (OutB base t w):=by
  refine (mkP base ⟨k,⟨#[]⟩,s⟩ [flat a,flat b] t (by rw [h]; simp) _ _ (y7n ha hu ty) (by simp) hs (by simp; omega)).mono ?_;rintro e w1 ⟨y,rfl,hn,hb1⟩;exact ⟨y,rfl,hn,(z0f w _).trans (hb1.mono (z0f w _).size)⟩
theorem mkP2d (base:Nat) (k s:Int) (t a b:Tm) (h:flat t=⟨k,⟨#[]⟩,s⟩::(flat a++flat b)) (v u:Value) (w:World) (ty:TypeId) (ha:Nds w v (flat a)) (hu:Nds w u (flat b)) (hs:sz t≤1000) (hb:base≤w.heap.size) :
    Calls Tryz.prog 83 #[.agg #[.int .i64 k,.string ⟨#[]⟩,.int .i64 s],.slice (some ⟨w.heap.size,0,none⟩) 2 2] (w.alloc (.cells #[v,u] ty)).drew (OutB base t w):=by
  refine (mkP base ⟨k,⟨#[]⟩,s⟩ [flat a,flat b] t (by rw [h]; simp) _ _ ((y7n ha hu ty).below (Below.refl _ _).drew) (by simp) hs (by simp; omega)).mono ?_;rintro e w1 ⟨y,rfl,hn,hb1⟩;exact ⟨y,rfl,hn,(z0f w _).drew.trans (hb1.mono (z0f w _).drew.size)⟩
theorem mkPr (base:Nat) (k s:Int) (t a b:Tm) (h:flat t=⟨k,⟨#[]⟩,s⟩::(flat a++flat b)) (v:Value) (w:World) (hv:Rws w v [flat a,flat b]) (hs:sz t≤1000) (hb:base≤w.heap.size) :
    Calls Tryz.prog 83 #[.agg #[.int .i64 k,.string ⟨#[]⟩,.int .i64 s],v] w (OutB base t w):=mkP base ⟨k,⟨#[]⟩,s⟩ [flat a,flat b] t (by rw [h]; simp) v w hv (by simp) hs hb
theorem z0p (w:World) (k s:Int) (nm:ByteArray) (ty:TypeId):∀ w1,Below (w.alloc (.cells #[.int .i64 k,.string nm,.int .i64 s] ty)).heap.size (w.alloc (.cells #[.int .i64 k,.string nm,.int .i64 s] ty)) w1→w1.cell? ⟨w.heap.size,0,none⟩=some (.int .i64 k)∧w1.cell? ⟨w.heap.size,1,none⟩=some (.string nm)∧w1.cell? ⟨w.heap.size,2,none⟩=some (.int .i64 s):=by
  intro w1 hb;rw [hb.cell (p:=⟨w.heap.size,0,none⟩) (by simp),hb.cell (p:=⟨w.heap.size,1,none⟩) (by simp),hb.cell (p:=⟨w.heap.size,2,none⟩) (by simp)];simp [go_sem]
abbrev PS (t:Tm):Prop:=∀ (v:Value) (w:World),Nds w v (flat t)→Calls Tryz.prog 64 #[v] w (OutB w.heap.size (S t) w)
end Se
namespace Tr
open Go
theorem x8e {p q t:Tr} (h:t∈pr p q):t.a∈mx 19 p.a q.a∧t.e=Sg.both p.e q.e:=by
  unfold pr at h;obtain ⟨r,hr,rfl⟩:=List.mem_map.1 ((z0s _ _).1 h);exact ⟨hr,rfl⟩
theorem mix_len (a b:List ByteArray):(mix a b).length≤524288:=by unfold mix; rw [List.length_map]; exact pr_len _ _
theorem sub_self:∀ a:List ByteArray,sub a a=true
  | []=>rfl
  | x::a=>by rw [sub,if_pos rfl]; exact sub_self a
end Tr
namespace Tr
open Go Go.RowKit
def sgn (c:Int):Int:=if c<0 then -1 else if 0<c then 1 else 0
def Mine (base:Nat) (w:World) (v:Value) (l:List ByteArray):Prop:=
  StrsO (fun b=>base≤b) w v l∧∀ b off cap,v=.slice (some ⟨b,off,none⟩) l.length cap→∀ j,j<l.length→w.frozen? ⟨b,off+j,none⟩=false
def SetPost (l:List Tr) (w:World) (e:Ending) (w':World):Prop:=∃ v,e=.returned v∧Trs w' v l∧Below w.heap.size w w'
def ThnPost (t:Tr) (w:World) (e:Ending) (w':World):Prop:=∃ v,e=.returned (.agg #[v,.int .i64 t.e])∧Mine w.heap.size w' v t.a∧Below w.heap.size w w'
abbrev bA:ByteArray:=⟨#[97]⟩
abbrev bB:ByteArray:=⟨#[98]⟩
abbrev bC:ByteArray:=⟨#[99]⟩
end Tr
end Go.Proofs.YtaapnkoooofalaaGreat
