/- Laws that the last text leans on. -/
import Derived.Test.YtpingbiibbmcaaaGreatDoorQ12

set_option maxRecDepth 20000
set_option maxHeartbeats 2000000
namespace Go.Proofs.YtpingbiibbmcaaaGreatDoor
namespace So
open Go Go.RowKit Rw
def Strs (w:World) (v:Value) (l:List ByteArray):Prop:=Ap.Rd w 1 v l.length (l.map .string)
def AtS (w:World) (b off:Nat) (l:List ByteArray):Prop:=∀ k,(h:k<l.length)→w.cell? ⟨b,off+k,none⟩=some (.string l[k])
theorem Strs.form {w:World} {v:Value} {l:List ByteArray} (h:Strs w v l) :
    (l=[]∧∃ a cap,v=.slice a 0 cap)∨∃ b off cap,v=.slice (some ⟨b,off,none⟩) l.length cap∧AtS w b off l:=by
  obtain ⟨_,a,cap,rfl,hle,_,hcell⟩:=h
  by_cases h0:0<l.length
  · obtain ⟨b,off,rfl,hj⟩:=hcell h0;exact Or.inr ⟨b,off,cap,rfl,fun k hk=>hj _ _ (by rw [List.getElem?_map,List.getElem?_eq_getElem hk]; rfl)⟩
  · have:l=[]:=List.eq_nil_of_length_eq_zero (by omega);subst this;exact Or.inl ⟨rfl,a,cap,rfl⟩
theorem bytes_eq {s t:ByteArray} (h:s=t):(s.toList==t.toList)=true:=by rw [h]; simp
theorem bytes_ne {s t:ByteArray} (h:¬ s=t):(s.toList==t.toList)=false:=by
  rw [ByteArray.toList_eq t];exact z1o fun e=>h (by rw [e])
def sameS (l m:List ByteArray):Bool:=decide (l=m)
theorem x8i {l m:List ByteArray} (h:l.length≠m.length):sameS l m=false:=decide_eq_false fun e=>h (by rw [e])
theorem sameS_at {l m:List ByteArray} {k:Nat} (h1:k<l.length) (h2:k<m.length):sameS (l.drop k) (m.drop k)=(decide (l[k]=m[k])&&sameS (l.drop (k+1)) (m.drop (k+1))):=by
  unfold sameS;rw [List.drop_eq_getElem_cons h1,List.drop_eq_getElem_cons h2,Bool.eq_iff_iff];simp only [decide_eq_true_eq,Bool.and_eq_true,List.cons.injEq]
theorem y7z (a1 a2:Option Addr) (c1 c2 n m:Nat) (w:World) (h:n≠m) :
    Calls Tryz.prog 35 #[.slice a1 n c1,.slice a2 m c2] w fun e w'=>e=.returned (.bool false)∧Below w.heap.size w w':=by
  have hne:((n:Int)==(m:Int))=false:=by rw [beq_eq_false_iff_ne]; omega
  have hne':((n:Int) != (m:Int))=true:=by rw [bne_iff_ne]; omega
  go_enter Tryz.func35,Tryz.ntmps35
  go_wp2_with fail;go_ret;exact ⟨rfl,Below.refl _ _⟩
theorem z8q (a1 a2:Option Addr) (c1 c2:Nat) (w:World) :
    Calls Tryz.prog 35 #[.slice a1 0 c1,.slice a2 0 c2] w fun e w'=>e=.returned (.bool true)∧Below w.heap.size w w':=by
  go_enter Tryz.func35,Tryz.ntmps35
  go_wp2_with fail;refine Go.wp_loop_rounds 1 ?_;rw [rounds_succ];go_wp2_with fail;go_ret;exact ⟨rfl,Below.refl _ _⟩
theorem y8a (b1 o1 c1 b2 o2 c2:Nat) (l m:List ByteArray) (w:World) (hl:l.length≤1000000) (he:m.length=l.length) (h1:AtS w b1 o1 l) (h2:AtS w b2 o2 m) :
    Calls Tryz.prog 35 #[.slice (some ⟨b1,o1,none⟩) l.length c1,.slice (some ⟨b2,o2,none⟩) l.length c2] w fun e w'=>e=.returned (.bool (sameS l m))∧Below w.heap.size w w':=by
  have H1:=Lib.hid h1;have H2:=Lib.hid h2;have HE:=Lib.hid he;clear h1 h2 he
  go_enter Tryz.func35,Tryz.ntmps35
  go_wp2_with fail
  go_loopw [5] (fun i wr=>∃ k:Nat,k≤l.length∧i=.int .i64 k∧Hid (Below w.heap.size w wr)∧Hid (sameS l m=sameS (l.drop k) (m.drop k))) (fun i _=>l.length-(intOf i).toNat)
  case atStart=>exact ⟨0,Nat.zero_le _,rfl,Lib.hid (Below.refl _ _),Lib.hid rfl⟩
  case round=>
    obtain ⟨k,hk,rfl,HB,HS⟩:=hrel
    by_cases hlt:k<l.length
    · have hlt2:k<m.length:=by rw [HE.out]; exact hlt
      have e1:=H1.out k hlt;have e2:=H2.out k hlt2;have d1:wr.cell? ⟨b1,o1+k,none⟩=some (.string l[k]):=by rw [HB.out.cell (Ap.z0a e1)]; exact e1
      have d2:wr.cell? ⟨b2,o2+k,none⟩=some (.string m[k]):=by rw [HB.out.cell (Ap.z0a e2)]; exact e2
      have HA:=Lib.hid (HS.out.trans (sameS_at hlt hlt2));clear e1 e2;obtain ⟨u,hu⟩:∃ u,l[k]=u:=⟨_,rfl⟩
      obtain ⟨v,hv⟩:∃ v,m[k]=v:=⟨_,rfl⟩
      rw [hu] at d1 HA;rw [hv] at d2 HA;clear hu hv
      by_cases huv:u=v
      · have hq:=bytes_eq huv;have hq2:(u.toList != v.toList)=false:=by rw [bne,hq]; rfl
        have HV:=Lib.hid huv;clear huv;go_wp2_with fail
        go_quiet (fail)
        go_wp2_with fail
        go_roundw
        case rel=>exact ⟨k+1,by omega,by go_num,Lib.hid (HB.out.trans (Below.drewN _ _ _)),Lib.hid (by rw [HA.out,decide_eq_true HV.out,Bool.true_and])⟩
        case measure=>simp [intOf]; omega
      · have hq:=bytes_ne huv;have hq2:(u.toList != v.toList)=true:=by rw [bne,hq]; rfl
        have HV:=Lib.hid huv;clear huv;go_wp2_with fail
        go_quiet (fail)
        go_wp2_with fail;go_ret;exact ⟨ret_bool (by rw [HA.out,decide_eq_false HV.out,Bool.false_and]),HB.out.trans (Below.drewN _ _ _)⟩
    · go_wp2_with fail;go_ret;refine ⟨ret_bool ?_,HB.out⟩;rw [HS.out,List.drop_eq_nil_of_le (by omega),List.drop_eq_nil_of_le (by rw [HE.out]; omega)]
      rfl
theorem y1h (x y:Value) (l m:List ByteArray) (w:World) (hx:Strs w x l) (hy:Strs w y m) (hl:l.length≤1000000) :
    Calls Tryz.prog 35 #[x,y] w fun e w'=>e=.returned (.bool (sameS l m))∧Below w.heap.size w w':=by
  by_cases he:l.length=m.length
  · rcases hx.form with ⟨rfl,a,cap,rfl⟩ | ⟨b,off,cap,rfl,hc⟩
    · obtain rfl:m=[]:=List.eq_nil_of_length_eq_zero he.symm;obtain ⟨_,a',cap',rfl,_⟩:=hy;exact z8q a a' cap cap' w
    · rcases hy.form with ⟨rfl,a',cap',rfl⟩ | ⟨b',off',cap',rfl,hc'⟩
      · obtain rfl:l=[]:=List.eq_nil_of_length_eq_zero he;exact z8q _ a' cap cap' w
      · rw [← he];exact y8a b off cap b' off' cap' l m w hl he.symm hc hc'
  · rw [x8i he];obtain ⟨_,a,cap,rfl,_⟩:=hx;obtain ⟨_,a',cap',rfl,_⟩:=hy;exact y7z a a' cap cap' l.length m.length w he
def met (x:Nd) (os:List ByteArray):Bool:=(x.k != 1)||os.any fun o=>decide (o=x.n)
theorem infoS:(Tryz.prog.info? 9).map (fun i=>(i.zero,i.size,i.bytes))=some (some (.string ⟨#[]⟩),1,16):=by kernel_rfl
def Got (w wr:World) (v:Value) (os:List ByteArray):Prop:=wr.ownsRow w.heap.size 9 1 v os.length (os.map .string)∧Below w.heap.size w wr
end So
namespace So
open Go Rw
theorem x7j {l:List Nd} (h:whole l=true):l.all rgt=true:=by
  unfold whole at h;simp only [Bool.and_eq_true] at h;exact h.1.1
theorem of_not {l:List Nd} (h:whole l=false):of l=0:=by
  unfold of;rw [h]
  rfl
def nOf (k:Int):Nd:=⟨k,⟨#[]⟩,0⟩
theorem z1u {k:Int} {a b:List Nd} (hk:ar k=2) (ha:Tre a) (hb:Tre b):Tre (nOf k::(a++b))∧kids (nOf k::(a++b))=[a,b]:=by
  obtain ⟨d1,t1⟩:=ha;obtain ⟨d2,t2⟩:=hb;have a1:=z5i b t1
  have s1:S 1 (a++b)=some (a.length,max 0 d1):=by
    rw [show (1:Nat)=0+1 from rfl,z2l,z2z];simp only [List.drop_zero,a1,Nat.zero_add]
  have dm:(a++b).drop a.length=b:=by simp
  have s2:S 2 (a++b)=some (a.length+b.length,max (max 0 d1) d2):=by
    rw [show (2:Nat)=1+1 from rfl,z2l,s1];simp only [dm,t2]
  have hT:T (nOf k::(a++b))=some (a.length+b.length+1,max (max 0 d1) d2+1):=by
    rw [z2j,if_neg (show ¬ ar (nOf k).k<0 by show ¬ ar k<0; omega),show (ar (nOf k).k).toNat=2 by show (ar k).toNat=2; rw [hk]; rfl,s2]
  have ht:Tre (nOf k::(a++b)):=⟨_,by rw [hT,List.length_cons,List.length_append]⟩
  refine ⟨ht,?_⟩;obtain ⟨x,y,hxy,tx,ty,_,_⟩:=ht.two hk;obtain ⟨_,_,he⟩:=ht.flat;rw [hxy] at he;injection he with _ he;simp at he;obtain ⟨dx,hx⟩:=tx;have hx2:=z5i y hx;rw [← he,a1] at hx2
  have hlen:a.length=x.length:=by
    have:=congrArg (fun o=>o.map (·.1)) hx2
    simpa using this
  have h1:=congrArg (List.take a.length) he;have h2:=congrArg (List.drop a.length) he;rw [List.take_append_of_le_length (Nat.le_refl _),List.take_length,hlen,List.take_append_of_le_length (Nat.le_refl _),List.take_length] at h1;rw [dm,hlen,List.drop_append_of_le_length (Nat.le_refl _),List.drop_length,List.nil_append] at h2;rw [hxy,← h1,← h2]
end So
namespace Sx
open Go Go.RowKit Rw YtpingbiibbmcaaaGreatDoor.So
theorem whole_tre {l:List Nd} (h:whole l=true):Tre l:=by
  unfold whole at h;simp only [Bool.and_eq_true,decide_eq_true_eq] at h;exact Tre.of_size h.2 (fun e=>by rw [e] at h; exact absurd h.1.2.1 (by decide))
theorem ofP_any (l:List Nd) (v:Value) (w:World) (hv:Nds w v l) (hl:l.length≤1000) (hm:Nms l) :
    Calls Tryz.prog 136 #[v] w fun e w'=>e=.returned (.int .i64 (of l))∧Below w.heap.size w w':=by
  have HV:=Lib.hid hv;have HM:=Lib.hid hm;obtain ⟨_,a,cap,rfl,-⟩:=hv;clear hm
  cases hq:whole l with
  | false=>
    have HZ:Hid (of l=0):=by
      show _=_
      unfold of;rw [hq]
      rfl
    have HQ:=Lib.hid hq;clear hq
    go_enter Tryz.func136,Tryz.ntmps136
    go_wp2_with fail;refine (Rx.y1e _ l _ HV.out hl HM.out).mono ?_;rw [HQ.out];rintro e w' ⟨rfl,hb⟩;have HB:=Lib.hid hb;clear hb;go_wp2_with fail;go_ret;exact ⟨ret_int (by rw [HZ.out]; rfl),HB.out⟩
  | true=>
    have HZ:Hid (of l=So.first l):=by
      show _=_
      unfold of;rw [hq]
      rfl
    have HT:=Lib.hid (whole_tre hq);have HQ:=Lib.hid hq;obtain ⟨F,hF⟩:∃ F,So.first l=F:=⟨_,rfl⟩
    rw [hF] at HZ;have HF:=Lib.hid hF;clear hq hF
    go_enter Tryz.func136,Tryz.ntmps136
    go_wp2_with fail;refine (Rx.y1e _ l _ HV.out hl HM.out).mono ?_;rw [HQ.out];rintro e w' ⟨rfl,hb⟩;have HB:=Lib.hid hb
    have HV1:Hid (Nds w' (.slice a l.length cap) (l++[])):=by
      show Nds _ _ _
      rw [List.append_nil];exact HV.out.below hb
    clear hb;go_wp2_with fail;refine (v2p l [] _ _ HT.out HV1.out).mono ?_;rw [HF.out];rintro e w2 ⟨y,rfl,_,hb⟩;have HB2:=Lib.hid hb;clear hb;go_wp2_with fail;go_ret;exact ⟨ret_int (by rw [HZ.out]),HB.out.trans (HB2.out.mono HB.out.size)⟩
end Sx
namespace Tr
open Go Go.RowKit
def StrsO (ok:Nat→Prop) (w:World) (v:Value) (l:List ByteArray):Prop:=Ap.RdO ok w 1 v l.length (l.map .string)
def RwO (ok:Nat→Prop) (w:World):List Value→List (List ByteArray)→Prop
  | [],[]=>True
  | a::cs,r::rs=>StrsO ok w a r∧RwO ok w cs rs
  | _,_=>False
def Rws (w:World) (v:Value) (rs:List (List ByteArray)):Prop:=∃ cs,Ap.Rd w 1 v rs.length cs∧RwO (fun _=>True) w cs rs
theorem infoR:(Tryz.prog.info? 26).map (fun i=>(i.zero,i.size,i.bytes))=some (some (.slice none 0 0),1,24):=by kernel_rfl
theorem strs_new (w:World) (s:ByteArray) (t:TypeId):Strs (w.alloc (.cells #[.string s] t)) (.slice (some ⟨w.heap.size,0,none⟩) 1 1) [s]:=by
  refine ⟨rfl,_,1,rfl,Nat.le_refl _,fun h=>(by cases h),fun _=>⟨w.heap.size,0,rfl,fun j u hu=>?_⟩⟩;rw [Nat.zero_add,World.cell?_alloc_new]
  simpa using hu
theorem map_take (x:ByteArray) (rs:List (List ByteArray)) (k:Nat) (h:k<rs.length):(rs.take (k+1)).map (x::·)=(rs.take k).map (x::·)++[x::rs[k]]:=by
  rw [List.take_succ_eq_append_getElem h,List.map_append]
  rfl
end Tr
namespace Rf
open Go Rw YtpingbiibbmcaaaGreatDoor.So
abbrev alt:Nd:=So.nOf 6
abbrev thr:Nd:=So.nOf 3
def hit (f:ByteArray→Bool) (x:Nd):Bool:=decide (x.k=1)&&f x.n
def sub1 (f:ByteArray→Bool) (x:Nd):List Nd:=if hit f x then [alt,x,thr] else [x]
def sub (f:ByteArray→Bool) (l:List Nd):List Nd:=l.flatMap (sub1 f)
theorem leaf (x:Nd) (hx:ar x.k=0) (r:List Nd):T (x::r)=some (1,1):=by
  rw [z2j,hx,if_neg (by decide),show ((0:Int).toNat)=0 from rfl,z2z]
end Rf
namespace Se
open Go Rw YtpingbiibbmcaaaGreatDoor.So
inductive Tm
  | act (s:ByteArray)
  | skip
  | throw
  | yield
  | over (s:Int)
  | block (a:Tm)
  | fin (s:Int) (c:Tm)
  | seq (a b:Tm)
  | alt (a b:Tm)
  | par (a b:Tm)
  | hand (a b:Tm)
  | pair (a b:Tm)
  | going (a b:Tm)
  | stack (a b:Tm)
deriving DecidableEq
abbrev nAct (s:ByteArray):Nd:=⟨1,s,0⟩
abbrev nOver (s:Int):Nd:=⟨11,⟨#[]⟩,s⟩
abbrev nEnd (s:Int):Nd:=⟨14,⟨#[]⟩,s⟩
def flat:Tm→List Nd
  | .act s=>[nAct s]
  | .skip=>[nOf 2]
  | .throw=>[nOf 3]
  | .yield=>[nOf 4]
  | .over s=>[nOver s]
  | .block a=>nOf 9::flat a
  | .fin s c=>nEnd s::flat c
  | .seq a b=>nOf 5::(flat a++flat b)
  | .alt a b=>nOf 6::(flat a++flat b)
  | .par a b=>nOf 7::(flat a++flat b)
  | .hand a b=>nOf 8::(flat a++flat b)
  | .pair a b=>nOf 10::(flat a++flat b)
  | .going a b=>nOf 12::(flat a++flat b)
  | .stack a b=>nOf 13::(flat a++flat b)
def sz:Tm→Nat
  | .act _=>1
  | .skip=>1
  | .throw=>1
  | .yield=>1
  | .over _=>1
  | .block a=>sz a+1
  | .fin _ c=>sz c+1
  | .seq a b=>sz a+sz b+1
  | .alt a b=>sz a+sz b+1
  | .par a b=>sz a+sz b+1
  | .hand a b=>sz a+sz b+1
  | .pair a b=>sz a+sz b+1
  | .going a b=>sz a+sz b+1
  | .stack a b=>sz a+sz b+1
theorem flat_len:∀ t:Tm,(flat t).length=sz t:=by
  intro t
  induction t <;> simp_all [flat,sz]
theorem z0e (t:Tm):1≤sz t:=by cases t <;> simp [sz]
theorem v2k (t:Tm):flat t≠[]:=fun e=>by
  have h:=flat_len t;have:=z0e t;rw [e] at h;simp at h;omega
theorem z8j {n:Nd} {a:List Nd} (hk:ar n.k=1) (ha:Tre a):Tre (n::a)∧kids (n::a)=[a]:=by
  obtain ⟨d1,t1⟩:=ha
  have s1:S 1 a=some (a.length,max 0 d1):=by
    rw [show (1:Nat)=0+1 from rfl,z2l,z2z];simp only [List.drop_zero,t1,Nat.zero_add]
  have hT:T (n::a)=some (a.length+1,max 0 d1+1):=by
    rw [z2j,if_neg (by omega),hk,show (1:Int).toNat=1 from rfl,s1]
  have ht:Tre (n::a):=⟨_,by rw [hT,List.length_cons]⟩
  refine ⟨ht,?_⟩;obtain ⟨x,hx,_,_⟩:=ht.one hk;obtain ⟨_,_,he⟩:=ht.flat;rw [hx] at he;injection he with _ he;simp at he;rw [hx,he]
theorem z5u {n:Nd} (hk:ar n.k=0):Tre [n]:=⟨1,by rw [z2j,if_neg (by omega),hk]; rfl⟩
theorem z0i:∀ t:Tm,Tre (flat t):=by
  intro t
  induction t with
  | act s=>exact z5u rfl
  | skip=>exact z5u rfl
  | throw=>exact z5u rfl
  | yield=>exact z5u rfl
  | over s=>exact z5u rfl
  | block a ia=>exact (z8j rfl ia).1
  | fin s c ic=>exact (z8j rfl ic).1
  | seq a b ia ib=>exact (z1u rfl ia ib).1
  | alt a b ia ib=>exact (z1u rfl ia ib).1
  | par a b ia ib=>exact (z1u rfl ia ib).1
  | hand a b ia ib=>exact (z1u rfl ia ib).1
  | pair a b ia ib=>exact (z1u rfl ia ib).1
  | going a b ia ib=>exact (z1u rfl ia ib).1
  | stack a b ia ib=>exact (z1u rfl ia ib).1
theorem z3n (a:Tm):kids (flat (.block a))=[flat a]:=(z8j (n:=nOf 9) rfl (z0i a)).2
theorem z6f (s:Int) (c:Tm):kids (flat (.fin s c))=[flat c]:=(z8j (n:=nEnd s) rfl (z0i c)).2
theorem z5c (a b:Tm):kids (flat (.seq a b))=[flat a,flat b]:=(z1u rfl (z0i a) (z0i b)).2
theorem z5e (a b:Tm):kids (flat (.alt a b))=[flat a,flat b]:=(z1u rfl (z0i a) (z0i b)).2
theorem z5d (a b:Tm):kids (flat (.par a b))=[flat a,flat b]:=(z1u rfl (z0i a) (z0i b)).2
theorem z3m (a b:Tm):kids (flat (.hand a b))=[flat a,flat b]:=(z1u rfl (z0i a) (z0i b)).2
theorem z3l (a b:Tm):kids (flat (.pair a b))=[flat a,flat b]:=(z1u rfl (z0i a) (z0i b)).2
theorem z2o (a b:Tm):kids (flat (.going a b))=[flat a,flat b]:=(z1u rfl (z0i a) (z0i b)).2
theorem z2n (a b:Tm):kids (flat (.stack a b))=[flat a,flat b]:=(z1u rfl (z0i a) (z0i b)).2
theorem y3v (a:Tm):k0 (flat (.block a))=flat a:=by unfold k0; rw [z3n]; rfl
theorem k0_fin (s:Int) (a:Tm):k0 (flat (.fin s a))=flat a:=by unfold k0; rw [z6f]; rfl
theorem y1z (a b:Tm):k0 (flat (.seq a b))=flat a:=by unfold k0; rw [z5c]; rfl
theorem y1w (a b:Tm):k1 (flat (.seq a b))=flat b:=by unfold k1; rw [z5c]; rfl
theorem y2b (a b:Tm):k0 (flat (.alt a b))=flat a:=by unfold k0; rw [z5e]; rfl
theorem y1y (a b:Tm):k1 (flat (.alt a b))=flat b:=by unfold k1; rw [z5e]; rfl
theorem y2a (a b:Tm):k0 (flat (.par a b))=flat a:=by unfold k0; rw [z5d]; rfl
theorem y1x (a b:Tm):k1 (flat (.par a b))=flat b:=by unfold k1; rw [z5d]; rfl
theorem y9s (a b:Tm):k0 (flat (.hand a b))=flat a:=by unfold k0; rw [z3m]; rfl
theorem y9q (a b:Tm):k1 (flat (.hand a b))=flat b:=by unfold k1; rw [z3m]; rfl
theorem y9r (a b:Tm):k0 (flat (.pair a b))=flat a:=by unfold k0; rw [z3l]; rfl
theorem y9p (a b:Tm):k1 (flat (.pair a b))=flat b:=by unfold k1; rw [z3l]; rfl
theorem x2p (a b:Tm):k0 (flat (.going a b))=flat a:=by unfold k0; rw [z2o]; rfl
theorem x2n (a b:Tm):k1 (flat (.going a b))=flat b:=by unfold k1; rw [z2o]; rfl
theorem x2o (a b:Tm):k0 (flat (.stack a b))=flat a:=by unfold k0; rw [z2n]; rfl
theorem x2m (a b:Tm):k1 (flat (.stack a b))=flat b:=by unfold k1; rw [z2n]; rfl
def is:Tm→Nat→Bool
  | .act _,s=>s==1||s==3
  | .skip,s=>s==1||s==3
  | .throw,s=>s==1||s==3
  | .yield,s=>s==1||s==3
  | .over _,s=>s==3
  | .block a,s=>if s=1 then is a 2 else if s=3 then is a 4 else false
  | .fin _ c,s=>s==4&&is c 1
  | .seq a b,s=>if s=1 then is a 1&&is b 1 else if s=2 then is a 2&&is b 2 else if s=3 then is a 3&&is b 1 else is a 4&&is b 2
  | .alt a b,s=>if s=1∨s=3 then is a 1&&is b 1 else is a 2&&is b 2
  | .par a b,s=>is a s&&is b s
  | .hand a b,s=>if s=1 then is a 1&&is b 1 else if s=3 then is a 3&&is b 1 else false
  | .pair a b,s=>if s=2∨s=4 then is a 1&&is b 1 else false
  | .going a b,s=>if s=4 then is a 3&&is b 1 else false
  | .stack a b,s=>if s=4 then is a 4&&is b 1 else false
theorem is13:∀ t:Tm,(is t 1=true→is t 3=true)∧(is t 2=true→is t 4=true):=by
  intro t
  induction t <;> simp_all [is]
theorem abs0 {p r:Bool} (h:p=true→r=true):(p||r)=r:=by cases p <;> cases r <;> simp_all
theorem abs1 {p q r:Bool} (h:p=true→r=true):(p&&q||r&&q)=(r&&q):=by cases p <;> cases q <;> cases r <;> simp_all
theorem abs2 {p q r s:Bool} (h:p=true→r=true) (g:q=true→s=true):(p&&q||r&&s)=(r&&s):=by cases p <;> cases q <;> cases r <;> cases s <;> simp_all
theorem z2k:∀ (t:Tm) (s:Nat),s=1∨s=2∨s=3∨s=4→Is s (flat t)=is t s:=by
  intro t
  induction t with
  | act s=>
    intro s' hs
    rcases hs with rfl | rfl | rfl | rfl
    · rw [eq_1_1 (l:=flat (.act s)) rfl]; rfl
    · rw [eq_1_2 (l:=flat (.act s)) rfl]; rfl
    · rw [eq_1_3 (l:=flat (.act s)) rfl]; rfl
    · rw [eq_1_4 (l:=flat (.act s)) rfl]; rfl
  | skip=>
    intro s' hs
    rcases hs with rfl | rfl | rfl | rfl
    · rw [eq_2_1 (l:=flat (.skip)) rfl]; rfl
    · rw [eq_2_2 (l:=flat (.skip)) rfl]; rfl
    · rw [eq_2_3 (l:=flat (.skip)) rfl]; rfl
    · rw [eq_2_4 (l:=flat (.skip)) rfl]; rfl
  | throw=>
    intro s' hs
    rcases hs with rfl | rfl | rfl | rfl
    · rw [eq_3_1 (l:=flat (.throw)) rfl]; rfl
    · rw [eq_3_2 (l:=flat (.throw)) rfl]; rfl
    · rw [eq_3_3 (l:=flat (.throw)) rfl]; rfl
    · rw [eq_3_4 (l:=flat (.throw)) rfl]; rfl
  | yield=>
    intro s' hs
    rcases hs with rfl | rfl | rfl | rfl
    · rw [eq_4_1 (l:=flat (.yield)) rfl]; rfl
    · rw [eq_4_2 (l:=flat (.yield)) rfl]; rfl
    · rw [eq_4_3 (l:=flat (.yield)) rfl]; rfl
    · rw [eq_4_4 (l:=flat (.yield)) rfl]; rfl
  | over s=>
    intro s' hs
    rcases hs with rfl | rfl | rfl | rfl
    · rw [v3c (l:=flat (.over s)) rfl]; rfl
    · rw [eq_11_2 (l:=flat (.over s)) rfl]; rfl
    · rw [eq_11_3 (l:=flat (.over s)) rfl]; rfl
    · rw [v3b (l:=flat (.over s)) rfl]; rfl
  | block a ia=>
    intro s' hs
    rcases hs with rfl | rfl | rfl | rfl
    · rw [eq_9_1 (l:=flat (.block a)) rfl,y3v,ia _ (Or.inr (Or.inl rfl))]; rfl
    · rw [eq_9_2 (l:=flat (.block a)) rfl]; rfl
    · rw [eq_9_3 (l:=flat (.block a)) rfl,y3v,ia _ (Or.inr (Or.inl rfl)),ia _ (Or.inr (Or.inr (Or.inr rfl))),abs0 (is13 a).2]; rfl
    · rw [eq_9_4 (l:=flat (.block a)) rfl]; rfl
  | fin e c ic=>
    intro s' hs
    rcases hs with rfl | rfl | rfl | rfl
    · rw [eq_14_1 (l:=flat (.fin e c)) rfl]; rfl
    · rw [v2u (l:=flat (.fin e c)) rfl]; rfl
    · rw [v2t (l:=flat (.fin e c)) rfl]; rfl
    · rw [v2s (l:=flat (.fin e c)) rfl,k0_fin,ic _ (Or.inl rfl)]; rfl
  | seq a b ia ib=>
    intro s' hs
    rcases hs with rfl | rfl | rfl | rfl
    · rw [eq_5_1 (l:=flat (.seq a b)) rfl,y1z,y1w,ia _ (Or.inl rfl),ib _ (Or.inl rfl)]; rfl
    · rw [eq_5_2 (l:=flat (.seq a b)) rfl,y1z,y1w,ia _ (Or.inr (Or.inl rfl)),ib _ (Or.inr (Or.inl rfl))]; rfl
    · rw [v2r (l:=flat (.seq a b)) rfl,y1z,y1w,ia _ (Or.inl rfl),ia _ (Or.inr (Or.inr (Or.inl rfl))),ib _ (Or.inl rfl),abs1 (is13 a).1]; rfl
    · rw [eq_5_4 (l:=flat (.seq a b)) rfl,y1z,y1w,ia _ (Or.inr (Or.inl rfl)),ia _ (Or.inr (Or.inr (Or.inr rfl))),ib _ (Or.inr (Or.inl rfl)),abs1 (is13 a).2]; rfl
  | alt a b ia ib=>
    intro s' hs
    rcases hs with rfl | rfl | rfl | rfl
    · rw [eq_6_1 (l:=flat (.alt a b)) rfl,y2b,y1y,ia _ (Or.inl rfl),ib _ (Or.inl rfl)]; rfl
    · rw [eq_6_2 (l:=flat (.alt a b)) rfl,y2b,y1y,ia _ (Or.inr (Or.inl rfl)),ib _ (Or.inr (Or.inl rfl))]; rfl
    · rw [eq_6_3 (l:=flat (.alt a b)) rfl,y2b,y1y,ia _ (Or.inl rfl),ib _ (Or.inl rfl),Bool.or_false]; rfl
    · rw [eq_6_4 (l:=flat (.alt a b)) rfl,y2b,y1y,ia _ (Or.inr (Or.inl rfl)),ib _ (Or.inr (Or.inl rfl)),Bool.or_false]; rfl
  | par a b ia ib=>
    intro s' hs
    rcases hs with rfl | rfl | rfl | rfl
    · rw [eq_7_1 (l:=flat (.par a b)) rfl,y2a,y1x,ia _ (Or.inl rfl),ib _ (Or.inl rfl)]; rfl
    · rw [eq_7_2 (l:=flat (.par a b)) rfl,y2a,y1x,ia _ (Or.inr (Or.inl rfl)),ib _ (Or.inr (Or.inl rfl))]; rfl
    · rw [eq_7_3 (l:=flat (.par a b)) rfl,y2a,y1x,ia _ (Or.inl rfl),ia _ (Or.inr (Or.inr (Or.inl rfl))),ib _ (Or.inl rfl),ib _ (Or.inr (Or.inr (Or.inl rfl))),abs2 (is13 a).1 (is13 b).1]; rfl
    · rw [eq_7_4 (l:=flat (.par a b)) rfl,y2a,y1x,ia _ (Or.inr (Or.inl rfl)),ia _ (Or.inr (Or.inr (Or.inr rfl))),ib _ (Or.inr (Or.inl rfl)),ib _ (Or.inr (Or.inr (Or.inr rfl))),abs2 (is13 a).2 (is13 b).2]; rfl
  | hand a b ia ib=>
    intro s' hs
    rcases hs with rfl | rfl | rfl | rfl
    · rw [eq_8_1 (l:=flat (.hand a b)) rfl,y9s,y9q,ia _ (Or.inl rfl),ib _ (Or.inl rfl)]; rfl
    · rw [eq_8_2 (l:=flat (.hand a b)) rfl]; rfl
    · rw [eq_8_3 (l:=flat (.hand a b)) rfl,y9s,y9q,ia _ (Or.inl rfl),ia _ (Or.inr (Or.inr (Or.inl rfl))),ib _ (Or.inl rfl),abs1 (is13 a).1]; rfl
    · rw [eq_8_4 (l:=flat (.hand a b)) rfl]; rfl
  | pair a b ia ib=>
    intro s' hs
    rcases hs with rfl | rfl | rfl | rfl
    · rw [eq_10_1 (l:=flat (.pair a b)) rfl]; rfl
    · rw [v3f (l:=flat (.pair a b)) rfl,y9r,y9p,ia _ (Or.inl rfl),ib _ (Or.inl rfl)]; rfl
    · rw [v3e (l:=flat (.pair a b)) rfl]; rfl
    · rw [v3d (l:=flat (.pair a b)) rfl,y9r,y9p,ia _ (Or.inl rfl),ib _ (Or.inl rfl),Bool.or_false]; rfl
  | going a b ia ib=>
    intro s' hs
    rcases hs with rfl | rfl | rfl | rfl
    · rw [eq_12_1 (l:=flat (.going a b)) rfl]; rfl
    · rw [v3a (l:=flat (.going a b)) rfl]; rfl
    · rw [v2z (l:=flat (.going a b)) rfl]; rfl
    · rw [v2y (l:=flat (.going a b)) rfl,x2p,x2n,ia _ (Or.inr (Or.inr (Or.inl rfl))),ib _ (Or.inl rfl)]; rfl
  | stack a b ia ib=>
    intro s' hs
    rcases hs with rfl | rfl | rfl | rfl
    · rw [eq_13_1 (l:=flat (.stack a b)) rfl]; rfl
    · rw [v2x (l:=flat (.stack a b)) rfl]; rfl
    · rw [v2w (l:=flat (.stack a b)) rfl]; rfl
    · rw [v2v (l:=flat (.stack a b)) rfl,x2o,x2m,ia _ (Or.inr (Or.inr (Or.inr rfl))),ib _ (Or.inl rfl)]; rfl
theorem z4j {x:Nd} (h:rgt x=true) (h1:x.k≠1) (h2:¬ (x.k=11∨x.k=14)):x=nOf x.k:=by
  obtain ⟨k,n,s⟩:=x;have h0:¬ ar k<0:=fun h0=>by unfold rgt at h; rw [if_pos h0] at h; cases h
  rw [z5x n s h0 h1 h2] at h;simp only [Bool.and_eq_true,decide_eq_true_eq,beq_iff_eq] at h;obtain ⟨hn,rfl⟩:=h;rw [z3z hn]
  rfl
theorem x8s {x:Nd} (h:rgt x=true) (h2:x.k=11∨x.k=14):x=⟨x.k,⟨#[]⟩,x.s⟩∧1≤x.s∧x.s≤3:=by
  obtain ⟨k,n,s⟩:=x;rw [z3a n s h2] at h;simp only [Bool.and_eq_true,decide_eq_true_eq] at h;rw [z3z h.1];exact ⟨rfl,h.2⟩
theorem rgt_name {x:Nd} (h:rgt x=true) (h1:x.k=1):x=nAct x.n:=by
  obtain ⟨k,n,s⟩:=x;obtain rfl:k=1:=h1;rw [z9g n s] at h;simp only [Bool.and_eq_true,beq_iff_eq] at h;obtain ⟨⟨_,rfl⟩,_⟩:=h
  rfl
theorem tm_of:∀ (m:Nat) (l:List Nd),l.length≤m→Tre l→l.all rgt=true→∃ t,flat t=l
  | 0,l,h,ht,_=>absurd ht.pos (by omega)
  | m+1,l,h,ht,hr=>by
    obtain ⟨x,hx,he⟩:=ht.flat;have hxr:rgt x=true:=by rw [he,List.all_cons,Bool.and_eq_true] at hr; exact hr.1
    have leaf:ar (hd l)=0→l=[x]:=fun h0=>by
      have hk:kids l=[]:=List.eq_nil_of_length_eq_zero (by rw [ht.kids.1,h0]; rfl);rw [hk] at he;exact he
    have one:ar (hd l)=1→∃ t,l=x::flat t:=fun h1=>by
      obtain ⟨a,hk,ta,la⟩:=ht.one h1;rw [hk] at he;have he:l=x::a:=by rw [he]; simp
      have ra:a.all rgt=true:=by rw [he,List.all_cons,Bool.and_eq_true] at hr; exact hr.2
      obtain ⟨t,rfl⟩:=tm_of m a (by omega) ta ra;exact ⟨t,he⟩
    have two:ar (hd l)=2→∃ t u,l=x::(flat t++flat u):=fun h2=>by
      obtain ⟨a,b,hk,ta,tb,la,lb⟩:=ht.two h2;rw [hk] at he;have he:l=x::(a++b):=by rw [he]; simp
      have rab:a.all rgt=true∧b.all rgt=true:=by
        rw [he,List.all_cons,List.all_append,Bool.and_eq_true,Bool.and_eq_true] at hr;exact hr.2
      obtain ⟨t,rfl⟩:=tm_of m a (by omega) ta rab.1;obtain ⟨u,rfl⟩:=tm_of m b (by omega) tb rab.2;exact ⟨t,u,he⟩
    rcases kinds ht.ar with hk | hk | hk | hk | hk | hk | hk | hk | hk | hk | hk | hk | hk | hk
    · refine ⟨.act x.n,?_⟩;rw [leaf (by rw [hk]; rfl)];exact congrArg (fun y=>[y]) (rgt_name hxr (by rw [← hx]; exact hk)).symm
    · refine ⟨.skip,?_⟩;rw [leaf (by rw [hk]; rfl)];have:=z4j hxr (by omega) (by omega);rw [show x.k=2 by omega] at this;rw [this]
      rfl
    · refine ⟨.throw,?_⟩;rw [leaf (by rw [hk]; rfl)];have:=z4j hxr (by omega) (by omega);rw [show x.k=3 by omega] at this;rw [this]
      rfl
    · refine ⟨.yield,?_⟩;rw [leaf (by rw [hk]; rfl)];have:=z4j hxr (by omega) (by omega);rw [show x.k=4 by omega] at this;rw [this]
      rfl
    · obtain ⟨t,u,e⟩:=two (by rw [hk]; rfl);refine ⟨.seq t u,?_⟩;have:=z4j hxr (by omega) (by omega);rw [show x.k=5 by omega] at this;rw [e,this]
      rfl
    · obtain ⟨t,u,e⟩:=two (by rw [hk]; rfl);refine ⟨.alt t u,?_⟩;have:=z4j hxr (by omega) (by omega);rw [show x.k=6 by omega] at this;rw [e,this]
      rfl
    · obtain ⟨t,u,e⟩:=two (by rw [hk]; rfl);refine ⟨.par t u,?_⟩;have:=z4j hxr (by omega) (by omega);rw [show x.k=7 by omega] at this;rw [e,this]
      rfl
    · obtain ⟨t,u,e⟩:=two (by rw [hk]; rfl);refine ⟨.hand t u,?_⟩;have:=z4j hxr (by omega) (by omega);rw [show x.k=8 by omega] at this;rw [e,this]
      rfl
    · obtain ⟨t,e⟩:=one (by rw [hk]; rfl);refine ⟨.block t,?_⟩;have:=z4j hxr (by omega) (by omega);rw [show x.k=9 by omega] at this;rw [e,this]
      rfl
    · obtain ⟨t,u,e⟩:=two (by rw [hk]; rfl);refine ⟨.pair t u,?_⟩;have:=z4j hxr (by omega) (by omega);rw [show x.k=10 by omega] at this;rw [e,this]
      rfl
    · refine ⟨.over x.s,?_⟩;rw [leaf (by rw [hk]; rfl)];have:=(x8s hxr (by omega)).1;rw [show x.k=11 by omega] at this;exact congrArg (fun y=>[y]) this.symm
    · obtain ⟨t,u,e⟩:=two (by rw [hk]; rfl);refine ⟨.going t u,?_⟩;have:=z4j hxr (by omega) (by omega);rw [show x.k=12 by omega] at this;rw [e,this]
      rfl
    · obtain ⟨t,u,e⟩:=two (by rw [hk]; rfl);refine ⟨.stack t u,?_⟩;have:=z4j hxr (by omega) (by omega);rw [show x.k=13 by omega] at this;rw [e,this]
      rfl
    · obtain ⟨t,e⟩:=one (by rw [hk]; rfl);refine ⟨.fin x.s t,?_⟩;have:=(x8s hxr (by omega)).1;rw [show x.k=14 by omega] at this;rw [e];exact congrArg (fun y=>y::flat t) this.symm
theorem whole_tm {l:List Nd} (h:whole l=true):∃ t,flat t=l:=tm_of l.length l (Nat.le_refl _) (whole_tre h) (x7j h)
end Se
namespace Sx
open Go Go.RowKit Rw YtpingbiibbmcaaaGreatDoor.So
theorem y9b (l:List Nd) (p:Bool) (v:Value) (w:World) (hv:Nds w v l) (hl:l.length≤1000) (hm:Nms l) :
    Calls Tryz.prog 78 #[v,.bool p] w fun e w'=>e=.returned (.bool (onB l p))∧Below w.heap.size w w':=by
  have HV:=Lib.hid hv;have HC:=Lib.hid (fun w h=>ofP_any l v w h hl hm);have hr:onB l p=if p then pd (of l) else pl (of l):=rfl
  have h4:=of_le l;obtain ⟨z,hzz⟩:∃ z,of l=z:=⟨_,rfl⟩
  rw [hzz] at hr HC h4;rw [hr];obtain ⟨_,a,cap,rfl,-⟩:=hv;clear hm hzz hr
  cases p
  · rw [if_neg (by decide)]
    go_enter Tryz.func78,Tryz.ntmps78
    go_wp2_with fail;refine (HC.out _ HV.out).mono ?_;rintro e w1 ⟨rfl,hb⟩;have HB:=Lib.hid hb;clear hb;go_wp2_with fail;refine (plP z _ h4).mono ?_;rintro e w2 ⟨rfl,rfl⟩;go_wp2_with fail;go_ret;exact ⟨rfl,HB.out⟩
  · rw [if_pos rfl]
    go_enter Tryz.func78,Tryz.ntmps78
    go_wp2_with fail;refine (HC.out _ HV.out).mono ?_;rintro e w1 ⟨rfl,hb⟩;have HB:=Lib.hid hb;clear hb;go_wp2_with fail;refine (pdP z _ h4).mono ?_;rintro e w2 ⟨rfl,rfl⟩;go_wp2_with fail;go_ret;exact ⟨rfl,HB.out⟩

end Sx
namespace Tr
open Go Go.RowKit
def mx:Nat→List ByteArray→List ByteArray→List (List ByteArray)
  | _,[],b=>[b]
  | _,a,[]=>[a]
  | 0,_,_=>[]
  | n+1,x::a,y::b=>(mx n a (y::b)).map (x::·)++(mx n (x::a) b).map (y::·)
theorem x2b (n:Nat) (b:List ByteArray):mx n [] b=[b]:=by cases n <;> rfl
theorem z8f (n:Nat) (x:ByteArray) (a:List ByteArray):mx n (x::a) []=[x::a]:=by cases n <;> rfl
theorem Strs.tail {w:World} {b off cap:Nat} {x:ByteArray} {l:List ByteArray} (h:Strs w (.slice (some ⟨b,off,none⟩) (l.length+1) cap) (x::l)) (o:Nat) (ho:o=off+1∨cap=1) :
    Strs w (.slice (some ⟨b,o,none⟩) l.length (cap-1)) l:=by
  obtain ⟨hl,a,cap',hv,hc,hn,hcell⟩:=h
  cases hv
  simp at hc;refine ⟨by simp,some ⟨b,o,none⟩,cap-1,rfl,by omega,fun h=>(by cases h),fun h0=>?_⟩;obtain ⟨b',off',ha,hj⟩:=hcell (by simp)
  cases ha
  rcases ho with rfl | h1
  · refine ⟨b,off+1,rfl,fun j u hu=>?_⟩;rw [show off+1+j=off+(j+1) by omega];exact hj (j+1) u (by simpa using hu)
  · omega
def Mxd (w:World) (n:Nat) (l m:List ByteArray) (e:Ending) (w':World):Prop:=
  ∃ v cs,e=.returned v∧w'.ownsRow w.heap.size 26 1 v (mx n l m).length cs∧RwO (fun b=>some b≠v.ownBlock) w' cs (mx n l m)∧Below w.heap.size w w'
end Tr
namespace Rf
open Go Rw YtpingbiibbmcaaaGreatDoor.So
def plk (f:ByteArray→Bool) (l:List Nd) (k:Nat):List Nat:=(List.range k).filter fun i=>l[i]?.any (hit f)
def plc (f:ByteArray→Bool) (l:List Nd):List Nat:=plk f l l.length
end Rf
namespace Ru
open Go Go.RowKit
theorem x3b (a1 a2:Option Addr) (c1 c2:Nat) (w:World) :
    Calls Tryz.prog 174 #[.slice a1 0 c1,.slice a2 0 c2] w fun e w'=>e=.returned (.bool true)∧∃ n,w'=w.drewN n:=by
  go_enter Tryz.func174,Tryz.ntmps174
  go_wp2_with fail;refine Go.wp_loop_rounds 1 ?_;rw [rounds_succ];go_wp2_with fail;go_ret;exact ⟨rfl,0,rfl⟩
theorem eqS_one (b1 o1 c1 b2 o2 c2:Nat) (s x:ByteArray) (w:World) (e1:w.cell? ⟨b1,o1,none⟩=some (.string s)) (e2:w.cell? ⟨b2,o2,none⟩=some (.string x)) :
    Calls Tryz.prog 174 #[.slice (some ⟨b1,o1,none⟩) 1 c1,.slice (some ⟨b2,o2,none⟩) 1 c2] w fun e w'=>e=.returned (.bool (decide (s=x)))∧∃ n,w'=w.drewN n:=by
  by_cases h:s=x
  · have hq:(s.toList==x.toList)=true:=by rw [h]; exact beq_self_eq_true _
    have hq':(s.toList != x.toList)=false:=by rw [h]; simp
    rw [decide_eq_true h]
    go_enter Tryz.func174,Tryz.ntmps174
    go_wp2_with fail;refine Go.wp_loop_rounds 2 ?_;rw [rounds_succ];go_wp2_with fail
    go_quiet (fail)
    go_wp2_with fail;rw [rounds_succ];go_wp2_with fail;go_ret;exact ⟨rfl,_,rfl⟩
  · have hq:(s.toList==x.toList)=false:=by
      rw [beq_eq_false_iff_ne];intro e
      apply h
      rw [ByteArray.toList_eq,ByteArray.toList_eq] at e;exact ByteArray.ext (Array.toList_inj.1 e)
    have hq':(s.toList != x.toList)=true:=by rw [bne,hq]; rfl
    rw [decide_eq_false h]
    go_enter Tryz.func174,Tryz.ntmps174
    go_wp2_with fail;refine Go.wp_loop_rounds 2 ?_;rw [rounds_succ];go_wp2_with fail
    go_quiet (fail)
    go_wp2_with fail;go_ret;exact ⟨rfl,_,rfl⟩
end Ru
end Go.Proofs.YtpingbiibbmcaaaGreatDoor
