/- Laws that the last text leans on. -/
import Derived.Test.YtaapnkoooofalaaGreatQ25

set_option maxRecDepth 20000
set_option maxHeartbeats 4000000
namespace Go.Proofs.YtaapnkoooofalaaGreat
namespace Se
open Go Go.RowKit Rw So
def OutL (l:List Nd) (w:World) (e:Ending) (w':World):Prop:=∃ y,e=.returned y∧Nds w' y l∧Below w.heap.size w w'
theorem nds_nil (w:World):Nds w (.slice none 0 0) []:=⟨rfl,none,0,rfl,Nat.le_refl _,fun _=>⟨rfl,rfl⟩,fun h=>absurd h (Nat.lt_irrefl 0)⟩
theorem Goes.sz {t:Tm} (h:Goes t):Se.sz t≤200:=h.2.1
theorem Goes.len {t:Tm} (h:Goes t):(flat t).length≤200:=by rw [flat_len]; exact h.2.1
theorem x2m (v:Value) (l:List Nd) (w:World) (hv:Nds w v l) (hl:l.length≤1000) (hm:Nms l) (h0:of l=0) :
    Calls Tryz.prog 37 #[v] w (OutL [] w):=by
  have HO:=Lib.hid (fun p w1 (hb:Below w.heap.size w w1)=>Sx.y3c l p v w1 (hv.below hb) hl hm);have e:∀ p,onB l p=false:=fun p=>by unfold onB; rw [h0]; cases p <;> rfl
  have HF:Hid (∀ w1,Below w.heap.size w w1→∀ p,Calls Tryz.prog 12 #[v,.bool p] w1 fun e w'=>e=.returned (.bool false)∧Below w1.heap.size w1 w'):=Lib.hid fun w1 hb p=>by have h:=HO.out p w1 hb; rw [e p] at h; exact h
  obtain ⟨_,a,c,rfl,-⟩:=id hv;unfold OutL;clear h0 hv hm HO e
  go_enter Tryz.func37,Tryz.ntmps37
  go_wp2_with fail;refine (HF.out _ (Below.refl _ _) false).mono ?_;rintro e w1 ⟨rfl,hb⟩;have B1:=Lib.hid hb;clear hb;go_wp2_with fail;refine (HF.out _ B1.out true).mono ?_;rintro e w2 ⟨rfl,hb⟩;have B2:=Lib.hid (B1.out.trans (hb.mono B1.out.size));clear hb;go_wp2_with fail;go_ret;exact ⟨_,rfl,nds_nil _,B2.out⟩
theorem x2n (v:Value) (t:Tm) (w:World) (hv:Nds w v (flat t)) (hm:Nms (flat t)) (hg:Goes t) :
    Calls Tryz.prog 37 #[v] w (OutL (flat (S t)) w):=by
  have HO:=Lib.hid (fun p w1 (hb:Below w.heap.size w w1)=>Sx.y3c (flat t) p v w1 (hv.below hb) (by have:=hg.len; omega) hm);have HT:=Lib.hid (fun w1 (hb:Below w.heap.size w w1)=>y5a t (by have:=hg.sz; omega) hg.2.2 v w1 (hv.below hb));have e1:=z9i hg.1 hg.2.1 false;have e2:=z9i hg.1 hg.2.1 true;simp only [Bool.false_eq_true,if_false,if_true] at e1 e2;have hi:=hg.2.2
  cases h3:is t 3 with
  | true=>
    rw [h3] at e1;have HF:=Lib.hid (HO.out false w (Below.refl _ _));rw [e1] at HF;obtain ⟨_,a,c,rfl,-⟩:=id hv;unfold OutL;clear hv hm HO e1 e2 hi hg
    go_enter Tryz.func37,Tryz.ntmps37
    go_wp2_with fail;refine HF.out.mono ?_;rintro e w1 ⟨rfl,hb⟩;have B1:=Lib.hid hb;clear hb;go_wp2_with fail;refine (HT.out _ B1.out).mono ?_;rintro e w2 ⟨y,rfl,hn,hb⟩;have B2:=Lib.hid (B1.out.trans (hb.mono B1.out.size));have N2:=Lib.hid hn.nds;clear hb hn;go_wp2_with fail;go_ret;exact ⟨_,rfl,N2.out,B2.out⟩
  | false=>
    rw [h3] at e1;rw [show is t 4=true from hi.resolve_left (by rw [h3]; decide)] at e2;have HF:=Lib.hid (HO.out false w (Below.refl _ _));have HG:=Lib.hid (fun w1 (hb:Below w.heap.size w w1)=>HO.out true w1 hb);rw [e1] at HF;rw [e2] at HG;obtain ⟨_,a,c,rfl,-⟩:=id hv;unfold OutL;clear hv hm HO e1 e2 hi hg
    go_enter Tryz.func37,Tryz.ntmps37
    go_wp2_with fail;refine HF.out.mono ?_;rintro e w1 ⟨rfl,hb⟩;have B1:=Lib.hid hb;clear hb;go_wp2_with fail;refine (HG.out _ B1.out).mono ?_;rintro e w2 ⟨rfl,hb⟩;have B2:=Lib.hid (B1.out.trans (hb.mono B1.out.size));clear hb;go_wp2_with fail;refine (HT.out _ B2.out).mono ?_;rintro e w3 ⟨y,rfl,hn,hb⟩;have B3:=Lib.hid (B2.out.trans (hb.mono B2.out.size));have N3:=Lib.hid hn.nds;clear hb hn;go_wp2_with fail;go_ret;exact ⟨_,rfl,N3.out,B3.out⟩
theorem y2n (a:Option Addr) (c:Nat) (w:World):Calls Tryz.prog 13 #[.slice a 0 c] w fun e w'=>e=.returned (.bool false)∧w=w':=by
  go_enter Tryz.func13,Tryz.ntmps13
  go_wp2_with fail;go_ret;exact ⟨rfl,rfl⟩
theorem y2m (v:Value) (l m:List Nd) (w:World) (hv:Nds w v l) (hl:l.length≤1000) (hm:m.length≤1000) (h0:0<l.length) (hS:Calls Tryz.prog 37 #[v] w (OutL m w)) :
    Calls Tryz.prog 13 #[v] w fun e w'=>e=.returned (.bool (sameN m l))∧Below w.heap.size w w':=by
  have HS:=Lib.hid hS;have HV:=Lib.hid hv;obtain ⟨_,a,c,rfl,-⟩:=id hv;obtain ⟨n,hn⟩:∃ n,l.length=n+1:=⟨l.length-1,by omega⟩
  obtain ⟨q,hq⟩:∃ q,sameN m l=q:=⟨_,rfl⟩
  have HP:=Lib.hid (fun y w1 (h1:Nds w1 y m) (h2:Nds w1 (.slice a l.length c) l)=>Rx.x6d y (.slice a l.length c) m l w1 h1 h2 (by omega));rw [hq] at HP ⊢;rw [hn] at HS HV HP ⊢;have g1:(0:Int)<(n:Int)+1:=by omega
  have g2:0<n+1:=by omega
  unfold OutL at HS;clear hS hv hq hn
  go_enter Tryz.func13,Tryz.ntmps13
  go_wp2_with fail;refine HS.out.mono ?_;rintro e w1 ⟨y,rfl,hn,hb⟩;have B1:=Lib.hid hb;have N1:=Lib.hid hn;have V1:=Lib.hid (HV.out.below hb);clear hb hn;go_wp2_with fail;refine (HP.out _ _ N1.out V1.out).mono ?_;rintro e w2 ⟨rfl,hb⟩;have B2:=Lib.hid (B1.out.trans (hb.mono B1.out.size));clear hb;go_wp2_with fail;go_ret;exact ⟨rfl,B2.out⟩
end Se
namespace Sp
open Go Rw So Se Tr Mn Do
def gv:Tm→Bool
  | .over s=>s==3
  | .fin s _=>s==3
  | .seq a _=>gv a
  | .hand a _=>gv a&&!bangT a
  | .going a _=>gv a
  | .stack a _=>gv a
  | .par a b=>gv a||gv b
  | _=>false
def J:Tm→Bool
  | .seq a _=>J a
  | .hand a _=>J a
  | .going a _=>J a
  | .stack a _=>J a
  | .par a b=>J a&&J b
  | .block a=>J a&&(!gv a||bangT a)
  | _=>true
theorem stk_bang (a d:Tm):bangT (stk a d)=bangT a:=by cases a <;> rfl
theorem stk_gv (a d:Tm):gv (stk a d)=gv a:=by cases a <;> rfl
theorem stk_J (a d:Tm):J (stk a d)=J a:=by cases a <;> rfl
theorem seq_cs (S:Tm→Tm) (x b:Tm):(∃ s,x=.over s)∨(∃ s c,x=.fin s c)∨sSeq S x b=.seq x b:=by
  cases x with
  | over s=>exact .inl ⟨s,rfl⟩
  | fin s c=>exact .inr (.inl ⟨s,c,rfl⟩)
  | _=>exact .inr (.inr rfl)
theorem hand_cs (S:Tm→Tm) (x b:Tm):(∃ s,x=.over s)∨sHand S x b=.hand x b:=by
  cases x with
  | over s=>exact .inl ⟨s,rfl⟩
  | _=>exact .inr rfl
theorem block_cs (S:Tm→Tm) (x:Tm):(∃ s c,x=.fin s c)∨sBlock S x=.block x:=by
  cases x with
  | fin s c=>exact .inl ⟨s,c,rfl⟩
  | _=>exact .inr rfl
theorem going_cs (x b:Tm):(∃ s,x=.over s)∨sGoing x b=.going x b:=by
  cases x with
  | over s=>exact .inl ⟨s,rfl⟩
  | _=>exact .inr rfl
structure Run (t:Tm):Prop where
  nf:Nf t
  rg:Se.rg t=true
  is3:is t 3=true
  j:J t=true
theorem x9o {P:Mo→Tr→Prop} {A:List Mo} {p q x:Tr} (h:∃ m∈A,∃ p',P m p'∧p=ah m.l p')
    (hx:Mix p.a q.a x.a) (hf:p.a=[]∨∃ s p1 x1,p.a=s::p1∧x.a=s::x1∧Mix p1 q.a x1) :
    ∃ m∈A,∃ p' w,P m p'∧p=ah m.l p'∧x=ah m.l w∧Mix p'.a q.a w.a:=by
  obtain ⟨m,hm,p',hp,e⟩:=h
  cases hl:m.l with
  | none=>
    rw [hl] at e;refine ⟨m,hm,p',x,hp,by rw [hl]; exact e,by rw [hl]; rfl,?_⟩;have e':p=p':=e;rw [← e'];exact hx
  | some s=>
    rw [hl] at e;have e1:p.a=s::p'.a:=by rw [e]; rfl
    rcases hf with hf | ⟨s',p1,x1,h1,h2,h3⟩
    · rw [e1] at hf; cases hf
    · rw [e1] at h1;injection h1 with h1 h4;refine ⟨m,hm,p',⟨x1,x.e⟩,hp,by rw [hl]; exact e,?_,by rw [h4]; exact h3⟩;rw [hl,h1]
      show x=⟨s'::x1,x.e⟩
      rw [← h2]
theorem x1w {PA PB:Mo→Tr→Prop} {A B:Bool→List Mo} {ea eb ba bb:Bool} {p q x:Tr} (sp:Sgn p.e) (sq:Sgn q.e)
    (hx:Mix p.a q.a x.a) (he:x.e=Sg.both p.e q.e)
    (ha:ea=false→∀ d,(d=true∨p.e≠3∨p.a≠[])→∃ m∈A d,∃ p',PA m p'∧p=ah m.l p')
    (hb:eb=false→∀ d,(d=true∨q.e≠3∨q.a≠[])→∃ m∈B d,∃ q',PB m q'∧q=ah m.l q')
    (hea:ea=true→p.a=[]∧(p.e=2→ba=true)) (heb:eb=true→q.a=[]∧(q.e=2→bb=true))
    (hn:¬ (ea=true∧eb=true)) (d:Bool) (hc:d=true∨x.e≠3∨x.a≠[]) :
    (∃ m∈A (d||bb),∃ p' w,PA m p'∧p=ah m.l p'∧x=ah m.l w∧Mix p'.a q.a w.a)∨(∃ m∈B (d||ba),∃ q' w,PB m q'∧q=ah m.l q'∧x=ah m.l w∧Mix q'.a p.a w.a):=by
  obtain ⟨pa,pe⟩:=p;obtain ⟨qa,qe⟩:=q;obtain ⟨xa,xe⟩:=x;simp only at *;have goA:(∃ m∈A (d||bb),∃ p',PA m p'∧(⟨pa,pe⟩:Tr)=ah m.l p')→(pa=[]∨∃ s p1 x1,pa=s::p1∧xa=s::x1∧Mix p1 qa x1)→(∃ m∈A (d||bb),∃ p' w,PA m p'∧(⟨pa,pe⟩:Tr)=ah m.l p'∧(⟨xa,xe⟩:Tr)=ah m.l w∧Mix p'.a qa w.a):=fun h1 h2=>x9o (p:=⟨pa,pe⟩) (q:=⟨qa,qe⟩) (x:=⟨xa,xe⟩) h1 hx h2
  have goB:(∃ m∈B (d||ba),∃ p',PB m p'∧(⟨qa,qe⟩:Tr)=ah m.l p')→(qa=[]∨∃ s p1 x1,qa=s::p1∧xa=s::x1∧Mix p1 pa x1)→(∃ m∈B (d||ba),∃ q' w,PB m q'∧(⟨qa,qe⟩:Tr)=ah m.l q'∧(⟨xa,xe⟩:Tr)=ah m.l w∧Mix q'.a pa w.a):=fun h1 h2=>x9o (p:=⟨qa,qe⟩) (q:=⟨pa,pe⟩) (x:=⟨xa,xe⟩) h1 hx.comm h2
  generalize (∃ m∈A (d||bb),∃ p' w,PA m p'∧(⟨pa,pe⟩:Tr)=ah m.l p'∧(⟨xa,xe⟩:Tr)=ah m.l w∧Mix p'.a qa w.a)=GA at goA ⊢;generalize (∃ m∈B (d||ba),∃ q' w,PB m q'∧(⟨qa,qe⟩:Tr)=ah m.l q'∧(⟨xa,xe⟩:Tr)=ah m.l w∧Mix q'.a pa w.a)=GB at goB ⊢;have fa:ea=false∨ea=true:=by cases ea <;> simp
  have fb:eb=false∨eb=true:=by cases eb <;> simp
  have full:pa=[]→qa=[]→(d=true∨xe≠3)→GA∨GB:=fun e1 e2 hd=>by
    have oneA:=fun (h:ea=false) (k:(d||bb)=true∨pe≠3)=>Or.inl (b:=GB) (goA (ha h (d||bb) (k.imp id .inl)) (.inl e1))
    have oneB:=fun (h:eb=false) (k:(d||ba)=true∨qe≠3)=>Or.inr (a:=GA) (goB (hb h (d||ba) (k.imp id .inl)) (.inl e2))
    by_cases hd':d=true
    · rcases fa with h | h
      · exact oneA h (.inl (by rw [hd']; rfl))
      · rcases fb with k | k
        · exact oneB k (.inl (by rw [hd']; rfl))
        · exact absurd ⟨h,k⟩ hn
    · have hx3:xe≠3:=hd.resolve_left hd';rw [he] at hx3
      rcases fa with h | h
      · by_cases h3:pe=3
        · have q2:qe=2:=by
            subst h3
            rcases sq with rfl | rfl | rfl
            · exact absurd rfl hx3
            · rfl
            · exact absurd rfl hx3
          rcases fb with k | k
          · exact oneB k (.inr (by omega))
          · exact oneA h (.inl (by rw [(heb k).2 q2,Bool.or_true]))
        · exact oneA h (.inr h3)
      · rcases fb with k | k
        · by_cases h3:qe=3
          · have p2:pe=2:=by
              subst h3
              rcases sp with rfl | rfl | rfl
              · exact absurd rfl hx3
              · rfl
              · exact absurd rfl hx3
            exact oneB k (.inl (by rw [(hea h).2 p2,Bool.or_true]))
          · exact oneB k (.inr h3)
        · exact absurd ⟨h,k⟩ hn
  cases hx with
  | nil=>exact full rfl rfl (hc.imp id fun h=>h.resolve_right (by simp))
  | l hx'=>
    rename_i s a r
    rcases fa with h | h
    · exact .inl (goA (ha h (d||bb) (.inr (.inr (by simp)))) (.inr ⟨s,a,r,rfl,rfl,hx'⟩))
    · exact absurd (hea h).1 (by simp)
  | r hx'=>
    rename_i s b r
    rcases fb with h | h
    · exact .inr (goB (hb h (d||ba) (.inr (.inr (by simp)))) (.inr ⟨s,b,r,rfl,rfl,hx'.comm⟩))
    · exact absurd (heb h).1 (by simp)
theorem end_t {a:Tm} (h:isOver a=true) {x:Tr} (hx:x∈Mt (flat a)):x.a=[]∧(x.e=2→bangT a=true):=by
  cases a with
  | over s=>
    rw [z1j,List.mem_singleton] at hx;rw [hx];exact ⟨rfl,fun h=>by simpa [bangT] using h⟩
  | _=>cases h
theorem end_p {a:Tm} (h:isFin a=true) {z:Pr} (hz:z∈Mp (flat a)):z.p.a=[]∧(z.p.e=2→bangT a=true):=by
  cases a with
  | fin s c=>
    obtain ⟨q,_,rfl⟩:=j_fin.1 hz;exact ⟨rfl,fun h=>by simpa [bangT] using h⟩
  | _=>cases h
theorem ah_thn_e {p q:Tr} (h:(thn p q).e≠3∨(thn p q).a≠[]):p.e≠3∨p.a≠[]:=by
  by_cases h1:p.e=1
  · exact .inl (by omega)
  · unfold thn at h;rw [if_neg h1] at h;exact h
theorem ah_hnd_e {p q:Tr} (h:(hnd p q).e≠3∨(hnd p q).a≠[]):p.e≠3∨p.a≠[]:=by
  by_cases h1:p.e=2
  · exact .inl (by omega)
  · unfold hnd at h;rw [if_neg h1] at h;exact h
theorem mv_cmp:∀ t:Tm,Nf t→rg t=true→ac t≤19→∀ (d:Bool) (i:Nat),
    (is t 3=true→isOver t=false→∀ x∈Mt (flat t),(d=true∨x.e≠3∨x.a≠[])→∃ m∈mvs d t i,∃ y,y∈Mt (flat m.r)∧x=ah m.l y)∧
    (is t 4=true→isFin t=false→∀ z∈Mp (flat t),(d=true∨z.p.e≠3∨z.p.a≠[])→∃ m∈mvs d t i,∃ y,y∈Mp (flat m.r)∧z=ahp m.l y):=by
  intro t
  induction t with
  | act s=>
    intro _ _ _ d i;refine ⟨fun _ _ x hx _=>?_,fun h=>by simp [is] at h⟩;rw [mt_act,List.mem_singleton] at hx;exact ⟨_,List.mem_singleton.2 rfl,⟨[],1⟩,by rw [z1j]; exact List.mem_singleton.2 rfl,hx⟩
  | skip=>intro h; exact h.elim
  | throw=>intro h; exact h.elim
  | over s=>intro _ _ _ d i; exact ⟨fun _ h=>by simp [isOver] at h,fun h=>by simp [is] at h⟩
  | fin s c=>intro _ _ _ d i; exact ⟨fun h=>by simp [is] at h,fun _ h=>by simp [isFin] at h⟩
  | alt a b=>
    intro _ _ _ d i
    constructor
    · intro _ _ x hx _
      rcases i_alt.1 hx with h | h
      · exact ⟨_,List.mem_cons_self,x,h,rfl⟩
      · exact ⟨_,List.mem_cons_of_mem _ List.mem_cons_self,x,h,rfl⟩
    · intro _ _ x hx _
      rcases j_alt.1 hx with h | h
      · exact ⟨_,List.mem_cons_self,x,h,rfl⟩
      · exact ⟨_,List.mem_cons_of_mem _ List.mem_cons_self,x,h,rfl⟩
  | yield=>
    intro _ _ _ d i;refine ⟨fun _ _ x hx hc=>?_,fun h=>by simp [is] at h⟩;rw [y3f] at hx;simp only [List.mem_cons,List.not_mem_nil,or_false] at hx
    rcases hx with rfl | rfl
    · exact ⟨_,List.mem_cons_self,tick,by rw [z1j]; exact List.mem_singleton.2 rfl,rfl⟩
    · have hd:d=true:=by simpa using hc
      subst hd;exact ⟨_,List.mem_cons_of_mem _ List.mem_cons_self,⟨[],3⟩,by rw [z1j]; exact List.mem_singleton.2 rfl,rfl⟩
  | pair a b=>
    intro _ _ _ d i;refine ⟨fun h=>by simp [is] at h,fun _ _ z hz hc=>?_⟩
    rcases x8r.1 hz with h | rfl
    · exact ⟨_,List.mem_cons_self,z,h,rfl⟩
    · have hd:d=true:=by simpa [way] using hc
      subst hd;exact ⟨_,List.mem_cons_of_mem _ List.mem_cons_self,way,j_fin.2 ⟨tick,by rw [y3g]; exact List.mem_singleton.2 rfl,rfl⟩,rfl⟩
  | seq a b ia ib=>
    intro hn hr hc d i;rw [z7n,Bool.and_eq_true] at hr;rw [x2d] at hc;obtain ⟨h1,h2⟩:=ia hn.1 hr.1 (by omega) d (i+1)
    constructor
    · intro h _ x hx hd;simp [is] at h;obtain ⟨p,hp,q,hq,rfl⟩:=i_seq.1 hx;obtain ⟨m,hm,y,hy,e⟩:=h1 h.1 hn.2.1 p hp (hd.imp id ah_thn_e);exact ⟨_,List.mem_map.2 ⟨m,hm,rfl⟩,thn y q,i_seq.2 ⟨y,hy,q,hq,rfl⟩,by rw [e,x2c]; rfl⟩
    · intro h _ z hz hd;simp [is] at h;obtain ⟨x,hx,hz⟩:=x8q.1 hz
      have hd':d=true∨x.p.e≠3∨x.p.a≠[]:=by
        refine hd.imp id fun k=>?_
        unfold seq1 at hz
        by_cases h1:x.p.e=1
        · exact .inl (by omega)
        · rw [if_neg h1,List.mem_singleton] at hz;rw [hz] at k;exact k
      obtain ⟨m,hm,y,hy,e⟩:=h2 h.1 hn.2.2 x hx hd';subst e;unfold seq1 at hz;change z∈(if (ah m.l y.p).e=1 then (Mp (flat b)).map (fun w=>⟨thn (ah m.l y.p) w.p,thn w.q y.q⟩) else [ahp m.l y]) at hz;rw [ah_e] at hz
      by_cases h1:y.p.e=1
      · rw [if_pos h1] at hz;obtain ⟨w,hw,rfl⟩:=List.mem_map.1 hz;refine ⟨_,List.mem_map.2 ⟨m,hm,rfl⟩,⟨thn y.p w.p,thn w.q y.q⟩,x8q.2 ⟨y,hy,?_⟩,by rw [x2c]; rfl⟩;unfold seq1;rw [if_pos h1];exact List.mem_map.2 ⟨w,hw,rfl⟩
      · rw [if_neg h1,List.mem_singleton] at hz;refine ⟨_,List.mem_map.2 ⟨m,hm,rfl⟩,y,x8q.2 ⟨y,hy,?_⟩,hz⟩;unfold seq1;rw [if_neg h1];exact List.mem_singleton.2 rfl
  | hand a b ia ib=>
    intro hn hr hc d i;rw [z5s,Bool.and_eq_true] at hr;rw [y4g] at hc;obtain ⟨h1,h2⟩:=ia hn.1 hr.1 (by omega) d (i+1);refine ⟨fun h _ x hx hd=>?_,fun h=>by simp [is] at h⟩;simp [is] at h;obtain ⟨p,hp,q,hq,rfl⟩:=x1b.1 hx;obtain ⟨m,hm,y,hy,e⟩:=h1 h.1 hn.2 p hp (hd.imp id ah_hnd_e);exact ⟨_,List.mem_map.2 ⟨m,hm,rfl⟩,hnd y q,x1b.2 ⟨y,hy,q,hq,rfl⟩,by rw [e,ah_hnd]; rfl⟩
  | block a ia=>
    intro hn hr hc d i;rw [z3f] at hr;rw [z6z] at hc;obtain ⟨h1,h2⟩:=ia hn.1 hr hc false (i+1);refine ⟨fun h _ x hx hd=>?_,fun h=>by simp [is] at h⟩;simp [is] at h;obtain ⟨z,hz,hx⟩:=z9v.1 hx
    have h12:z.p.e=1∨z.p.e=2:=by
      unfold blk1 at hx
      by_cases k1:z.p.e=1
      · exact .inl k1
      · by_cases k2:z.p.e=2
        · exact .inr k2
        · rw [if_neg k1,if_neg k2] at hx; cases hx
    have hf:isFin a=false:=by
      cases a with
      | fin s c=>
        obtain ⟨q,_,rfl⟩:=j_fin.1 hz;have:=hn.2;simp [isGone] at this;simp at h12;omega
      | _=>rfl
    obtain ⟨m,hm,y,hy,e⟩:=h2 h hf z hz (.inr (.inl (by omega)));subst e;change x∈(if (ah m.l y.p).e=1 then [ah m.l y.p] else if (ah m.l y.p).e=2 then [⟨(ah m.l y.p).a++y.q.a,y.q.e⟩] else []) at hx;have h12':y.p.e=1∨y.p.e=2:=by rw [← ah_e m.l]; exact h12
    rw [ah_e] at hx
    rcases h12' with k | k
    · rw [if_pos k,List.mem_singleton] at hx;refine ⟨_,List.mem_map.2 ⟨m,hm,rfl⟩,y.p,z9v.2 ⟨y,hy,?_⟩,hx⟩;unfold blk1;rw [if_pos k];exact List.mem_singleton.2 rfl
    · rw [if_neg (by omega),if_pos k,List.mem_singleton] at hx;refine ⟨_,List.mem_map.2 ⟨m,hm,rfl⟩,⟨y.p.a++y.q.a,y.q.e⟩,z9v.2 ⟨y,hy,?_⟩,?_⟩
      · unfold blk1;rw [if_neg (by omega),if_pos k];exact List.mem_singleton.2 rfl
      · rw [hx]
        show _=ah m.l _
        cases m.l <;> rfl
  | going a b ia ib=>
    intro hn hr hc d i;rw [z3w,Bool.and_eq_true] at hr;rw [z6y] at hc;obtain ⟨h1,h2⟩:=ia hn.1 hr.1 (by omega) d (i+1);refine ⟨fun h=>by simp [is] at h,fun h _ z hz hd=>?_⟩;simp [is] at h;obtain ⟨p,hp,hz⟩:=z9t.1 hz
    have hzp:z.p=p:=by
      unfold going1 at hz
      by_cases k:p.e=1
      · rw [if_pos k] at hz;obtain ⟨y,_,rfl⟩:=List.mem_map.1 hz
        rfl
      · rw [if_neg k,List.mem_singleton] at hz;rw [hz]
    obtain ⟨m,hm,y,hy,e⟩:=h1 h.1 hn.2 p hp (by rw [← hzp]; exact hd);subst e;unfold going1 at hz;rw [ah_e] at hz
    by_cases k:y.e=1
    · rw [if_pos k] at hz;obtain ⟨w,hw,rfl⟩:=List.mem_map.1 hz;refine ⟨_,List.mem_map.2 ⟨m,hm,rfl⟩,⟨y,w⟩,z9t.2 ⟨y,hy,?_⟩,rfl⟩;unfold going1;rw [if_pos k];exact List.mem_map.2 ⟨w,hw,rfl⟩
    · rw [if_neg k,List.mem_singleton] at hz;refine ⟨_,List.mem_map.2 ⟨m,hm,rfl⟩,⟨y,tick⟩,z9t.2 ⟨y,hy,?_⟩,hz⟩;unfold going1;rw [if_neg k];exact List.mem_singleton.2 rfl
  | stack a b ia ib=>
    intro hn hr hc d i;rw [z3v,Bool.and_eq_true] at hr;rw [z8i] at hc;obtain ⟨h1,h2⟩:=ia hn.1 hr.1 (by omega) d (i+1);refine ⟨fun h=>by simp [is] at h,fun h _ z hz hd=>?_⟩;simp [is] at h;obtain ⟨x,hx,c,hc,rfl⟩:=y3o.1 hz;obtain ⟨m,hm,y,hy,e⟩:=h2 h.1 hn.2 x hx hd;subst e;exact ⟨_,List.mem_map.2 ⟨m,hm,rfl⟩,⟨y.p,thn y.q c⟩,y3o.2 ⟨y,hy,c,hc,rfl⟩,rfl⟩
  | par a b ia ib=>
    intro hn hr hc d i;rw [z4h,Bool.and_eq_true] at hr;rw [y1v] at hc;obtain ⟨n1,n2,n3,n4⟩:=hn;have ga:=fun d=>ia n1 hr.1 (by omega) d (i+1)
    have gb:=fun d=>ib n2 hr.2 (by omega) d (i+1+sz a)
    constructor
    · intro h _ x hx hd;simp [is] at h;obtain ⟨p,hp,q,hq,hx⟩:=y8o.1 hx;have l1:=y1h h.1 hp;have l2:=y1h h.2 hq;obtain ⟨hx,he⟩:=(z3j (by omega)).1 hx
      rcases x1w (PA:=fun m y=>y∈Mt (flat m.r)) (PB:=fun m y=>y∈Mt (flat m.r)) (A:=fun d=>mvs d a (i+1)) (B:=fun d=>mvs d b (i+1+sz a)) (ea:=isOver a) (eb:=isOver b) (ba:=bangT a) (bb:=bangT b)
          (st_mt h.1 hr.1 p hp) (st_mt h.2 hr.2 q hq) hx he (fun e d hd=>(ga d).1 h.1 e p hp hd) (fun e d hd=>(gb d).1 h.2 e q hq hd) (fun e=>end_t e hp) (fun e=>end_t e hq) (by rw [← Bool.and_eq_true,n3]; simp) d hd
        with ⟨m,hm,p',w,hp',e,ex,hw⟩ | ⟨m,hm,q',w,hq',e,ex,hw⟩
      · have l3:p'.a.length+lb m.l=p.a.length:=by rw [e,y0l]
        refine ⟨_,List.mem_append_left _ (List.mem_map.2 ⟨m,hm,rfl⟩),w,y8o.2 ⟨p',hp',q,hq,(z3j (by omega)).2 ⟨hw,?_⟩⟩,ex⟩;rw [← ah_e m.l w,← ex,he,e,ah_e]
      · have l3:q'.a.length+lb m.l=q.a.length:=by rw [e,y0l]
        refine ⟨_,List.mem_append_right _ (List.mem_map.2 ⟨m,hm,rfl⟩),w,y8o.2 ⟨p,hp,q',hq',(z3j (by omega)).2 ⟨hw.comm,?_⟩⟩,ex⟩;rw [← ah_e m.l w,← ex,he,e,ah_e]
    · intro h _ z hz hd;simp [is] at h;obtain ⟨x,hx,y,hy,hz,hzq⟩:=y8l.1 hz;have l1:=y1i h.1 hx;have l2:=y1i h.2 hy;obtain ⟨hz,he⟩:=(z3j (by omega)).1 hz
      rcases x1w (PA:=fun m w=>(⟨w,x.q⟩:Pr)∈Mp (flat m.r)) (PB:=fun m w=>(⟨w,y.q⟩:Pr)∈Mp (flat m.r)) (A:=fun d=>mvs d a (i+1)) (B:=fun d=>mvs d b (i+1+sz a)) (ea:=isFin a) (eb:=isFin b) (ba:=bangT a) (bb:=bangT b)
          (sp_mp h.1 hr.1 x hx).1 (sp_mp h.2 hr.2 y hy).1 hz he
          (fun e d hd=>by obtain ⟨m,hm,w,hw,ew⟩:=(ga d).2 h.1 e x hx hd; exact ⟨m,hm,w.p,by rw [ew]; exact hw,by rw [ew]; rfl⟩)
          (fun e d hd=>by obtain ⟨m,hm,w,hw,ew⟩:=(gb d).2 h.2 e y hy hd; exact ⟨m,hm,w.p,by rw [ew]; exact hw,by rw [ew]; rfl⟩)
          (fun e=>end_p e hx) (fun e=>end_p e hy) (by rw [← Bool.and_eq_true,n4]; simp) d hd
        with ⟨m,hm,p',w,hp',e,ex,hw⟩ | ⟨m,hm,q',w,hq',e,ex,hw⟩
      · have l3:p'.a.length+lb m.l=x.p.a.length:=by rw [e,y0l]
        refine ⟨_,List.mem_append_left _ (List.mem_map.2 ⟨m,hm,rfl⟩),⟨w,z.q⟩,y8l.2 ⟨_,hp',y,hy,(z3j (by show p'.a.length+_≤_; omega)).2 ⟨hw,?_⟩,hzq⟩,by show z=⟨ah m.l w,z.q⟩; rw [← ex]⟩
        show w.e=Sg.both p'.e y.p.e
        rw [← ah_e m.l w,← ex,he,e,ah_e]
      · have l3:q'.a.length+lb m.l=y.p.a.length:=by rw [e,y0l]
        refine ⟨_,List.mem_append_right _ (List.mem_map.2 ⟨m,hm,rfl⟩),⟨w,z.q⟩,y8l.2 ⟨x,hx,_,hq',(z3j (by show _+q'.a.length≤_; omega)).2 ⟨hw.comm,?_⟩,hzq⟩,by show z=⟨ah m.l w,z.q⟩; rw [← ex]⟩
        show w.e=Sg.both x.p.e q'.e
        rw [← ah_e m.l w,← ex,he,e,ah_e]
theorem mv_means {t:Tm} (hn:Nf t) (hr:rg t=true) (hc:ac t≤19) (hi:is t 3=true) (ho:isOver t=false) (i:Nat) (x:Tr) :
    x∈Mt (flat t)↔∃ m∈mvs true t i,∃ y,y∈Mt (flat (S m.r))∧x=ah m.l y:=by
  have back:∀ m∈mvs true t i,Mt (flat (S m.r))=Mt (flat m.r):=fun m hm=>(S_mean m.r (by have:=mv_ac t true i m hm; omega)).1 ((mv_is t true i m hm).1 hi)
  constructor
  · intro hx;obtain ⟨m,hm,y,hy,e⟩:=(mv_cmp t hn hr hc true i).1 hi ho x hx (.inl rfl);exact ⟨m,hm,y,by rw [back m hm]; exact hy,e⟩
  · rintro ⟨m,hm,y,hy,rfl⟩;rw [back m hm] at hy;exact (mv_snd t true i m hm hc).1 hi y hy
end Sp
namespace Co
open Go Rw So Se Do Sp
def mo:Tm→Nat
  | .act _=>1
  | .yield=>1
  | .alt a b=>1+max (mo a) (mo b)
  | .pair a b=>mo a+mo b+1
  | .seq a b=>mo a+mo b
  | .par a b=>mo a+mo b
  | .hand a b=>mo a+mo b
  | .going a b=>mo a+mo b
  | .stack a b=>mo a+mo b
  | .block a=>mo a
  | .fin _ c=>mo c
  | _=>0
def le:Tm→Nat
  | .act _=>1
  | .yield=>1
  | .alt a b=>1+min (le a) (le b)
  | .pair a b=>le a+le b+1
  | .seq a b=>le a+le b
  | .par a b=>le a+le b
  | .hand a b=>le a+le b
  | .going a b=>le a+le b
  | .stack a b=>le a+le b
  | .block a=>le a
  | .fin _ c=>le c
  | _=>0
def ch (t:Tm):Nat:=ct (fun x=>decide (x.k=1)||decide (x.k=4)||decide (x.k=6)||decide (x.k=10)) t
theorem plainC:Plain (fun x=>decide (x.k=1)||decide (x.k=4)||decide (x.k=6)||decide (x.k=10)):=⟨fun _=>rfl,fun _=>rfl,rfl,rfl,rfl,rfl,rfl⟩
theorem S_ch (t:Tm):ch (S t)≤ch t:=S_ct plainC t
theorem y0k {t a b:Tm} {k:Int} (e:flat t=nOf k::(flat a++flat b)):ch t=ch a+ch b+(if k=6∨k=10∨k=1∨k=4 then 1 else 0):=by
  unfold ch;rw [y0e e]
  congr 1
  show (if (decide (k=1)||decide (k=4)||decide (k=6)||decide (k=10))=true then 1 else 0)=_
  by_cases h1:k=1 <;> by_cases h2:k=4 <;> by_cases h3:k=6 <;> by_cases h4:k=10 <;> simp [h1,h2,h3,h4]
theorem ch_seq (a b:Tm):ch (.seq a b)=ch a+ch b:=y0k (k:=5) rfl
theorem ch_par (a b:Tm):ch (.par a b)=ch a+ch b:=y0k (k:=7) rfl
theorem ch_hand (a b:Tm):ch (.hand a b)=ch a+ch b:=y0k (k:=8) rfl
theorem ch_going (a b:Tm):ch (.going a b)=ch a+ch b:=y0k (k:=12) rfl
theorem ch_stack (a b:Tm):ch (.stack a b)=ch a+ch b:=y0k (k:=13) rfl
theorem ch_alt (a b:Tm):ch (.alt a b)=ch a+ch b+1:=y0k (k:=6) rfl
theorem ch_pair (a b:Tm):ch (.pair a b)=ch a+ch b+1:=y0k (k:=10) rfl
theorem ch_block (a:Tm):ch (.block a)=ch a:=by unfold ch; rw [z4b]; rfl
theorem ch_fin (s:Int) (c:Tm):ch (.fin s c)=ch c:=by unfold ch; rw [z7q]; rfl
theorem ch_act (s:ByteArray):ch (.act s)=1:=rfl
theorem ch_yield:ch .yield=1:=rfl
theorem ch_over (s:Int):ch (.over s)=0:=rfl
theorem ch_skip:ch .skip=0:=rfl
theorem mv_ch:∀ (t:Tm) (d:Bool) (i:Nat),∀ m∈mvs d t i,ch m.r<ch t:=by
  refine y5k (P:=fun t m=>ch m.r<ch t) ?_ ?_ ?_ ?_ ?_ ?_ ?_ ?_ ?_ ?_ ?_ ?_ ?_ ?_
  all_goals intros
  all_goals simp only [upm,ch_seq,ch_par,ch_hand,ch_going,ch_stack,ch_alt,ch_pair,ch_block,ch_fin,ch_act,ch_yield,ch_over,ch_skip] at *
  all_goals omega
end Co
namespace Do
open Go Go.RowKit Rw So Se
structure Nums (n g:Nat) (f:Nat→Nat) (w:World):Prop where
  cell:∀ j:Nat,j<n→w.cell? ⟨g,j,none⟩=some (.int .i64 (f j:Int))
  soft:∀ j:Nat,w.frozen? ⟨g,j,none⟩=false
theorem Nums.below {n g M:Nat} {f:Nat→Nat} {w w':World} (h:Nums n g f w) (hb:Below M w w') (hg:g<M):Nums n g f w':=
  ⟨fun j hj=>by rw [hb.cell (p:=⟨g,j,none⟩) hg]; exact h.cell j hj,fun j=>(World.frozen?_of_block (hb.block _ hg)).trans (h.soft j)⟩
def rv (n:Nat) (f:Nat→Nat) (k m:Nat):Nat:=if m<k∨n<m+k+1 then f (n-1-m) else f m
theorem Nums.swap {n g:Nat} {f:Nat→Nat} {k:Nat} {w:World} (h:Nums n g (rv n f k) w) (hk:k+k+1<n) :
    Nums n g (rv n f (k+1)) ((w.setCell ⟨g,k,none⟩ (.int .i64 (rv n f k (n-1-k):Int))).setCell ⟨g,n-1-k,none⟩ (.int .i64 (rv n f k k:Int))):=by
  refine ⟨fun j hj=>?_,fun j=>by rw [z1x,z1x]; exact h.soft j⟩
  by_cases e1:j=n-1-k
  · subst e1;rw [z1g (u:=.int .i64 (rv n f k (n-1-k):Int)) (by rw [z1y (by omega)]; exact h.cell _ hj)]
    congr 3
    unfold rv;rw [if_neg (by omega),if_pos (by omega)]
    congr 1
    omega
  · rw [z1y (fun e=>e1 e.symm)]
    by_cases e2:j=k
    · subst e2;rw [z1g (h.cell _ hj)]
      congr 3
      unfold rv;rw [if_neg (by omega),if_pos (by omega)]
    · rw [z1y (fun e=>e2 e.symm),h.cell j hj]
      congr 3
      unfold rv
      by_cases e3:j<k∨n<j+k+1
      · rw [if_pos e3,if_pos (by omega)]
      · rw [if_neg e3,if_neg (by omega)]
theorem x6m (a:Option Addr) (c:Nat) (w:World):Calls Tryz.prog 184 #[.slice a 0 c] w fun e w'=>e=.returned (.tuple #[])∧w'=w:=by
  go_enter Tryz.func184,Tryz.ntmps184
  go_wp2_with fail;refine Go.wp_loop_rounds 1 ?_;rw [rounds_succ];go_wp2_with fail;go_end0;exact ⟨rfl,rfl⟩
theorem rev_any (g c n:Nat) (f:Nat→Nat) (w:World) (_hc:n≤c) (hn:1≤n) (hl:n≤1000) (h:Nums n g f w) :
    Calls Tryz.prog 184 #[.slice (some ⟨g,0,none⟩) n c] w fun e w'=>e=.returned (.tuple #[])∧Nums n g (fun m=>f (n-1-m)) w'∧Below g w w':=by
  have H:=Lib.hid h;clear h
  go_enter Tryz.func184,Tryz.ntmps184
  go_wp2_with fail
  go_loopw [2,3] (fun i j wr=>∃ k:Nat,k+k≤n∧i=.int .i64 k∧j=.int .i64 ((n:Int)-1-k)∧Hid (Below g w wr)∧Hid (Nums n g (rv n f k) wr)) (fun i _ _=>n-(intOf i).toNat)
  case atStart=>exact ⟨0,by omega,rfl,by go_num,Lib.hid (Below.refl _ _),Lib.hid ⟨fun j hj=>by rw [H.out.cell j hj]; congr 3; unfold rv; rw [if_neg (by omega)],H.out.soft⟩⟩
  case round=>
    obtain ⟨k,hk,rfl,rfl,HB,HS⟩:=hrel
    by_cases hlt:(k:Int)<(n:Int)-1-k
    · have hk2:k+k+1<n:=by omega
      obtain ⟨j,hj⟩:∃ j,n-1-k=j:=⟨_,rfl⟩
      have hj2:(n:Int)-1-k=j:=by omega
      have e1:=HS.out.cell k (by omega);have e2:=HS.out.cell j (by omega);have f1:=HS.out.soft k;have f2:=HS.out.soft j;have NW:=Lib.hid (HS.out.swap hk2);rw [hj] at NW;rw [hj2] at hlt ⊢;have jn:(j:Int)<n:=by omega
      have kn:(k:Int)<n:=by omega
      generalize (rv n f k k:Int)=x at e1 NW;generalize (rv n f k j:Int)=y at e2 NW;have kj:(k:Int)≠j:=by omega
      have ckj:wr.cell? ⟨g,k,none⟩=some (.int .i64 x):=e1;have HJ:Hid ((j:Int)=(n:Int)-1-k∧k+k+1<n):=Lib.hid ⟨hj2.symm,hk2⟩;clear hj hj2 hk2;go_wp2_with fail
      go_region
      go_wp2_with fail
      go_roundw
      case rel=>exact ⟨k+1,by have:=HJ.out; omega,by go_num,by have:=HJ.out; go_num,Lib.hid (Rx.z0y (Rx.z0y HB.out g _ _ (Nat.le_refl _)) g _ _ (Nat.le_refl _)).drew,Lib.hid ⟨NW.out.cell,NW.out.soft⟩⟩
      case measure=>simp [intOf]; omega
    · have H2:Hid (Nums n g (fun m=>f (n-1-m)) wr):=Lib.hid ⟨fun j hj=>by
        rw [HS.out.cell j hj]
        congr 3
        unfold rv
        split
        · rfl
        · congr 1
          omega,HS.out.soft⟩
      clear HS;go_wp2_with fail;go_end0;exact ⟨rfl,H2.out,HB.out⟩
end Do
end Go.Proofs.YtaapnkoooofalaaGreat
