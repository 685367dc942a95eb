/- Laws that the last text leans on. -/
import Derived.Test.YtpingbiibbmcaaaGreatDoorQ25

set_option maxHeartbeats 1000000
namespace Go.Proofs.YtpingbiibbmcaaaGreatDoor
namespace Sp
open Go Rw YtpingbiibbmcaaaGreatDoor.So Se Tr Mn Do
def gv:Tm→Bool
  | .over s=>s==3
  | .fin s _=>s==3
  | .seq a _=>gv a
  | .hand a _=>gv a&&!bangT a
  | .going a _=>gv a
  | .stack a _=>gv a
  | .par a b=>gv a||gv b
  | _=>false
def J:Tm→Bool
  | .seq a _=>J a
  | .hand a _=>J a
  | .going a _=>J a
  | .stack a _=>J a
  | .par a b=>J a&&J b
  | .block a=>J a&&(!gv a||bangT a)
  | _=>true
theorem J_stuck:∀ t:Tm,J t=true→Se.stuck t=false:=by
  intro t
  induction t with
  | block a ia=>
    intro h;simp only [J,Bool.and_eq_true] at h;simp only [Se.stuck,ia h.1,Bool.or_false]
    cases a with
    | fin s c=>
      have h2:=h.2;simp only [gv,bangT,isQuery] at h2 ⊢
      by_cases hs:s=3
      · subst hs; simp at h2
      · simpa using hs
    | _=>rfl
  | par a b ia ib=>intro h; simp only [J,Bool.and_eq_true] at h; simp [Se.stuck,ia h.1,ib h.2]
  | seq a b ia ib=>intro h; exact ia h
  | hand a b ia ib=>intro h; exact ia h
  | going a b ia ib=>intro h; exact ia h
  | stack a b ia ib=>intro h; exact ia h
  | _=>intro _; rfl
theorem x1h (a d:Tm):bangT (stk a d)=bangT a:=by cases a <;> rfl
theorem x7z (a d:Tm):gv (stk a d)=gv a:=by cases a <;> rfl
theorem stk_J (a d:Tm):J (stk a d)=J a:=by cases a <;> rfl
theorem seq_cs (S:Tm→Tm) (x b:Tm):(∃ s,x=.over s)∨(∃ s c,x=.fin s c)∨sSeq S x b=.seq x b:=by
  cases x with
  | over s=>exact .inl ⟨s,rfl⟩
  | fin s c=>exact .inr (.inl ⟨s,c,rfl⟩)
  | _=>exact .inr (.inr rfl)
theorem v2f (S:Tm→Tm) (x b:Tm):(∃ s,x=.over s)∨sHand S x b=.hand x b:=by
  cases x with
  | over s=>exact .inl ⟨s,rfl⟩
  | _=>exact .inr rfl
theorem y4s (S:Tm→Tm) (x:Tm):(∃ s c,x=.fin s c)∨sBlock S x=.block x:=by
  cases x with
  | fin s c=>exact .inl ⟨s,c,rfl⟩
  | _=>exact .inr rfl
theorem going_cs (x b:Tm):(∃ s,x=.over s)∨sGoing x b=.going x b:=by
  cases x with
  | over s=>exact .inl ⟨s,rfl⟩
  | _=>exact .inr rfl
theorem S_gv:∀ t:Tm,rg t=true→
    ((is t 1=true∨is t 2=true)→gv (S t)=false∧J (S t)=true)∧
    ((is t 3=true∨is t 4=true)→(bangT t=true→bangT (S t)=true)∧(gv (S t)=true→gv t=true)∧(J t=true→J (S t)=true)):=by
  apply y7t
  intro t ih hr
  cases t with
  | act s=>simp [S_act,gv,J,bangT]
  | skip=>simp [y7s,gv,J,bangT]
  | throw=>simp [y0x,gv,J,bangT]
  | yield=>simp [x1d,gv,J,bangT]
  | over s=>simp [v4i,is]
  | fin s c=>simp [S_fin,is]
  | alt a b=>simp [S_alt,gv,J]
  | pair a b=>simp [v4h,gv,J]
  | seq a b=>
    rw [z7p,Bool.and_eq_true] at hr;obtain ⟨a1,a2⟩:=ih a (by simp [sz]; omega) hr.1;obtain ⟨b1,b2⟩:=ih b (by simp [sz]; omega) hr.2;rw [y4x];generalize S a=x at a1 a2 ⊢
    constructor
    · intro h;have h1:(is a 1=true∨is a 2=true)∧(is b 1=true∨is b 2=true):=by simp [is] at h; rcases h with h | h <;> simp [h.1,h.2]
      obtain ⟨c1,c2⟩:=a1 h1.1;obtain ⟨d1,d2⟩:=b1 h1.2;clear a1 a2 b1 b2
      rcases seq_cs S x b with ⟨s,rfl⟩ | ⟨s,c,rfl⟩ | e
      · simp only [sSeq]
        split
        · exact ⟨d1,d2⟩
        · exact ⟨c1,c2⟩
      · simp only [sSeq]
        split
        · rw [x7z,stk_J]; exact ⟨d1,d2⟩
        · exact ⟨c1,c2⟩
      · rw [e]; exact ⟨c1,c2⟩
    · intro h;have h1:(is a 3=true∨is a 4=true)∧(is b 1=true∨is b 2=true):=by simp [is] at h; rcases h with h | h <;> simp [h.1,h.2]
      obtain ⟨c1,c2,c3⟩:=a2 h1.1;obtain ⟨d1,d2⟩:=b1 h1.2
      show (bangT a=true→_)∧(_→gv a=true)∧(J a=true→_)
      clear a1 a2 b1 b2
      rcases seq_cs S x b with ⟨s,rfl⟩ | ⟨s,c,rfl⟩ | e
      · simp only [sSeq]
        split
        · rename_i hs
          subst hs;exact ⟨fun k=>absurd (c1 k) (by simp [bangT]),fun k=>absurd (d1.symm.trans k) (by decide),fun _=>d2⟩
        · exact ⟨c1,c2,c3⟩
      · simp only [sSeq]
        split
        · rename_i hs
          subst hs;rw [x7z,stk_J,x1h];exact ⟨fun k=>absurd (c1 k) (by simp [bangT]),fun k=>absurd (d1.symm.trans k) (by decide),fun _=>d2⟩
        · exact ⟨c1,c2,c3⟩
      · rw [e]; exact ⟨c1,c2,c3⟩
  | hand a b=>
    rw [z5o,Bool.and_eq_true] at hr;obtain ⟨a1,a2⟩:=ih a (by simp [sz]; omega) hr.1;obtain ⟨b1,b2⟩:=ih b (by simp [sz]; omega) hr.2;rw [z6r];generalize S a=x at a1 a2 ⊢
    constructor
    · intro h;have h1:(is a 1=true∨is a 2=true)∧(is b 1=true∨is b 2=true):=by simp [is] at h; simp [h.1,h.2]
      obtain ⟨c1,c2⟩:=a1 h1.1;obtain ⟨d1,d2⟩:=b1 h1.2;clear a1 a2 b1 b2
      rcases v2f S x b with ⟨s,rfl⟩ | e
      · simp only [sHand]
        split
        · exact ⟨d1,d2⟩
        · exact ⟨c1,c2⟩
      · rw [e]; exact ⟨by simp [gv,c1],c2⟩
    · intro h;have h1:(is a 3=true∨is a 4=true)∧(is b 1=true∨is b 2=true):=by simp [is] at h; simp [h.1,h.2]
      obtain ⟨c1,c2,c3⟩:=a2 h1.1;obtain ⟨d1,d2⟩:=b1 h1.2;refine ⟨fun h=>by simp [bangT] at h,?_⟩
      show (_→(gv a&&!bangT a)=true)∧(J a=true→_)
      rw [Bool.and_eq_true,Bool.not_eq_true']
      have nb:bangT x=false→bangT a=false:=fun k=>by
        cases hb:bangT a with
        | false=>rfl
        | true=>rw [c1 hb] at k; cases k
      clear a1 a2 b1 b2
      rcases v2f S x b with ⟨s,rfl⟩ | e
      · simp only [sHand]
        split
        · exact ⟨fun k=>absurd (d1.symm.trans k) (by decide),fun _=>d2⟩
        · rename_i hs
          exact ⟨fun k=>⟨c2 k,nb (by simpa [bangT] using hs)⟩,fun _=>rfl⟩
      · rw [e];refine ⟨fun k=>?_,c3⟩;have k':(gv x&&!bangT x)=true:=k;rw [Bool.and_eq_true,Bool.not_eq_true'] at k';exact ⟨c2 k'.1,nb k'.2⟩
  | par a b=>
    rw [z5k,Bool.and_eq_true] at hr;obtain ⟨a1,a2⟩:=ih a (by simp [sz]; omega) hr.1;obtain ⟨b1,b2⟩:=ih b (by simp [sz]; omega) hr.2;have ra:=S_rg a hr.1;have rb:=S_rg b hr.2;rw [y4y];generalize S a=x at a1 a2 ra ⊢;generalize S b=y at b1 b2 rb ⊢
    have two:∀ s u:Int,(1≤s∧s≤3)→(1≤u∧u≤3)→((s==3)=true∨(u==3)=true∨(Sg.both s u==3)=false)∧((Sg.both s u==2)=((s==2)||(u==2))):=by
      intro s u hs hu;have h1:s=1∨s=2∨s=3:=by omega
      have h2:u=1∨u=2∨u=3:=by omega
      rcases h1 with rfl | rfl | rfl <;> rcases h2 with rfl | rfl | rfl <;> decide
    have ends:∀ G:Tm→Tm→Prop,(∀ s u,rg (.over s)=true→rg (.over u)=true→x=.over s→y=.over u→G (.over s) (.over u))→(∀ s c u e,rg (.fin s c)=true→rg (.fin u e)=true→x=.fin s c→y=.fin u e→G (.fin s c) (.fin u e))→(sPar x y=.par x y→G x y)→G x y:=by
      intro G g1 g2 g3
      cases x with
      | over s=>
        cases y with
        | over u=>exact g1 s u ra rb rfl rfl
        | _=>exact g3 rfl
      | fin s c=>
        cases y with
        | fin u e=>exact g2 s c u e ra rb rfl rfl
        | _=>exact g3 rfl
      | _=>exact g3 rfl
    constructor
    · intro h;have h1:(is a 1=true∨is a 2=true)∧(is b 1=true∨is b 2=true):=by simp [is] at h; rcases h with h | h <;> simp [h.1,h.2]
      obtain ⟨c1,c2⟩:=a1 h1.1;obtain ⟨d1,d2⟩:=b1 h1.2;refine ends (fun x y=>gv (sPar x y)=false∧J (sPar x y)=true) ?_ ?_ ?_
      · intro s u rs ru e1 e2;subst e1; subst e2;simp only [z9i,Bool.and_eq_true,decide_eq_true_eq] at rs ru;obtain ⟨t1,t2⟩:=two s u rs ru;simp only [gv] at c1 d1;rw [c1,d1] at t1;exact ⟨by simpa [sPar,gv] using t1,rfl⟩
      · intro s c u e rs ru e1 e2;subst e1; subst e2;simp only [z5l,z4z,Bool.and_eq_true,decide_eq_true_eq] at rs ru;obtain ⟨t1,t2⟩:=two s u rs.1 ru.1;simp only [gv] at c1 d1;rw [c1,d1] at t1;exact ⟨by simpa [sPar,gv] using t1,rfl⟩
      · intro e; rw [e]; simp [gv,J,c1,c2,d1,d2]
    · intro h;have h1:(is a 3=true∨is a 4=true)∧(is b 3=true∨is b 4=true):=by simp [is] at h; rcases h with h | h <;> simp [h.1,h.2]
      obtain ⟨c1,c2,c3⟩:=a2 h1.1;obtain ⟨d1,d2,d3⟩:=b2 h1.2;simp only [bangT,gv,J,Bool.or_eq_true,Bool.and_eq_true];refine ends (fun x y=>(bangT a=true∨bangT b=true→bangT (sPar x y)=true)∧(gv (sPar x y)=true→gv a=true∨gv b=true)∧(J a=true∧J b=true→J (sPar x y)=true)) ?_ ?_ ?_
      · intro s u rs ru e1 e2;subst e1; subst e2;simp only [z9i,Bool.and_eq_true,decide_eq_true_eq] at rs ru;obtain ⟨t1,t2⟩:=two s u rs ru;refine ⟨fun k=>?_,fun k=>?_,fun _=>rfl⟩
        · show (Sg.both s u==2)=true
          rw [t2,Bool.or_eq_true];exact k.imp c1 d1
        · have k':(Sg.both s u==3)=true:=k;rw [k'] at t1
          rcases t1 with t1 | t1 | t1
          · exact .inl (c2 t1)
          · exact .inr (d2 t1)
          · cases t1
      · intro s c u e rs ru e1 e2;subst e1; subst e2;simp only [z5l,z4z,Bool.and_eq_true,decide_eq_true_eq] at rs ru;obtain ⟨t1,t2⟩:=two s u rs.1 ru.1;refine ⟨fun k=>?_,fun k=>?_,fun _=>rfl⟩
        · show (Sg.both s u==2)=true
          rw [t2,Bool.or_eq_true];exact k.imp c1 d1
        · have k':(Sg.both s u==3)=true:=k;rw [k'] at t1
          rcases t1 with t1 | t1 | t1
          · exact .inl (c2 t1)
          · exact .inr (d2 t1)
          · cases t1
      · intro e;rw [e];simp only [bangT,gv,J,Bool.or_eq_true,Bool.and_eq_true];exact ⟨fun k=>k.imp c1 d1,fun k=>k.imp c2 d2,fun k=>⟨c3 k.1,d3 k.2⟩⟩
  | block a=>
    rw [z3b] at hr;obtain ⟨a1,a2⟩:=ih a (by simp [sz]) hr;have hs:=S_sz a;have ra:=S_rg a hr;have ks:=S_is a;rw [z4f];generalize S a=x at a1 a2 hs ra ks ⊢
    have y9t:∀ s c,x=.fin s c→is a 4=true→gv (S c)=false∧J (S c)=true:=by
      intro s c e h4;subst e;have k4:=ks.2 h4;simp [is] at k4;simp only [sz] at hs;rw [z5l,Bool.and_eq_true] at ra;exact (ih c (by simp [sz]; omega) ra.2).1 (.inl k4)
    constructor
    · intro h;have h1:is a 2=true:=by simpa [is] using h
      obtain ⟨c1,c2⟩:=a1 (.inr h1);have h4:=(is13 a).2 h1
      rcases y4s S x with ⟨s,c,rfl⟩ | e
      · obtain ⟨d1,d2⟩:=y9t s c rfl h4;simp only [sBlock]
        split
        · exact ⟨rfl,rfl⟩
        · split
          · exact ⟨d1,d2⟩
          · exact ⟨rfl,by simp [J,c1]⟩
      · rw [e]; exact ⟨rfl,by simp [J,c1,c2]⟩
    · intro h;have h4:is a 4=true:=by simpa [is] using h
      obtain ⟨c1,c2,c3⟩:=a2 (.inr h4);refine ⟨fun k=>by simp [bangT] at k,?_,?_⟩
      · rcases y4s S x with ⟨s,c,rfl⟩ | e
        · obtain ⟨d1,d2⟩:=y9t s c rfl h4;simp only [sBlock]
          split
          · intro k; cases k
          · split
            · rw [d1]; intro k; cases k
            · intro k; cases k
        · rw [e]; intro k; cases k
      · intro k;simp only [J,Bool.and_eq_true,Bool.or_eq_true,Bool.not_eq_true'] at k;have k2:gv x=true→bangT x=true:=fun g=>c1 (k.2.resolve_left (by rw [c2 g]; simp))
        have k3:=c3 k.1
        have fine:J (.block x)=true:=by
          simp only [J,Bool.and_eq_true,Bool.or_eq_true,Bool.not_eq_true'];refine ⟨k3,?_⟩
          cases hg:gv x with
          | false=>exact .inl rfl
          | true=>exact .inr (k2 hg)
        rcases y4s S x with ⟨s,c,rfl⟩ | e
        · obtain ⟨d1,d2⟩:=y9t s c rfl h4;simp only [sBlock]
          split
          · rfl
          · split
            · exact d2
            · exact fine
        · rw [e]; exact fine
  | going a b=>
    rw [z3u,Bool.and_eq_true] at hr;obtain ⟨a1,a2⟩:=ih a (by simp [sz]; omega) hr.1;rw [z4e];generalize S a=x at a1 a2 ⊢;refine ⟨fun h=>by simp [is] at h,fun h=>?_⟩;have h1:is a 3=true:=by simp [is] at h; exact h.1
    obtain ⟨c1,c2,c3⟩:=a2 (.inl h1)
    show (bangT a=true→_)∧(_→gv a=true)∧(J a=true→_)
    clear a1 a2
    rcases going_cs x b with ⟨s,rfl⟩ | e
    · simp only [sGoing]
      split
      · rename_i hs
        subst hs;exact ⟨fun k=>absurd (c1 k) (by simp [bangT]),fun k=>by simp [gv] at k,fun _=>rfl⟩
      · exact ⟨c1,c2,fun _=>rfl⟩
    · rw [e]; exact ⟨c1,c2,c3⟩
  | stack a b=>
    rw [z3t,Bool.and_eq_true] at hr;obtain ⟨a1,a2⟩:=ih a (by simp [sz]; omega) hr.1;rw [z4d,x7z,stk_J,x1h];refine ⟨fun h=>by simp [is] at h,fun h=>?_⟩;have h1:is a 4=true:=by simp [is] at h; exact h.1
    exact a2 (.inr h1)
theorem v0u:∀ (t:Tm) (d:Bool) (i:Nat),∀ m∈mvs d t i,bangT t=true→bangT m.r=true:=by
  refine y1p (P:=fun t m=>bangT t=true→bangT m.r=true) ?_ ?_ ?_ ?_ ?_ ?_ ?_ ?_ ?_ ?_ ?_ ?_ ?_ ?_
  · intro s i h; cases h
  · intro a b i h; cases h
  · intro a b i h; cases h
  · intro i h; cases h
  · intro i h; cases h
  · intro a b i h; cases h
  · intro a b i h; cases h
  · intro a b m h k; exact h k
  · intro a b m h k; cases k
  · intro a b m h k; exact h k
  · intro a b m h k; exact h k
  · intro a m h k; cases k
  · intro a b m h k;simp only [upm,bangT,Bool.or_eq_true] at k ⊢;exact k.imp h id
  · intro a b m h k;simp only [upm,bangT,Bool.or_eq_true] at k ⊢;exact k.imp id h
theorem y4a:∀ t:Tm,(is t 1=true∨is t 2=true)→gv t=false∧J t=true:=by
  intro t
  induction t with
  | seq a b ia ib=>intro h; exact ia (by simp [is] at h; exact h.imp (·.1) (·.1))
  | hand a b ia ib=>
    intro h;have:=ia (by simp [is] at h; exact .inl h.1);exact ⟨by simp [gv,this.1],this.2⟩
  | going a b ia ib=>intro h; simp [is] at h
  | stack a b ia ib=>intro h; simp [is] at h
  | over s=>intro h; simp [is] at h
  | fin s c=>intro h; simp [is] at h
  | block a ia=>
    intro h;have:=ia (by simp [is] at h; exact .inr h);exact ⟨rfl,by simp [J,this.1,this.2]⟩
  | par a b ia ib=>
    intro h;have h1:=ia (by simp [is] at h; exact h.imp (·.1) (·.1));have h2:=ib (by simp [is] at h; exact h.imp (·.2) (·.2));exact ⟨by simp [gv,h1.1,h2.1],by simp [J,h1.2,h2.2]⟩
  | _=>intro _; exact ⟨rfl,rfl⟩
theorem mv_gv:∀ (t:Tm) (d:Bool) (i:Nat),∀ m∈mvs d t i,(is t 3=true∨is t 4=true)→(gv m.r=true→gv t=true∨d=true∨bangT m.r=true)∧(J t=true→J m.r=true):=by
  intro t
  induction t with
  | act s=>intro d i m hm _; simp only [mvs,List.mem_singleton] at hm; subst hm; exact ⟨fun k=>by simp [gv] at k,fun _=>rfl⟩
  | alt a b=>
    intro d i m hm h;have h1:(is a 1=true∨is a 2=true)∧(is b 1=true∨is b 2=true):=by simp [is] at h; rcases h with h | h <;> simp [h.1,h.2]
    simp only [mvs,List.mem_cons,List.not_mem_nil,or_false] at hm
    rcases hm with rfl | rfl
    · obtain ⟨g1,g2⟩:=y4a a h1.1;exact ⟨fun k=>absurd (g1.symm.trans k) (by decide),fun _=>g2⟩
    · obtain ⟨g1,g2⟩:=y4a b h1.2;exact ⟨fun k=>absurd (g1.symm.trans k) (by decide),fun _=>g2⟩
  | yield=>
    intro d i m hm _
    cases d with
    | false=>simp [mvs] at hm; subst hm; exact ⟨fun k=>by simp [gv] at k,fun _=>rfl⟩
    | true=>simp [mvs] at hm; rcases hm with rfl | rfl <;> exact ⟨fun _=>.inr (.inl rfl),fun _=>rfl⟩
  | pair a b=>
    intro d i m hm h;have h1:is a 1=true∨is a 2=true:=by simp [is] at h; exact .inl h.1
    obtain ⟨g1,g2⟩:=y4a a h1;have go:(gv (.going a b)=true→gv (.pair a b)=true∨d=true∨bangT (.going a b)=true)∧(J (.pair a b)=true→J (.going a b)=true):=⟨fun k=>absurd (g1.symm.trans k) (by decide),fun _=>g2⟩
    cases d with
    | false=>simp [mvs] at hm; subst hm; exact go
    | true=>
      simp [mvs] at hm
      rcases hm with rfl | rfl
      · exact go
      · exact ⟨fun _=>.inr (.inl rfl),fun _=>rfl⟩
  | seq a b ia ib=>
    intro d i m hm h;obtain ⟨n,hn,rfl⟩:=List.mem_map.1 hm;have h1:is a 3=true∨is a 4=true:=by simp [is] at h; exact h.imp (·.1) (·.1)
    exact ia _ _ n hn h1
  | going a b ia ib=>
    intro d i m hm h;obtain ⟨n,hn,rfl⟩:=List.mem_map.1 hm;have h1:is a 3=true∨is a 4=true:=by simp [is] at h; exact .inl h.1
    exact ia _ _ n hn h1
  | stack a b ia ib=>
    intro d i m hm h;obtain ⟨n,hn,rfl⟩:=List.mem_map.1 hm;have h1:is a 3=true∨is a 4=true:=by simp [is] at h; exact .inr h.1
    exact ia _ _ n hn h1
  | hand a b ia ib=>
    intro d i m hm h;obtain ⟨n,hn,rfl⟩:=List.mem_map.1 hm;have h1:is a 3=true∨is a 4=true:=by simp [is] at h; exact .inl h.1
    obtain ⟨k1,k2⟩:=ia _ _ n hn h1;refine ⟨fun k=>?_,k2⟩;simp only [upm,gv,bangT,Bool.and_eq_true,Bool.not_eq_true'] at k ⊢
    rcases k1 k.1 with g | g | g
    · refine .inl ⟨g,?_⟩
      cases hb:bangT a with
      | false=>rfl
      | true=>rw [v0u a d _ n hn hb] at k; cases k.2
    · exact .inr (.inl g)
    · rw [g] at k; cases k.2
  | block a ia=>
    intro d i m hm h;obtain ⟨n,hn,rfl⟩:=List.mem_map.1 hm;have h1:is a 3=true∨is a 4=true:=by simp [is] at h; exact .inr h
    obtain ⟨k1,k2⟩:=ia _ _ n hn h1;refine ⟨fun k=>(by cases k),fun k=>?_⟩;simp only [upm,J,Bool.and_eq_true,Bool.or_eq_true,Bool.not_eq_true'] at k ⊢;refine ⟨k2 k.1,?_⟩
    cases hg:gv n.r with
    | false=>exact .inl rfl
    | true=>
      refine .inr ?_
      rcases k1 hg with g | g | g
      · exact v0u a false _ n hn (k.2.resolve_left (by rw [g]; simp))
      · cases g
      · exact g
  | par a b ia ib=>
    intro d i m hm h;have h1:(is a 3=true∨is a 4=true)∧(is b 3=true∨is b 4=true):=by simp [is] at h; rcases h with h | h <;> simp [h.1,h.2]
    rcases List.mem_append.1 hm with hm | hm
    · obtain ⟨n,hn,rfl⟩:=List.mem_map.1 hm;obtain ⟨k1,k2⟩:=ia _ _ n hn h1.1;simp only [upm,gv,J,bangT,Bool.or_eq_true,Bool.and_eq_true] at k1 ⊢;refine ⟨fun k=>?_,fun k=>⟨k2 k.1,k.2⟩⟩
      rcases k with k | k
      · rcases k1 k with g | (g | g) | g
        · exact .inl (.inl g)
        · exact .inr (.inl g)
        · exact .inr (.inr (.inr g))
        · exact .inr (.inr (.inl g))
      · exact .inl (.inr k)
    · obtain ⟨n,hn,rfl⟩:=List.mem_map.1 hm;obtain ⟨k1,k2⟩:=ib _ _ n hn h1.2;simp only [upm,gv,J,bangT,Bool.or_eq_true,Bool.and_eq_true] at k1 ⊢;refine ⟨fun k=>?_,fun k=>⟨k.1,k2 k.2⟩⟩
      rcases k with k | k
      · exact .inl (.inl k)
      · rcases k1 k with g | (g | g) | g
        · exact .inl (.inr g)
        · exact .inr (.inl g)
        · exact .inr (.inr (.inl g))
        · exact .inr (.inr (.inr g))
  | _=>intro d i m hm; exact absurd hm (by simp [mvs])
structure Run (t:Tm):Prop where
  nf:Nf t
  rg:Se.rg t=true
  is3:is t 3=true
  j:J t=true
theorem Run.begin {t:Tm} (hr:Se.rg t=true) (h:is t 1=true):Run (S t):=
  ⟨S_nf t,S_rg t hr,(S_is t).1 ((is13 t).1 h),((S_gv t hr).1 (.inl h)).2⟩
theorem Run.next {t:Tm} (h:Run t) {i:Nat} {m:Mo} (hm:m∈mvs true t i):Run (S m.r):=by
  have r:=mv_rg t true i m hm h.rg;have k:=(v0s t true i m hm).1 h.is3;exact ⟨S_nf _,S_rg _ r,(S_is _).1 k,((S_gv _ r).2 (.inl k)).2.2 ((mv_gv t true i m hm (.inl h.is3)).2 h.j)⟩
theorem mv_some:∀ (t:Tm) (d:Bool) (i:Nat),waits t=true↔mvs d t i≠[]:=by
  intro t
  induction t with
  | par a b ia ib=>
    intro d i;rw [waits,Bool.or_eq_true,ia (d||bangT b) (i+1),ib (d||bangT a) (i+1+sz a)];simp only [mvs,ne_eq,List.append_eq_nil_iff,List.map_eq_nil_iff]
    constructor
    · rintro (h | h) ⟨k1,k2⟩
      · exact h k1
      · exact h k2
    · intro h
      by_cases k:mvs (d||bangT b) a (i+1)=[]
      · exact .inr fun k2=>h ⟨k,k2⟩
      · exact .inl k
  | seq a b ia ib=>intro d i; rw [waits,ia d (i+1)]; simp [mvs]
  | hand a b ia ib=>intro d i; rw [waits,ia d (i+1)]; simp [mvs]
  | going a b ia ib=>intro d i; rw [waits,ia d (i+1)]; simp [mvs]
  | stack a b ia ib=>intro d i; rw [waits,ia d (i+1)]; simp [mvs]
  | block a ia=>intro d i; rw [waits,ia false (i+1)]; simp [mvs]
  | _=>intro d i; simp [waits,mvs]
theorem Run.goes {t:Tm} (h:Run t) (d:Bool) (i:Nat):mvs d t i≠[]∨∃ s,t=.over s:=by
  rcases nf_ends t h.nf h.rg (.inl h.is3) with k | k | k | k
  · exact .inl ((mv_some t d i).1 k)
  · cases t with
    | over s=>exact .inr ⟨s,rfl⟩
    | _=>cases k
  · have:=h.is3;rw [y6x k] at this
    cases this
  · rw [J_stuck t h.j] at k; cases k
theorem v2o {P:Mo→Tr→Prop} {A:List Mo} {p q x:Tr} (h:∃ m∈A,∃ p',P m p'∧p=ah m.l p')
    (hx:Mix p.a q.a x.a) (hf:p.a=[]∨∃ s p1 x1,p.a=s::p1∧x.a=s::x1∧Mix p1 q.a x1) :
    ∃ m∈A,∃ p' w,P m p'∧p=ah m.l p'∧x=ah m.l w∧Mix p'.a q.a w.a:=by
  obtain ⟨m,hm,p',hp,e⟩:=h
  cases hl:m.l with
  | none=>
    rw [hl] at e;refine ⟨m,hm,p',x,hp,by rw [hl]; exact e,by rw [hl]; rfl,?_⟩;have e':p=p':=e;rw [← e'];exact hx
  | some s=>
    rw [hl] at e;have e1:p.a=s::p'.a:=by rw [e]; rfl
    rcases hf with hf | ⟨s',p1,x1,h1,h2,h3⟩
    · rw [e1] at hf; cases hf
    · rw [e1] at h1;injection h1 with h1 h4;refine ⟨m,hm,p',⟨x1,x.e⟩,hp,by rw [hl]; exact e,?_,by rw [h4]; exact h3⟩;rw [hl,h1]
      show x=⟨s'::x1,x.e⟩
      rw [← h2]
theorem x3l {PA PB:Mo→Tr→Prop} {A B:Bool→List Mo} {ea eb ba bb:Bool} {p q x:Tr} (sp:Sgn p.e) (sq:Sgn q.e)
    (hx:Mix p.a q.a x.a) (he:x.e=Sg.both p.e q.e)
    (ha:ea=false→∀ d,(d=true∨p.e≠3∨p.a≠[])→∃ m∈A d,∃ p',PA m p'∧p=ah m.l p')
    (hb:eb=false→∀ d,(d=true∨q.e≠3∨q.a≠[])→∃ m∈B d,∃ q',PB m q'∧q=ah m.l q')
    (hea:ea=true→p.a=[]∧(p.e=2→ba=true)) (heb:eb=true→q.a=[]∧(q.e=2→bb=true))
    (hn:¬ (ea=true∧eb=true)) (d:Bool) (hc:d=true∨x.e≠3∨x.a≠[]) :
    (∃ m∈A (d||bb),∃ p' w,PA m p'∧p=ah m.l p'∧x=ah m.l w∧Mix p'.a q.a w.a)∨(∃ m∈B (d||ba),∃ q' w,PB m q'∧q=ah m.l q'∧x=ah m.l w∧Mix q'.a p.a w.a):=by
  obtain ⟨pa,pe⟩:=p;obtain ⟨qa,qe⟩:=q;obtain ⟨xa,xe⟩:=x;simp only at *;have goA:(∃ m∈A (d||bb),∃ p',PA m p'∧(⟨pa,pe⟩:Tr)=ah m.l p')→(pa=[]∨∃ s p1 x1,pa=s::p1∧xa=s::x1∧Mix p1 qa x1)→(∃ m∈A (d||bb),∃ p' w,PA m p'∧(⟨pa,pe⟩:Tr)=ah m.l p'∧(⟨xa,xe⟩:Tr)=ah m.l w∧Mix p'.a qa w.a):=fun h1 h2=>v2o (p:=⟨pa,pe⟩) (q:=⟨qa,qe⟩) (x:=⟨xa,xe⟩) h1 hx h2
  have goB:(∃ m∈B (d||ba),∃ p',PB m p'∧(⟨qa,qe⟩:Tr)=ah m.l p')→(qa=[]∨∃ s p1 x1,qa=s::p1∧xa=s::x1∧Mix p1 pa x1)→(∃ m∈B (d||ba),∃ q' w,PB m q'∧(⟨qa,qe⟩:Tr)=ah m.l q'∧(⟨xa,xe⟩:Tr)=ah m.l w∧Mix q'.a pa w.a):=fun h1 h2=>v2o (p:=⟨qa,qe⟩) (q:=⟨pa,pe⟩) (x:=⟨xa,xe⟩) h1 hx.comm h2
  generalize (∃ m∈A (d||bb),∃ p' w,PA m p'∧(⟨pa,pe⟩:Tr)=ah m.l p'∧(⟨xa,xe⟩:Tr)=ah m.l w∧Mix p'.a qa w.a)=GA at goA ⊢;generalize (∃ m∈B (d||ba),∃ q' w,PB m q'∧(⟨qa,qe⟩:Tr)=ah m.l q'∧(⟨xa,xe⟩:Tr)=ah m.l w∧Mix q'.a pa w.a)=GB at goB ⊢;have fa:ea=false∨ea=true:=by cases ea <;> simp
  have fb:eb=false∨eb=true:=by cases eb <;> simp
  have full:pa=[]→qa=[]→(d=true∨xe≠3)→GA∨GB:=fun e1 e2 hd=>by
    have oneA:=fun (h:ea=false) (k:(d||bb)=true∨pe≠3)=>Or.inl (b:=GB) (goA (ha h (d||bb) (k.imp id .inl)) (.inl e1))
    have oneB:=fun (h:eb=false) (k:(d||ba)=true∨qe≠3)=>Or.inr (a:=GA) (goB (hb h (d||ba) (k.imp id .inl)) (.inl e2))
    by_cases hd':d=true
    · rcases fa with h | h
      · exact oneA h (.inl (by rw [hd']; rfl))
      · rcases fb with k | k
        · exact oneB k (.inl (by rw [hd']; rfl))
        · exact absurd ⟨h,k⟩ hn
    · have hx3:xe≠3:=hd.resolve_left hd';rw [he] at hx3
      rcases fa with h | h
      · by_cases h3:pe=3
        · have q2:qe=2:=by
            subst h3
            rcases sq with rfl | rfl | rfl
            · exact absurd rfl hx3
            · rfl
            · exact absurd rfl hx3
          rcases fb with k | k
          · exact oneB k (.inr (by omega))
          · exact oneA h (.inl (by rw [(heb k).2 q2,Bool.or_true]))
        · exact oneA h (.inr h3)
      · rcases fb with k | k
        · by_cases h3:qe=3
          · have p2:pe=2:=by
              subst h3
              rcases sp with rfl | rfl | rfl
              · exact absurd rfl hx3
              · rfl
              · exact absurd rfl hx3
            exact oneB k (.inl (by rw [(hea h).2 p2,Bool.or_true]))
          · exact oneB k (.inr h3)
        · exact absurd ⟨h,k⟩ hn
  cases hx with
  | nil=>exact full rfl rfl (hc.imp id fun h=>h.resolve_right (by simp))
  | l hx'=>
    rename_i s a r
    rcases fa with h | h
    · exact .inl (goA (ha h (d||bb) (.inr (.inr (by simp)))) (.inr ⟨s,a,r,rfl,rfl,hx'⟩))
    · exact absurd (hea h).1 (by simp)
  | r hx'=>
    rename_i s b r
    rcases fb with h | h
    · exact .inr (goB (hb h (d||ba) (.inr (.inr (by simp)))) (.inr ⟨s,b,r,rfl,rfl,hx'.comm⟩))
    · exact absurd (heb h).1 (by simp)
theorem end_t {a:Tm} (h:isOver a=true) {x:Tr} (hx:x∈Mt (flat a)):x.a=[]∧(x.e=2→bangT a=true):=by
  cases a with
  | over s=>
    rw [z0u,List.mem_singleton] at hx;rw [hx];exact ⟨rfl,fun h=>by simpa [bangT] using h⟩
  | _=>cases h
theorem end_p {a:Tm} (h:isFin a=true) {z:Pr} (hz:z∈Mp (flat a)):z.p.a=[]∧(z.p.e=2→bangT a=true):=by
  cases a with
  | fin s c=>
    obtain ⟨q,_,rfl⟩:=v1l.1 hz;exact ⟨rfl,fun h=>by simpa [bangT] using h⟩
  | _=>cases h
theorem ah_thn_e {p q:Tr} (h:(thn p q).e≠3∨(thn p q).a≠[]):p.e≠3∨p.a≠[]:=by
  by_cases h1:p.e=1
  · exact .inl (by omega)
  · unfold thn at h;rw [if_neg h1] at h;exact h
theorem ah_hnd_e {p q:Tr} (h:(hnd p q).e≠3∨(hnd p q).a≠[]):p.e≠3∨p.a≠[]:=by
  by_cases h1:p.e=2
  · exact .inl (by omega)
  · unfold hnd at h;rw [if_neg h1] at h;exact h
theorem mv_cmp:∀ t:Tm,Nf t→rg t=true→ac t≤19→∀ (d:Bool) (i:Nat),
    (is t 3=true→isOver t=false→∀ x∈Mt (flat t),(d=true∨x.e≠3∨x.a≠[])→∃ m∈mvs d t i,∃ y,y∈Mt (flat m.r)∧x=ah m.l y)∧
    (is t 4=true→isFin t=false→∀ z∈Mp (flat t),(d=true∨z.p.e≠3∨z.p.a≠[])→∃ m∈mvs d t i,∃ y,y∈Mp (flat m.r)∧z=ahp m.l y):=by
  intro t
  induction t with
  | act s=>
    intro _ _ _ d i;refine ⟨fun _ _ x hx _=>?_,fun h=>by simp [is] at h⟩;rw [v0v,List.mem_singleton] at hx;exact ⟨_,List.mem_singleton.2 rfl,⟨[],1⟩,by rw [z0u]; exact List.mem_singleton.2 rfl,hx⟩
  | skip=>intro h; exact h.elim
  | throw=>intro h; exact h.elim
  | over s=>intro _ _ _ d i; exact ⟨fun _ h=>by simp [isOver] at h,fun h=>by simp [is] at h⟩
  | fin s c=>intro _ _ _ d i; exact ⟨fun h=>by simp [is] at h,fun _ h=>by simp [isFin] at h⟩
  | alt a b=>
    intro _ _ _ d i
    constructor
    · intro _ _ x hx _
      rcases i_alt.1 hx with h | h
      · exact ⟨_,List.mem_cons_self,x,h,rfl⟩
      · exact ⟨_,List.mem_cons_of_mem _ List.mem_cons_self,x,h,rfl⟩
    · intro _ _ x hx _
      rcases j_alt.1 hx with h | h
      · exact ⟨_,List.mem_cons_self,x,h,rfl⟩
      · exact ⟨_,List.mem_cons_of_mem _ List.mem_cons_self,x,h,rfl⟩
  | yield=>
    intro _ _ _ d i;refine ⟨fun _ _ x hx hc=>?_,fun h=>by simp [is] at h⟩;rw [z5a] at hx;simp only [List.mem_cons,List.not_mem_nil,or_false] at hx
    rcases hx with rfl | rfl
    · exact ⟨_,List.mem_cons_self,tick,by rw [z0u]; exact List.mem_singleton.2 rfl,rfl⟩
    · have hd:d=true:=by simpa using hc
      subst hd;exact ⟨_,List.mem_cons_of_mem _ List.mem_cons_self,⟨[],3⟩,by rw [z0u]; exact List.mem_singleton.2 rfl,rfl⟩
  | pair a b=>
    intro _ _ _ d i;refine ⟨fun h=>by simp [is] at h,fun _ _ z hz hc=>?_⟩
    rcases x2r.1 hz with h | rfl
    · exact ⟨_,List.mem_cons_self,z,h,rfl⟩
    · have hd:d=true:=by simpa [way] using hc
      subst hd;exact ⟨_,List.mem_cons_of_mem _ List.mem_cons_self,way,v1l.2 ⟨tick,by rw [z9t]; exact List.mem_singleton.2 rfl,rfl⟩,rfl⟩
  | seq a b ia ib=>
    intro hn hr hc d i;rw [z7p,Bool.and_eq_true] at hr;rw [x3t] at hc;obtain ⟨h1,h2⟩:=ia hn.1 hr.1 (by omega) d (i+1)
    constructor
    · intro h _ x hx hd;simp [is] at h;obtain ⟨p,hp,q,hq,rfl⟩:=y9w.1 hx;obtain ⟨m,hm,y,hy,e⟩:=h1 h.1 hn.2.1 p hp (hd.imp id ah_thn_e);exact ⟨_,List.mem_map.2 ⟨m,hm,rfl⟩,thn y q,y9w.2 ⟨y,hy,q,hq,rfl⟩,by rw [e,x3s]; rfl⟩
    · intro h _ z hz hd;simp [is] at h;obtain ⟨x,hx,hz⟩:=y6k.1 hz
      have hd':d=true∨x.p.e≠3∨x.p.a≠[]:=by
        refine hd.imp id fun k=>?_
        unfold seq1 at hz
        by_cases h1:x.p.e=1
        · exact .inl (by omega)
        · rw [if_neg h1,List.mem_singleton] at hz;rw [hz] at k;exact k
      obtain ⟨m,hm,y,hy,e⟩:=h2 h.1 hn.2.2 x hx hd';subst e;unfold seq1 at hz;change z∈(if (ah m.l y.p).e=1 then (Mp (flat b)).map (fun w=>⟨thn (ah m.l y.p) w.p,thn w.q y.q⟩) else [ahp m.l y]) at hz;rw [ah_e] at hz
      by_cases h1:y.p.e=1
      · rw [if_pos h1] at hz;obtain ⟨w,hw,rfl⟩:=List.mem_map.1 hz;refine ⟨_,List.mem_map.2 ⟨m,hm,rfl⟩,⟨thn y.p w.p,thn w.q y.q⟩,y6k.2 ⟨y,hy,?_⟩,by rw [x3s]; rfl⟩;unfold seq1;rw [if_pos h1];exact List.mem_map.2 ⟨w,hw,rfl⟩
      · rw [if_neg h1,List.mem_singleton] at hz;refine ⟨_,List.mem_map.2 ⟨m,hm,rfl⟩,y,y6k.2 ⟨y,hy,?_⟩,hz⟩;unfold seq1;rw [if_neg h1];exact List.mem_singleton.2 rfl
  | hand a b ia ib=>
    intro hn hr hc d i;rw [z5o,Bool.and_eq_true] at hr;rw [y4w] at hc;obtain ⟨h1,h2⟩:=ia hn.1 hr.1 (by omega) d (i+1);refine ⟨fun h _ x hx hd=>?_,fun h=>by simp [is] at h⟩;simp [is] at h;obtain ⟨p,hp,q,hq,rfl⟩:=y0d.1 hx;obtain ⟨m,hm,y,hy,e⟩:=h1 h.1 hn.2 p hp (hd.imp id ah_hnd_e);exact ⟨_,List.mem_map.2 ⟨m,hm,rfl⟩,hnd y q,y0d.2 ⟨y,hy,q,hq,rfl⟩,by rw [e,ah_hnd]; rfl⟩
  | block a ia=>
    intro hn hr hc d i;rw [z3b] at hr;rw [z6q] at hc;obtain ⟨h1,h2⟩:=ia hn.1 hr hc false (i+1);refine ⟨fun h _ x hx hd=>?_,fun h=>by simp [is] at h⟩;simp [is] at h;obtain ⟨z,hz,hx⟩:=z4o.1 hx
    have h12:z.p.e=1∨z.p.e=2:=by
      unfold blk1 at hx
      by_cases k1:z.p.e=1
      · exact .inl k1
      · by_cases k2:z.p.e=2
        · exact .inr k2
        · rw [if_neg k1,if_neg k2] at hx; cases hx
    have hf:isFin a=false:=by
      cases a with
      | fin s c=>
        obtain ⟨q,_,rfl⟩:=v1l.1 hz;have:=hn.2;simp [isGone] at this;simp at h12;omega
      | _=>rfl
    obtain ⟨m,hm,y,hy,e⟩:=h2 h hf z hz (.inr (.inl (by omega)));subst e;change x∈(if (ah m.l y.p).e=1 then [ah m.l y.p] else if (ah m.l y.p).e=2 then [⟨(ah m.l y.p).a++y.q.a,y.q.e⟩] else []) at hx;have h12':y.p.e=1∨y.p.e=2:=by rw [← ah_e m.l]; exact h12
    rw [ah_e] at hx
    rcases h12' with k | k
    · rw [if_pos k,List.mem_singleton] at hx;refine ⟨_,List.mem_map.2 ⟨m,hm,rfl⟩,y.p,z4o.2 ⟨y,hy,?_⟩,hx⟩;unfold blk1;rw [if_pos k];exact List.mem_singleton.2 rfl
    · rw [if_neg (by omega),if_pos k,List.mem_singleton] at hx;refine ⟨_,List.mem_map.2 ⟨m,hm,rfl⟩,⟨y.p.a++y.q.a,y.q.e⟩,z4o.2 ⟨y,hy,?_⟩,?_⟩
      · unfold blk1;rw [if_neg (by omega),if_pos k];exact List.mem_singleton.2 rfl
      · rw [hx]
        show _=ah m.l _
        cases m.l <;> rfl
  | going a b ia ib=>
    intro hn hr hc d i;rw [z3u,Bool.and_eq_true] at hr;rw [z6p] at hc;obtain ⟨h1,h2⟩:=ia hn.1 hr.1 (by omega) d (i+1);refine ⟨fun h=>by simp [is] at h,fun h _ z hz hd=>?_⟩;simp [is] at h;obtain ⟨p,hp,hz⟩:=z4n.1 hz
    have hzp:z.p=p:=by
      unfold going1 at hz
      by_cases k:p.e=1
      · rw [if_pos k] at hz;obtain ⟨y,_,rfl⟩:=List.mem_map.1 hz
        rfl
      · rw [if_neg k,List.mem_singleton] at hz;rw [hz]
    obtain ⟨m,hm,y,hy,e⟩:=h1 h.1 hn.2 p hp (by rw [← hzp]; exact hd);subst e;unfold going1 at hz;rw [ah_e] at hz
    by_cases k:y.e=1
    · rw [if_pos k] at hz;obtain ⟨w,hw,rfl⟩:=List.mem_map.1 hz;refine ⟨_,List.mem_map.2 ⟨m,hm,rfl⟩,⟨y,w⟩,z4n.2 ⟨y,hy,?_⟩,rfl⟩;unfold going1;rw [if_pos k];exact List.mem_map.2 ⟨w,hw,rfl⟩
    · rw [if_neg k,List.mem_singleton] at hz;refine ⟨_,List.mem_map.2 ⟨m,hm,rfl⟩,⟨y,tick⟩,z4n.2 ⟨y,hy,?_⟩,hz⟩;unfold going1;rw [if_neg k];exact List.mem_singleton.2 rfl
  | stack a b ia ib=>
    intro hn hr hc d i;rw [z3t,Bool.and_eq_true] at hr;rw [z8m] at hc;obtain ⟨h1,h2⟩:=ia hn.1 hr.1 (by omega) d (i+1);refine ⟨fun h=>by simp [is] at h,fun h _ z hz hd=>?_⟩;simp [is] at h;obtain ⟨x,hx,c,hc,rfl⟩:=z5p.1 hz;obtain ⟨m,hm,y,hy,e⟩:=h2 h.1 hn.2 x hx hd;subst e;exact ⟨_,List.mem_map.2 ⟨m,hm,rfl⟩,⟨y.p,thn y.q c⟩,z5p.2 ⟨y,hy,c,hc,rfl⟩,rfl⟩
  | par a b ia ib=>
    intro hn hr hc d i;rw [z5k,Bool.and_eq_true] at hr;rw [y2h] at hc;obtain ⟨n1,n2,n3,n4⟩:=hn;have ga:=fun d=>ia n1 hr.1 (by omega) d (i+1)
    have gb:=fun d=>ib n2 hr.2 (by omega) d (i+1+sz a)
    constructor
    · intro h _ x hx hd;simp [is] at h;obtain ⟨p,hp,q,hq,hx⟩:=z7a.1 hx;have l1:=y1t h.1 hp;have l2:=y1t h.2 hq;obtain ⟨hx,he⟩:=(z3i (by omega)).1 hx
      rcases x3l (PA:=fun m y=>y∈Mt (flat m.r)) (PB:=fun m y=>y∈Mt (flat m.r)) (A:=fun d=>mvs d a (i+1)) (B:=fun d=>mvs d b (i+1+sz a)) (ea:=isOver a) (eb:=isOver b) (ba:=bangT a) (bb:=bangT b)
          (st_mt h.1 hr.1 p hp) (st_mt h.2 hr.2 q hq) hx he (fun e d hd=>(ga d).1 h.1 e p hp hd) (fun e d hd=>(gb d).1 h.2 e q hq hd) (fun e=>end_t e hp) (fun e=>end_t e hq) (by rw [← Bool.and_eq_true,n3]; simp) d hd
        with ⟨m,hm,p',w,hp',e,ex,hw⟩ | ⟨m,hm,q',w,hq',e,ex,hw⟩
      · have l3:p'.a.length+lb m.l=p.a.length:=by rw [e,y0w]
        refine ⟨_,List.mem_append_left _ (List.mem_map.2 ⟨m,hm,rfl⟩),w,z7a.2 ⟨p',hp',q,hq,(z3i (by omega)).2 ⟨hw,?_⟩⟩,ex⟩;rw [← ah_e m.l w,← ex,he,e,ah_e]
      · have l3:q'.a.length+lb m.l=q.a.length:=by rw [e,y0w]
        refine ⟨_,List.mem_append_right _ (List.mem_map.2 ⟨m,hm,rfl⟩),w,z7a.2 ⟨p,hp,q',hq',(z3i (by omega)).2 ⟨hw.comm,?_⟩⟩,ex⟩;rw [← ah_e m.l w,← ex,he,e,ah_e]
    · intro h _ z hz hd;simp [is] at h;obtain ⟨x,hx,y,hy,hz,hzq⟩:=z6z.1 hz;have l1:=y1u h.1 hx;have l2:=y1u h.2 hy;obtain ⟨hz,he⟩:=(z3i (by omega)).1 hz
      rcases x3l (PA:=fun m w=>(⟨w,x.q⟩:Pr)∈Mp (flat m.r)) (PB:=fun m w=>(⟨w,y.q⟩:Pr)∈Mp (flat m.r)) (A:=fun d=>mvs d a (i+1)) (B:=fun d=>mvs d b (i+1+sz a)) (ea:=isFin a) (eb:=isFin b) (ba:=bangT a) (bb:=bangT b)
          (sp_mp h.1 hr.1 x hx).1 (sp_mp h.2 hr.2 y hy).1 hz he
          (fun e d hd=>by obtain ⟨m,hm,w,hw,ew⟩:=(ga d).2 h.1 e x hx hd; exact ⟨m,hm,w.p,by rw [ew]; exact hw,by rw [ew]; rfl⟩)
          (fun e d hd=>by obtain ⟨m,hm,w,hw,ew⟩:=(gb d).2 h.2 e y hy hd; exact ⟨m,hm,w.p,by rw [ew]; exact hw,by rw [ew]; rfl⟩)
          (fun e=>end_p e hx) (fun e=>end_p e hy) (by rw [← Bool.and_eq_true,n4]; simp) d hd
        with ⟨m,hm,p',w,hp',e,ex,hw⟩ | ⟨m,hm,q',w,hq',e,ex,hw⟩
      · have l3:p'.a.length+lb m.l=x.p.a.length:=by rw [e,y0w]
        refine ⟨_,List.mem_append_left _ (List.mem_map.2 ⟨m,hm,rfl⟩),⟨w,z.q⟩,z6z.2 ⟨_,hp',y,hy,(z3i (by show p'.a.length+_≤_; omega)).2 ⟨hw,?_⟩,hzq⟩,by show z=⟨ah m.l w,z.q⟩; rw [← ex]⟩
        show w.e=Sg.both p'.e y.p.e
        rw [← ah_e m.l w,← ex,he,e,ah_e]
      · have l3:q'.a.length+lb m.l=y.p.a.length:=by rw [e,y0w]
        refine ⟨_,List.mem_append_right _ (List.mem_map.2 ⟨m,hm,rfl⟩),⟨w,z.q⟩,z6z.2 ⟨x,hx,_,hq',(z3i (by show _+q'.a.length≤_; omega)).2 ⟨hw.comm,?_⟩,hzq⟩,by show z=⟨ah m.l w,z.q⟩; rw [← ex]⟩
        show w.e=Sg.both x.p.e q'.e
        rw [← ah_e m.l w,← ex,he,e,ah_e]
theorem mv_means {t:Tm} (hn:Nf t) (hr:rg t=true) (hc:ac t≤19) (hi:is t 3=true) (ho:isOver t=false) (i:Nat) (x:Tr) :
    x∈Mt (flat t)↔∃ m∈mvs true t i,∃ y,y∈Mt (flat (S m.r))∧x=ah m.l y:=by
  have back:∀ m∈mvs true t i,Mt (flat (S m.r))=Mt (flat m.r):=fun m hm=>(S_mean m.r (by have:=mv_ac t true i m hm; omega)).1 ((v0s t true i m hm).1 hi)
  constructor
  · intro hx;obtain ⟨m,hm,y,hy,e⟩:=(mv_cmp t hn hr hc true i).1 hi ho x hx (.inl rfl);exact ⟨m,hm,y,by rw [back m hm]; exact hy,e⟩
  · rintro ⟨m,hm,y,hy,rfl⟩;rw [back m hm] at hy;exact (mv_snd t true i m hm hc).1 hi y hy
end Sp
namespace Co
open Go Rw YtpingbiibbmcaaaGreatDoor.So Se Do Sp
def mo:Tm→Nat
  | .act _=>1
  | .yield=>1
  | .alt a b=>1+max (mo a) (mo b)
  | .pair a b=>mo a+mo b+1
  | .seq a b=>mo a+mo b
  | .par a b=>mo a+mo b
  | .hand a b=>mo a+mo b
  | .going a b=>mo a+mo b
  | .stack a b=>mo a+mo b
  | .block a=>mo a
  | .fin _ c=>mo c
  | _=>0
def le:Tm→Nat
  | .act _=>1
  | .yield=>1
  | .alt a b=>1+min (le a) (le b)
  | .pair a b=>le a+le b+1
  | .seq a b=>le a+le b
  | .par a b=>le a+le b
  | .hand a b=>le a+le b
  | .going a b=>le a+le b
  | .stack a b=>le a+le b
  | .block a=>le a
  | .fin _ c=>le c
  | _=>0
def ch (t:Tm):Nat:=ct (fun x=>decide (x.k=1)||decide (x.k=4)||decide (x.k=6)||decide (x.k=10)) t
theorem plainC:Plain (fun x=>decide (x.k=1)||decide (x.k=4)||decide (x.k=6)||decide (x.k=10)):=⟨fun _=>rfl,fun _=>rfl,rfl,rfl,rfl,rfl,rfl⟩
theorem S_ch (t:Tm):ch (S t)≤ch t:=S_ct plainC t
theorem y0s {t a b:Tm} {k:Int} (e:flat t=nOf k::(flat a++flat b)):ch t=ch a+ch b+(if k=6∨k=10∨k=1∨k=4 then 1 else 0):=by
  unfold ch;rw [y0p e]
  congr 1
  show (if (decide (k=1)||decide (k=4)||decide (k=6)||decide (k=10))=true then 1 else 0)=_
  by_cases h1:k=1 <;> by_cases h2:k=4 <;> by_cases h3:k=6 <;> by_cases h4:k=10 <;> simp [h1,h2,h3,h4]
theorem ch_seq (a b:Tm):ch (.seq a b)=ch a+ch b:=y0s (k:=5) rfl
theorem ch_par (a b:Tm):ch (.par a b)=ch a+ch b:=y0s (k:=7) rfl
theorem ch_hand (a b:Tm):ch (.hand a b)=ch a+ch b:=y0s (k:=8) rfl
theorem ch_going (a b:Tm):ch (.going a b)=ch a+ch b:=y0s (k:=12) rfl
theorem ch_stack (a b:Tm):ch (.stack a b)=ch a+ch b:=y0s (k:=13) rfl
theorem ch_alt (a b:Tm):ch (.alt a b)=ch a+ch b+1:=y0s (k:=6) rfl
theorem ch_pair (a b:Tm):ch (.pair a b)=ch a+ch b+1:=y0s (k:=10) rfl
theorem ch_block (a:Tm):ch (.block a)=ch a:=by unfold ch; rw [z4a]; rfl
theorem ch_fin (s:Int) (c:Tm):ch (.fin s c)=ch c:=by unfold ch; rw [z7s]; rfl
theorem ch_act (s:ByteArray):ch (.act s)=1:=rfl
theorem ch_yield:ch .yield=1:=rfl
theorem ch_over (s:Int):ch (.over s)=0:=rfl
theorem ch_skip:ch .skip=0:=rfl
theorem mv_ch:∀ (t:Tm) (d:Bool) (i:Nat),∀ m∈mvs d t i,ch m.r<ch t:=by
  refine y1p (P:=fun t m=>ch m.r<ch t) ?_ ?_ ?_ ?_ ?_ ?_ ?_ ?_ ?_ ?_ ?_ ?_ ?_ ?_
  all_goals intros
  all_goals simp only [upm,ch_seq,ch_par,ch_hand,ch_going,ch_stack,ch_alt,ch_pair,ch_block,ch_fin,ch_act,ch_yield,ch_over,ch_skip] at *
  all_goals omega
def bare:Tm→Bool
  | .act _=>true
  | .over s=>s==1
  | .seq a b=>bare a&&bare b
  | .par a b=>bare a&&bare b
  | _=>false
end Co
end Go.Proofs.YtpingbiibbmcaaaGreatDoor
