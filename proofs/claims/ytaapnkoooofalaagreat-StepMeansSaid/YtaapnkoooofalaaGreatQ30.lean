/- Laws that the last text leans on. -/
import Derived.Test.YtaapnkoooofalaaGreatQ29

set_option maxRecDepth 20000
set_option maxHeartbeats 2000000
namespace Go.Proofs.YtaapnkoooofalaaGreat
namespace Sp
open Go Rw So Se Tr Mn Do
def sub:Tm→Nat→Nat→Tm
  | .seq a _,i,p=>sub a (i+1) p
  | .hand a _,i,p=>sub a (i+1) p
  | .going a _,i,p=>sub a (i+1) p
  | .stack a _,i,p=>sub a (i+1) p
  | .block a,i,p=>sub a (i+1) p
  | .par a b,i,p=>if p<i+1+sz a then sub a (i+1) p else sub b (i+1+sz a) p
  | t,_,_=>t
def plug:Tm→Nat→Nat→Tm→Tm
  | .seq a b,i,p,u=>if i=p then u else .seq (plug a (i+1) p u) b
  | .hand a b,i,p,u=>if i=p then u else .hand (plug a (i+1) p u) b
  | .going a b,i,p,u=>if i=p then u else .going (plug a (i+1) p u) b
  | .stack a b,i,p,u=>if i=p then u else .stack (plug a (i+1) p u) b
  | .block a,i,p,u=>if i=p then u else .block (plug a (i+1) p u)
  | .par a b,i,p,u=>if i=p then u else if p<i+1+sz a then .par (plug a (i+1) p u) b else .par a (plug b (i+1+sz a) p u)
  | _,_,_,u=>u
def leafB:Tm→Bool
  | .act _=>true
  | .alt _ _=>true
  | .yield=>true
  | .pair _ _=>true
  | _=>false
theorem z4p (t:Tm) (i:Nat) (u:Tm):plug t i i u=u:=by cases t <;> simp [plug]
theorem z8j {P:Tm→Nat→Nat→Prop} (leaf:∀ t i,leafB t=true→P t i i)
    (seq:∀ a b i p,p∈wt a (i+1)→P a (i+1) p→P (.seq a b) i p) (hand:∀ a b i p,p∈wt a (i+1)→P a (i+1) p→P (.hand a b) i p)
    (going:∀ a b i p,p∈wt a (i+1)→P a (i+1) p→P (.going a b) i p) (stack:∀ a b i p,p∈wt a (i+1)→P a (i+1) p→P (.stack a b) i p)
    (block:∀ a i p,p∈wt a (i+1)→P a (i+1) p→P (.block a) i p)
    (parl:∀ a b i p,p∈wt a (i+1)→P a (i+1) p→P (.par a b) i p) (parr:∀ a b i p,p∈wt b (i+1+sz a)→P b (i+1+sz a) p→P (.par a b) i p) :
    ∀ (t:Tm) (i p:Nat),p∈wt t i→P t i p:=by
  intro t
  induction t with
  | act s=>intro i p h; simp only [wt,List.mem_singleton] at h; subst h; exact leaf _ _ rfl
  | alt a b=>intro i p h; simp only [wt,List.mem_singleton] at h; subst h; exact leaf _ _ rfl
  | yield=>intro i p h; simp only [wt,List.mem_singleton] at h; subst h; exact leaf _ _ rfl
  | pair a b=>intro i p h; simp only [wt,List.mem_singleton] at h; subst h; exact leaf _ _ rfl
  | seq a b ia ib=>intro i p h; exact seq a b i p h (ia _ _ h)
  | hand a b ia ib=>intro i p h; exact hand a b i p h (ia _ _ h)
  | going a b ia ib=>intro i p h; exact going a b i p h (ia _ _ h)
  | stack a b ia ib=>intro i p h; exact stack a b i p h (ia _ _ h)
  | block a ia=>intro i p h; exact block a i p h (ia _ _ h)
  | par a b ia ib=>
    intro i p h
    rcases List.mem_append.1 h with h | h
    · exact parl a b i p h (ia _ _ h)
    · exact parr a b i p h (ib _ _ h)
  | _=>intro i p h; exact absurd h (by simp [wt])
theorem z7x:∀ (t:Tm) (i p:Nat),p∈wt t i→plug t i p (sub t i p)=t:=by
  refine z8j (P:=fun t i p=>plug t i p (sub t i p)=t) ?_ ?_ ?_ ?_ ?_ ?_ ?_ ?_
  · intro t i h; rw [z4p]; cases t <;> first | rfl | cases h
  · intro a b i p hp h; have:=z0q a _ p hp; simp only [sub,plug]; rw [if_neg (by omega),h]
  · intro a b i p hp h; have:=z0q a _ p hp; simp only [sub,plug]; rw [if_neg (by omega),h]
  · intro a b i p hp h; have:=z0q a _ p hp; simp only [sub,plug]; rw [if_neg (by omega),h]
  · intro a b i p hp h; have:=z0q a _ p hp; simp only [sub,plug]; rw [if_neg (by omega),h]
  · intro a i p hp h; have:=z0q a _ p hp; simp only [sub,plug]; rw [if_neg (by omega),h]
  · intro a b i p hp h; have:=z0q a _ p hp; simp only [sub,plug]; rw [if_neg (by omega),if_pos this.2,if_pos this.2,h]
  · intro a b i p hp h; have:=z0q b _ p hp; simp only [sub,plug]; rw [if_neg (by omega),if_neg (by omega),if_neg (by omega),h]
theorem y2y:∀ (t:Tm) (i p:Nat),p∈wt t i→∃ pre post,p=i+pre.length∧∀ u,flat (plug t i p u)=pre++(flat u++post):=by
  have down:∀ {a:Tm} {i j p:Nat} (f:Tm→Tm) (n x:List Nd),j=i+n.length→(∀ c,flat (f c)=n++(flat c++x))→(∃ pre post,p=j+pre.length∧∀ u,flat (plug a j p u)=pre++(flat u++post))→
      ∀ (q:Tm→Tm),(∀ u,q u=f (plug a j p u))→∃ pre post,p=i+pre.length∧∀ u,flat (q u)=pre++(flat u++post):=by
    rintro a i j p f n x hj hf ⟨pre,post,h1,h2⟩ q hq;refine ⟨n++pre,post++x,by rw [List.length_append]; omega,fun u=>?_⟩;rw [hq,hf,h2];simp
  refine z8j (P:=fun t i p=>∃ pre post,p=i+pre.length∧∀ u,flat (plug t i p u)=pre++(flat u++post)) ?_ ?_ ?_ ?_ ?_ ?_ ?_ ?_
  · intro t i h; exact ⟨[],[],rfl,fun u=>by rw [z4p]; simp⟩
  · intro a b i p hp h; have hin:=z0q a _ p hp; exact down (j:=i+1) (.seq · b) [nOf 5] (flat b) rfl (fun _=>rfl) h _ fun u=>by rw [plug,if_neg (by omega)]
  · intro a b i p hp h; have hin:=z0q a _ p hp; exact down (j:=i+1) (.hand · b) [nOf 8] (flat b) rfl (fun _=>rfl) h _ fun u=>by rw [plug,if_neg (by omega)]
  · intro a b i p hp h; have hin:=z0q a _ p hp; exact down (j:=i+1) (.going · b) [nOf 12] (flat b) rfl (fun _=>rfl) h _ fun u=>by rw [plug,if_neg (by omega)]
  · intro a b i p hp h; have hin:=z0q a _ p hp; exact down (j:=i+1) (.stack · b) [nOf 13] (flat b) rfl (fun _=>rfl) h _ fun u=>by rw [plug,if_neg (by omega)]
  · intro a i p hp h; have hin:=z0q a _ p hp; exact down (j:=i+1) .block [nOf 9] [] rfl (fun _=>by simp [flat]) h _ fun u=>by rw [plug,if_neg (by omega)]
  · intro a b i p hp h; have hin:=z0q a _ p hp; exact down (j:=i+1) (.par · b) [nOf 7] (flat b) rfl (fun _=>rfl) h _ fun u=>by rw [plug,if_neg (by omega),if_pos hin.2]
  · intro a b i p hp h; have hin:=z0q b _ p hp; exact down (j:=i+1+sz a) (.par a ·) (nOf 7::flat a) [] (by rw [List.length_cons,Se.flat_len]; omega) (fun _=>by simp [flat]) h _ fun u=>by rw [plug,if_neg (by omega),if_neg (by omega)]
theorem y5n {u:Tm} (h:leafB u=true):isOver u=false∧isFin u=false∧isGone u=false∧Nf u:=by cases u <;> first | exact ⟨rfl,rfl,rfl,trivial⟩ | cases h
theorem z2z:∀ (t:Tm) (i p:Nat),p∈wt t i→∀ u,leafB u=true→isOver (plug t i p u)=false∧isFin (plug t i p u)=false∧isGone (plug t i p u)=false:=by
  refine z8j (P:=fun t i p=>∀ u,leafB u=true→isOver (plug t i p u)=false∧isFin (plug t i p u)=false∧isGone (plug t i p u)=false) ?_ ?_ ?_ ?_ ?_ ?_ ?_ ?_
  · intro t i _ u h; rw [z4p]; have:=y5n h; exact ⟨this.1,this.2.1,this.2.2.1⟩
  · intro a b i p hp h u _; have hin:=z0q a _ p hp; rw [plug,if_neg (by omega)]; exact ⟨rfl,rfl,rfl⟩
  · intro a b i p hp h u _; have hin:=z0q a _ p hp; rw [plug,if_neg (by omega)]; exact ⟨rfl,rfl,rfl⟩
  · intro a b i p hp h u _; have hin:=z0q a _ p hp; rw [plug,if_neg (by omega)]; exact ⟨rfl,rfl,rfl⟩
  · intro a b i p hp h u _; have hin:=z0q a _ p hp; rw [plug,if_neg (by omega)]; exact ⟨rfl,rfl,rfl⟩
  · intro a i p hp h u _; have hin:=z0q a _ p hp; rw [plug,if_neg (by omega)]; exact ⟨rfl,rfl,rfl⟩
  · intro a b i p hp h u _; have hin:=z0q a _ p hp; rw [plug,if_neg (by omega),if_pos hin.2]; exact ⟨rfl,rfl,rfl⟩
  · intro a b i p hp h u _; have hin:=z0q b _ p hp; rw [plug,if_neg (by omega),if_neg (by omega)]; exact ⟨rfl,rfl,rfl⟩
theorem plug_nf:∀ (t:Tm) (i p:Nat),p∈wt t i→Nf t→∀ u,leafB u=true→Nf (plug t i p u):=by
  refine z8j (P:=fun t i p=>Nf t→∀ u,leafB u=true→Nf (plug t i p u)) ?_ ?_ ?_ ?_ ?_ ?_ ?_ ?_
  · intro t i _ _ u h; rw [z4p]; exact (y5n h).2.2.2
  · intro a b i p hp h hn u hu; have hin:=z0q a _ p hp; rw [plug,if_neg (by omega)]; have:=z2z a _ p hp u hu; exact ⟨h hn.1 u hu,this.1,this.2.1⟩
  · intro a b i p hp h hn u hu; have hin:=z0q a _ p hp; rw [plug,if_neg (by omega)]; have:=z2z a _ p hp u hu; exact ⟨h hn.1 u hu,this.1⟩
  · intro a b i p hp h hn u hu; have hin:=z0q a _ p hp; rw [plug,if_neg (by omega)]; have:=z2z a _ p hp u hu; exact ⟨h hn.1 u hu,this.1⟩
  · intro a b i p hp h hn u hu; have hin:=z0q a _ p hp; rw [plug,if_neg (by omega)]; have:=z2z a _ p hp u hu; exact ⟨h hn.1 u hu,this.2.1⟩
  · intro a i p hp h hn u hu; have hin:=z0q a _ p hp; rw [plug,if_neg (by omega)]; have:=z2z a _ p hp u hu; exact ⟨h hn.1 u hu,this.2.2⟩
  · intro a b i p hp h hn u hu; have hin:=z0q a _ p hp; rw [plug,if_neg (by omega),if_pos hin.2]; have:=z2z a _ p hp u hu; exact ⟨h hn.1 u hu,hn.2.1,by rw [this.1]; rfl,by rw [this.2.1]; rfl⟩
  · intro a b i p hp h hn u hu; have hin:=z0q b _ p hp; rw [plug,if_neg (by omega),if_neg (by omega)]; have:=z2z b _ p hp u hu; exact ⟨hn.1,h hn.2.1 u hu,by rw [this.1,Bool.and_false],by rw [this.2.1,Bool.and_false]⟩
theorem plug_rg:∀ (t:Tm) (i p:Nat),p∈wt t i→rg t=true→(rg (sub t i p)=true∧∀ u,rg u=true→rg (plug t i p u)=true):=by
  refine z8j (P:=fun t i p=>rg t=true→(rg (sub t i p)=true∧∀ u,rg u=true→rg (plug t i p u)=true)) ?_ ?_ ?_ ?_ ?_ ?_ ?_ ?_
  · intro t i hl hr; exact ⟨by (cases t <;> first | exact hr | cases hl),fun u h=>by rw [z4p]; exact h⟩
  · intro a b i p hp h hr; have hin:=z0q a _ p hp; rw [z7n,Bool.and_eq_true] at hr; exact ⟨(h hr.1).1,fun u hu=>by rw [plug,if_neg (by omega),z7n,(h hr.1).2 u hu,hr.2]; rfl⟩
  · intro a b i p hp h hr; have hin:=z0q a _ p hp; rw [z5s,Bool.and_eq_true] at hr; exact ⟨(h hr.1).1,fun u hu=>by rw [plug,if_neg (by omega),z5s,(h hr.1).2 u hu,hr.2]; rfl⟩
  · intro a b i p hp h hr; have hin:=z0q a _ p hp; rw [z3w,Bool.and_eq_true] at hr; exact ⟨(h hr.1).1,fun u hu=>by rw [plug,if_neg (by omega),z3w,(h hr.1).2 u hu,hr.2]; rfl⟩
  · intro a b i p hp h hr; have hin:=z0q a _ p hp; rw [z3v,Bool.and_eq_true] at hr; exact ⟨(h hr.1).1,fun u hu=>by rw [plug,if_neg (by omega),z3v,(h hr.1).2 u hu,hr.2]; rfl⟩
  · intro a i p hp h hr; have hin:=z0q a _ p hp; rw [z3f] at hr; exact ⟨(h hr).1,fun u hu=>by rw [plug,if_neg (by omega),z3f,(h hr).2 u hu]⟩
  · intro a b i p hp h hr; have hin:=z0q a _ p hp; rw [z4h,Bool.and_eq_true] at hr; exact ⟨by rw [sub,if_pos hin.2]; exact (h hr.1).1,fun u hu=>by rw [plug,if_neg (by omega),if_pos hin.2,z4h,(h hr.1).2 u hu,hr.2]; rfl⟩
  · intro a b i p hp h hr; have hin:=z0q b _ p hp; rw [z4h,Bool.and_eq_true] at hr; exact ⟨by rw [sub,if_neg (by omega)]; exact (h hr.2).1,fun u hu=>by rw [plug,if_neg (by omega),if_neg (by omega),z4h,(h hr.2).2 u hu,hr.1]; rfl⟩
theorem plug_is:∀ (t:Tm) (i p:Nat),p∈wt t i→∀ u,(∀ s,s=3∨s=4→is (sub t i p) s=true→is u s=true)→∀ s,s=3∨s=4→is t s=true→is (plug t i p u) s=true:=by
  refine z8j (P:=fun t i p=>∀ u,(∀ s,s=3∨s=4→is (sub t i p) s=true→is u s=true)→∀ s,s=3∨s=4→is t s=true→is (plug t i p u) s=true) ?_ ?_ ?_ ?_ ?_ ?_ ?_ ?_
  · intro t i hl u h s hs k; rw [z4p]; refine h s hs ?_; cases t <;> first | exact k | cases hl
  · intro a b i p hp h u hu s hs k; have hin:=z0q a _ p hp; rw [plug,if_neg (by omega)]; rcases hs with rfl | rfl <;> simp [is] at k ⊢ <;> exact ⟨h u hu _ (by omega) k.1,k.2⟩
  · intro a b i p hp h u hu s hs k; have hin:=z0q a _ p hp; rw [plug,if_neg (by omega)]; rcases hs with rfl | rfl <;> simp [is] at k ⊢; exact ⟨h u hu _ (by omega) k.1,k.2⟩
  · intro a b i p hp h u hu s hs k; have hin:=z0q a _ p hp; rw [plug,if_neg (by omega)]; rcases hs with rfl | rfl <;> simp [is] at k ⊢; exact ⟨h u hu _ (by omega) k.1,k.2⟩
  · intro a b i p hp h u hu s hs k; have hin:=z0q a _ p hp; rw [plug,if_neg (by omega)]; rcases hs with rfl | rfl <;> simp [is] at k ⊢; exact ⟨h u hu _ (by omega) k.1,k.2⟩
  · intro a i p hp h u hu s hs k; have hin:=z0q a _ p hp; rw [plug,if_neg (by omega)]; rcases hs with rfl | rfl <;> simp [is] at k ⊢; exact h u hu _ (by omega) k
  · intro a b i p hp h u hu s hs k;have hin:=z0q a _ p hp;rw [sub,if_pos hin.2] at hu;rw [plug,if_neg (by omega),if_pos hin.2];simp only [is,Bool.and_eq_true] at k ⊢;exact ⟨h u hu s hs k.1,k.2⟩
  · intro a b i p hp h u hu s hs k;have hin:=z0q b _ p hp;rw [sub,if_neg (by omega)] at hu;rw [plug,if_neg (by omega),if_neg (by omega)];simp only [is,Bool.and_eq_true] at k ⊢;exact ⟨k.1,h u hu s hs k.2⟩
theorem mvs_plug:∀ (t:Tm) (i p:Nat),p∈wt t i→∀ d,∃ f,∀ u,leafB u=true→∀ n∈mvs f u p,⟨n.p,n.h,n.l,plug t i p n.r⟩∈mvs d (plug t i p u) i:=by
  have up:∀ {a:Tm} {j p:Nat} {f d d':Bool} {i:Nat} {u:Tm} (g:Tm→Tm) (x:Tm),x=g (plug a j p u)→mvs d x i=(mvs d' (plug a j p u) j).map (upm g)→
      (∀ n∈mvs f u p,(⟨n.p,n.h,n.l,plug a j p n.r⟩:Mo)∈mvs d' (plug a j p u) j)→∀ n∈mvs f u p,(⟨n.p,n.h,n.l,g (plug a j p n.r)⟩:Mo)∈mvs d x i:=by
    intro a j p f d d' i u g x e1 e2 h n hn;rw [e2];exact List.mem_map.2 ⟨_,h n hn,rfl⟩
  refine z8j (P:=fun t i p=>∀ d,∃ f,∀ u,leafB u=true→∀ n∈mvs f u p,⟨n.p,n.h,n.l,plug t i p n.r⟩∈mvs d (plug t i p u) i) ?_ ?_ ?_ ?_ ?_ ?_ ?_ ?_
  · intro t i _ d; exact ⟨d,fun u _ n hn=>by rw [z4p,z4p]; exact hn⟩
  · intro a b i p hp h d;have hin:=z0q a _ p hp;obtain ⟨f,hf⟩:=h d;have e:∀ w,plug (.seq a b) i p w=.seq (plug a (i+1) p w) b:=fun w=>by rw [plug,if_neg (by omega)]
    exact ⟨f,fun u hu n hn=>by rw [e,e]; exact up (.seq · b) _ rfl rfl (hf u hu) n hn⟩
  · intro a b i p hp h d;have hin:=z0q a _ p hp;obtain ⟨f,hf⟩:=h d;have e:∀ w,plug (.hand a b) i p w=.hand (plug a (i+1) p w) b:=fun w=>by rw [plug,if_neg (by omega)]
    exact ⟨f,fun u hu n hn=>by rw [e,e]; exact up (.hand · b) _ rfl rfl (hf u hu) n hn⟩
  · intro a b i p hp h d;have hin:=z0q a _ p hp;obtain ⟨f,hf⟩:=h d;have e:∀ w,plug (.going a b) i p w=.going (plug a (i+1) p w) b:=fun w=>by rw [plug,if_neg (by omega)]
    exact ⟨f,fun u hu n hn=>by rw [e,e]; exact up (.going · b) _ rfl rfl (hf u hu) n hn⟩
  · intro a b i p hp h d;have hin:=z0q a _ p hp;obtain ⟨f,hf⟩:=h d;have e:∀ w,plug (.stack a b) i p w=.stack (plug a (i+1) p w) b:=fun w=>by rw [plug,if_neg (by omega)]
    exact ⟨f,fun u hu n hn=>by rw [e,e]; exact up (.stack · b) _ rfl rfl (hf u hu) n hn⟩
  · intro a i p hp h d;have hin:=z0q a _ p hp;obtain ⟨f,hf⟩:=h false;have e:∀ w,plug (.block a) i p w=.block (plug a (i+1) p w):=fun w=>by rw [plug,if_neg (by omega)]
    exact ⟨f,fun u hu n hn=>by rw [e,e]; exact up .block _ rfl rfl (hf u hu) n hn⟩
  · intro a b i p hp h d;have hin:=z0q a _ p hp;obtain ⟨f,hf⟩:=h (d||bangT b);have e:∀ w,plug (.par a b) i p w=.par (plug a (i+1) p w) b:=fun w=>by rw [plug,if_neg (by omega),if_pos hin.2]
    exact ⟨f,fun u hu n hn=>by rw [e,e]; exact List.mem_append_left _ (List.mem_map.2 ⟨_,hf u hu n hn,rfl⟩)⟩
  · intro a b i p hp h d;have hin:=z0q b _ p hp;obtain ⟨f,hf⟩:=h (d||bangT a);have e:∀ w,plug (.par a b) i p w=.par a (plug b (i+1+sz a) p w):=fun w=>by rw [plug,if_neg (by omega),if_neg (by omega)]
    exact ⟨f,fun u hu n hn=>by rw [e,e]; exact List.mem_append_right _ (List.mem_map.2 ⟨_,hf u hu n hn,rfl⟩)⟩
theorem mv_plug:∀ (t:Tm) (d:Bool) (i:Nat),∀ m∈mvs d t i,m.p∈wt t i∧∃ u,Made (sub t i m.p) m.h m.l u∧m.r=plug t i m.p u:=by
  intro t
  induction t with
  | act s=>intro d i m hm; simp only [mvs,List.mem_singleton] at hm; subst hm; exact ⟨by simp [wt],_,.act s,rfl⟩
  | alt a b=>
    intro d i m hm;simp only [mvs,List.mem_cons,List.not_mem_nil,or_false] at hm
    rcases hm with rfl | rfl
    · exact ⟨by simp [wt],_,.altl a b,rfl⟩
    · exact ⟨by simp [wt],_,.altr a b,rfl⟩
  | yield=>
    intro d i m hm
    have hm:m=⟨i,4,none,.over 1⟩∨m=⟨i,5,none,.over 3⟩:=by
      cases d <;> simp [mvs] at hm
      · exact .inl hm
      · exact hm
    rcases hm with rfl | rfl
    · exact ⟨by simp [wt],_,.yieldg,rfl⟩
    · exact ⟨by simp [wt],_,.yields,rfl⟩
  | pair a b=>
    intro d i m hm
    have hm:m=⟨i,4,none,.going a b⟩∨m=⟨i,5,none,.fin 3 .skip⟩:=by
      cases d <;> simp [mvs] at hm
      · exact .inl hm
      · exact hm
    rcases hm with rfl | rfl
    · exact ⟨by simp [wt],_,.pairg a b,rfl⟩
    · exact ⟨by simp [wt],_,.pairs a b,rfl⟩
  | seq a b ia ib=>intro d i m hm; obtain ⟨n,hn,rfl⟩:=List.mem_map.1 hm; obtain ⟨h1,u,h2,h3⟩:=ia _ _ n hn; have hin:=z0q a _ _ h1; exact ⟨h1,u,h2,by simp only [upm]; rw [h3,plug,if_neg (by omega)]⟩
  | hand a b ia ib=>intro d i m hm; obtain ⟨n,hn,rfl⟩:=List.mem_map.1 hm; obtain ⟨h1,u,h2,h3⟩:=ia _ _ n hn; have hin:=z0q a _ _ h1; exact ⟨h1,u,h2,by simp only [upm]; rw [h3,plug,if_neg (by omega)]⟩
  | going a b ia ib=>intro d i m hm; obtain ⟨n,hn,rfl⟩:=List.mem_map.1 hm; obtain ⟨h1,u,h2,h3⟩:=ia _ _ n hn; have hin:=z0q a _ _ h1; exact ⟨h1,u,h2,by simp only [upm]; rw [h3,plug,if_neg (by omega)]⟩
  | stack a b ia ib=>intro d i m hm; obtain ⟨n,hn,rfl⟩:=List.mem_map.1 hm; obtain ⟨h1,u,h2,h3⟩:=ia _ _ n hn; have hin:=z0q a _ _ h1; exact ⟨h1,u,h2,by simp only [upm]; rw [h3,plug,if_neg (by omega)]⟩
  | block a ia=>intro d i m hm; obtain ⟨n,hn,rfl⟩:=List.mem_map.1 hm; obtain ⟨h1,u,h2,h3⟩:=ia _ _ n hn; have hin:=z0q a _ _ h1; exact ⟨h1,u,h2,by simp only [upm]; rw [h3,plug,if_neg (by omega)]⟩
  | par a b ia ib=>
    intro d i m hm
    rcases List.mem_append.1 hm with hm | hm
    · obtain ⟨n,hn,rfl⟩:=List.mem_map.1 hm;obtain ⟨h1,u,h2,h3⟩:=ia _ _ n hn;have hin:=z0q a _ _ h1;refine ⟨List.mem_append_left _ h1,u,?_,?_⟩
      · show Made (sub (.par a b) i n.p) _ _ _
        rw [sub,if_pos hin.2]; exact h2
      · simp only [upm]; rw [h3,plug,if_neg (by omega),if_pos hin.2]
    · obtain ⟨n,hn,rfl⟩:=List.mem_map.1 hm;obtain ⟨h1,u,h2,h3⟩:=ib _ _ n hn;have hin:=z0q b _ _ h1;refine ⟨List.mem_append_right _ h1,u,?_,?_⟩
      · show Made (sub (.par a b) i n.p) _ _ _
        rw [sub,if_neg (by omega)]; exact h2
      · simp only [upm]; rw [h3,plug,if_neg (by omega),if_neg (by omega)]
  | _=>intro d i m hm; exact absurd hm (by simp [mvs])
end Sp
namespace Do
open Go Go.RowKit Rw So Se

theorem x2h (k:Int) (w:World):Calls Tryz.prog 66 #[.int .i64 k] w fun e w'=>e=.returned (.bool (wk k))∧w=w':=by
  rcases y4c k with rfl | rfl | rfl | rfl | rfl | rfl | rfl | rfl | rfl | rfl | rfl | rfl | rfl | rfl | h
  case inr.inr.inr.inr.inr.inr.inr.inr.inr.inr.inr.inr.inr.inr=>
    obtain ⟨h1,h2,h3,h4,h5,h6,h7,h8,h9,h10,h11,h12,h13,h14⟩:=h;have g1:(k==1)=false:=beq_eq_false_iff_ne.2 h1;have g6:(k==6)=false:=beq_eq_false_iff_ne.2 h6;have g4:(k==4)=false:=beq_eq_false_iff_ne.2 h4;have g10:(k==10)=false:=beq_eq_false_iff_ne.2 h10;have hr:Hid (wk k=false):=Lib.hid (by unfold wk; rw [g1,g6,g4,g10]; rfl);clear h1 h2 h3 h4 h5 h6 h7 h8 h9 h10 h11 h12 h13 h14
    go_enter Tryz.func66,Tryz.ntmps66
    go_wp2_with fail;go_ret;exact ⟨ret_bool hr.out.symm,rfl⟩
  all_goals
    go_enter Tryz.func66,Tryz.ntmps66
    go_wp2_with fail;go_ret;exact ⟨rfl,rfl⟩
theorem y3d {w:World} {b off c:Nat} {l:List Nd} (h:At w b off l) (hc:l.length≤c) (d:Nat) (hd:d≤l.length):Nds w (.slice (some ⟨b,off+d*3,none⟩) (l.length-d) (c-d)) (l.drop d):=by
  have:=z3x h d (l.length-d) (c-d) (by omega) (by omega)
  rwa [List.take_of_length_le (by rw [List.length_drop]; exact Nat.le_refl _)] at this
theorem y0y (b off c:Nat) (l:List Nd) (i:Nat) (w:World) (hat:At w b off l) (hc:l.length≤c) (hl:l.length≤1000) (hi:i+1<l.length) :
    Calls Tryz.prog 99 #[.slice (some ⟨b,off,none⟩) l.length c,.int .i64 (i:Int)] w fun e w'=>e=.returned (.int .i64 (i+1+size (l.drop (i+1)):Nat))∧Below w.heap.size w w':=by
  have HN:=Lib.hid (y3d hat hc (i+1) (by omega));have HL:Hid ((l.drop (i+1)).length≤1000000):=Lib.hid (by rw [List.length_drop]; omega);have hs:size (l.drop (i+1))≤1000:=Nat.le_trans (size_le _) (by rw [List.length_drop]; omega);obtain ⟨z,hz⟩:∃ z,size (l.drop (i+1))=z:=⟨_,rfl⟩
  rw [hz] at hs ⊢;have HZ:=Lib.hid hz;clear hat hz
  go_enter Tryz.func99,Tryz.ntmps99
  go_wp2_with fail;refine (Rx.z2j _ (l.drop (i+1)) _ HN.out HL.out).mono ?_;rw [HZ.out];rintro e w' ⟨rfl,hb⟩;have HB:=Lib.hid hb;clear hb;go_wp2_with fail;go_ret;exact ⟨by congr 2,HB.out⟩
def Chain (fn:Nat) (caps:Array Value) (Q:World→Prop):List Nat→World→Prop
  | [],w=>Q w
  | k::ks,w=>Calls Tryz.prog fn (#[.int .i64 (k:Int)]++caps) w fun e w1=>e=.returned (.tuple #[])∧Chain fn caps Q ks w1
theorem x8p {l:List Nd} {i:Nat} (hi:i<l.length):kdA l i=kdK l i l[i].k:=z6o (List.getElem?_eq_getElem hi)
theorem x0u (fn:Nat) (caps:Array Value) (eg:∀ args w,(callFunc fn args).run Tryz.prog w=.ok (.enter fn args) w) (Q:World→Prop) (b off c:Nat) (l:List Nd) (i:Nat) (w:World) (hat:At w b off l) (hc:l.length≤c) (hl:l.length≤1000)
    (hi:i<l.length) (h7:l[i].k=7→i+1<l.length) (H:∀ w0,Below w.heap.size w w0→Chain fn caps Q (kdA l i) w0) :
    Calls Tryz.prog 67 #[.slice (some ⟨b,off,none⟩) l.length c,.int .i64 (i:Int),.func (.func fn) #[] caps] w fun e w'=>e=.returned (.tuple #[])∧Q w':=by
  rw [x8p hi] at H;have e0:=(hat i hi).1;have hi2:(i:Int)<l.length:=by omega
  have c1:((i+1:Nat):Int)=(i:Int)+1:=by omega
  obtain ⟨k,hk⟩:∃ k,l[i].k=k:=⟨_,rfl⟩
  rw [hk] at e0 H h7;have HAT:=Lib.hid hat;have HH:=Lib.hid H;clear hat H hk;have grp:∀ k:Int,(k=5∨k=8∨k=9∨k=12∨k=13)→kdK l i k=[i+1]:=fun k h=>by unfold kdK; rw [if_neg (by omega),if_pos h]
  have non:∀ k:Int,k≠7→¬ (k=5∨k=8∨k=9∨k=12∨k=13)→kdK l i k=[]:=fun k h1 h2=>by unfold kdK; rw [if_neg h1,if_neg h2]
  have GRP:=Lib.hid grp;have NON:=Lib.hid non;clear grp non
  by_cases k7:k=7
  · subst k7;have h8:=h7 rfl;have HS:=Lib.hid (y0y b off c l i w HAT.out hc hl h8)
    have C:Hid (∀ w0,Below w.heap.size w w0→Calls Tryz.prog fn (#[.int .i64 ((i+1+size (l.drop (i+1)):Nat):Int)]++caps) w0 fun e w1=>e=.returned (.tuple #[])∧Calls Tryz.prog fn (#[.int .i64 ((i:Int)+1)]++caps) w1 fun e w2=>e=.returned (.tuple #[])∧Q w2):=Lib.hid fun w0 hb=>by
      have:=HH.out w0 hb;rw [show kdK l i 7=[i+1+size (l.drop (i+1)),i+1] from rfl] at this;rw [← c1];exact this
    generalize ((i+1+size (l.drop (i+1)):Nat):Int)=z at HS C;clear HH GRP NON h7 c1
    go_enter Tryz.func67,Tryz.ntmps67
    go_wp2_with fail;refine HS.out.mono ?_;rintro e w1 ⟨rfl,hb1⟩;have D1:=Lib.hid hb1;clear hb1;go_wp2_with fail;refine (C.out _ D1.out).mono ?_;rintro e w2 ⟨rfl,h2⟩;have C2:=Lib.hid h2;clear h2;go_wp2_with fail;refine C2.out.mono ?_;rintro e w3 ⟨rfl,h3⟩;have C3:=Lib.hid h3;clear h3;go_wp2_with fail;go_end0;exact ⟨rfl,C3.out⟩
  · by_cases kg:k=5∨k=8∨k=9∨k=12∨k=13
    · have C:Hid (Calls Tryz.prog fn (#[.int .i64 ((i:Int)+1)]++caps) w fun e w2=>e=.returned (.tuple #[])∧Q w2):=Lib.hid (by
        have:=HH.out w (Below.refl _ _);rw [GRP.out _ kg] at this;rw [← c1];exact this)
      clear HH GRP NON h7 c1
      rcases kg with rfl | rfl | rfl | rfl | rfl
      all_goals
        clear k7
        go_enter Tryz.func67,Tryz.ntmps67
        go_wp2_with fail;refine C.out.mono ?_;rintro e w3 ⟨rfl,h3⟩;have C3:=Lib.hid h3;clear h3;go_wp2_with fail;go_end0;exact ⟨rfl,C3.out⟩
    · have C:Hid (Q w):=Lib.hid (by
        have:=HH.out w (Below.refl _ _);rw [NON.out _ k7 kg] at this;exact this)
      have g5:(k==5)=false:=beq_eq_false_iff_ne.2 (by omega);have g8:(k==8)=false:=beq_eq_false_iff_ne.2 (by omega);have g9:(k==9)=false:=beq_eq_false_iff_ne.2 (by omega);have g12:(k==12)=false:=beq_eq_false_iff_ne.2 (by omega);have g13:(k==13)=false:=beq_eq_false_iff_ne.2 (by omega);have g7:(k==7)=false:=beq_eq_false_iff_ne.2 k7;clear HH GRP NON h7 c1 k7 kg
      go_enter Tryz.func67,Tryz.ntmps67
      go_wp2_with fail;go_end0;exact ⟨rfl,C.out⟩
end Do
namespace Me
open Go Go.RowKit Rw So Se Do
structure Mv where
  p:Int
  h:Int
deriving DecidableEq
def hw (k:Int) (f:Bool) (z:Int):List Mv:=if k=1 then [⟨z,1⟩] else if k=6 then [⟨z,2⟩,⟨z,3⟩] else ⟨z,4⟩::if f then [⟨z,5⟩] else []
def kn (l:List Nd) (z:Int):Int:=match l[z.toNat]? with | some x=>x.k | none=>0
noncomputable def enR (l:List Nd):List Mv:=(av l).flatMap fun z=>hw (kn l z) (fr l z) z
theorem hw_len (k:Int) (f:Bool) (z:Int):(hw k f z).length≤2:=by
  unfold hw
  split
  · simp
  · split
    · simp
    · cases f <;> simp
def mcl (m:Mv):List Value:=[.int .i64 m.p,.int .i64 m.h]
def mcls:List Mv→List Value
  | []=>[]
  | m::l=>mcl m++mcls l
theorem x0q:∀ l:List Mv,(mcls l).length=l.length*2
  | []=>rfl
  | m::l=>by rw [mcls,List.length_append,x0q l]; simp [mcl]; omega
theorem z9o:∀ l m:List Mv,mcls (l++m)=mcls l++mcls m
  | [],_=>rfl
  | x::l,m=>by rw [List.cons_append,mcls,z9o l m,mcls,List.append_assoc]
theorem x8j:∀ (l:List Mv) (k:Nat) (h:k<l.length),(mcls l)[k*2]?=some (.int .i64 l[k].p)∧(mcls l)[k*2+1]?=some (.int .i64 l[k].h)
  | [],k,h=>by simp at h
  | x::l,0,_=>⟨rfl,rfl⟩
  | x::l,k+1,h=>by
    have:=x8j l k (by simpa using h)
    simpa [mcls,mcl,show (k+1)*2=k*2+1+1 by omega] using this
def Mvs (w:World) (v:Value) (l:List Mv):Prop:=Ap.Rd w 2 v l.length (mcls l)
theorem Mvs.below {w w':World} {v:Value} {l:List Mv} (h:Mvs w v l) (hb:Below w.heap.size w w'):Mvs w' v l:=Ap.Rd.below h hb
def AtM (w:World) (b off:Nat) (l:List Mv):Prop:=∀ k,(h:k<l.length)→w.cell? ⟨b,off+k*2,none⟩=some (.int .i64 l[k].p)∧w.cell? ⟨b,off+k*2+1,none⟩=some (.int .i64 l[k].h)
theorem AtM.below {w w':World} {b off:Nat} {l:List Mv} (h:AtM w b off l) (hb:Below w.heap.size w w'):AtM w' b off l:=fun k hk=>by
  obtain ⟨h1,h2⟩:=h k hk;exact ⟨by rw [hb.cell (Ap.z0a h1)]; exact h1,by rw [hb.cell (Ap.z0a h2)]; exact h2⟩
theorem Mvs.form {w:World} {v:Value} {l:List Mv} (h:Mvs w v l) :
    (l=[]∧∃ a cap,v=.slice a 0 cap)∨∃ b off cap,v=.slice (some ⟨b,off,none⟩) l.length cap∧l.length≤cap∧AtM w b off l:=by
  obtain ⟨_,a,cap,rfl,hle,_,hcell⟩:=h
  by_cases h0:0<l.length
  · obtain ⟨b,off,rfl,hj⟩:=hcell h0;refine Or.inr ⟨b,off,cap,rfl,hle,fun k hk=>?_⟩;obtain ⟨h1,h2⟩:=x8j l k hk;exact ⟨hj _ _ h1,by rw [Nat.add_assoc]; exact hj _ _ h2⟩
  · have:l=[]:=List.eq_nil_of_length_eq_zero (by omega);subst this;exact Or.inl ⟨rfl,a,cap,rfl⟩
theorem mvs_new (w:World) (l:List Mv) (ty:TypeId):Mvs (w.alloc (.cells (mcls l).toArray ty)) (.slice (some ⟨w.heap.size,0,none⟩) l.length l.length) l:=by
  refine ⟨x0q l,some ⟨w.heap.size,0,none⟩,l.length,rfl,Nat.le_refl _,fun h=>(by cases h),fun _=>⟨w.heap.size,0,rfl,fun j u hu=>?_⟩⟩;rw [Nat.zero_add,World.cell?_alloc_new]
  simpa using hu
theorem infoMv:(Tryz.prog.info? 24).map (fun i=>(i.zero,i.size,i.bytes))=some (some (.agg #[.int .i64 0,.int .i64 0]),2,16):=by kernel_rfl
def GotM (base:Nat) (w:World) (v:Value) (l:List Mv):Prop:=w.ownsRow base 24 2 v l.length (mcls l)∧base≤w.heap.size
theorem GotM.mvs {base:Nat} {w:World} {v:Value} {l:List Mv} (h:GotM base w v l):Mvs w v l:=Ap.Rd.owned h.1
theorem GotM.start {base:Nat} {w:World} (hb:base≤w.heap.size):GotM base w (.slice none 0 0) []:=⟨⟨rfl,.inl ⟨rfl,rfl⟩⟩,hb⟩
theorem GotM.below {base:Nat} {w w':World} {v:Value} {l:List Mv} (h:GotM base w v l) (hb:Below w.heap.size w w'):GotM base w' v l:=⟨Ap.own_below h.1 hb,Nat.le_trans h.2 hb.size⟩
theorem GotM.row {base:Nat} {w:World} {v y:Value} {l m:List Mv} (h:GotM base w v l) (hy:Mvs w y m) (hl:l.length+m.length≤1000000) :
    ∃ v' w',(Builtin.append_ #[38,38] 38 #[v,y]).run Tryz.prog w=.ok v' w'∧GotM base w' v' (l++m)∧Below base w w':=by
  obtain ⟨i0,hi,hz,hs1,hb8⟩:=info_parts infoMv
  have one:∀ l:List Mv,∀ u∈mcls l,u.oneCell'=true:=by
    intro l
    induction l with
    | nil=>intro u hu; cases hu
    | cons x l ih=>
      intro u hu;simp only [mcls,mcl,List.cons_append,List.nil_append,List.mem_cons] at hu
      rcases hu with rfl | rfl | hu
      · rfl
      · rfl
      · exact ih u hu
  obtain ⟨v',w',h1,h2,_,h4,_⟩:=Ap.z0t (P:=Tryz.prog) (ty:=38) Tryz.underlying38 hi hz hs1 hb8 (by rfl) (by omega) h.1 h.2 hy (one m) (by unfold maxLen; omega) (by omega);exact ⟨v',w',h1,⟨by rw [List.length_append,z9o]; exact h2,Nat.le_trans h.2 h4.size⟩,h4⟩
theorem GotM.new {base:Nat} {w:World} {v:Value} {l:List Mv} (m:List Mv) (h:GotM base w v l) (hl:l.length+m.length≤1000000) :
    ∃ v' w',(Builtin.append_ #[38,38] 38 #[v,.slice (some ⟨w.heap.size,0,none⟩) m.length m.length]).run Tryz.prog (w.alloc (.cells (mcls m).toArray 24))=.ok v' w'∧GotM base w' v' (l++m)∧Below base w w':=by
  obtain ⟨v',w',h1,h2,h3⟩:=(h.below (z0f w _)).row (mvs_new w m 24) hl;exact ⟨v',w',h1,h2,((z0f w _).mono h.2).trans h3⟩
end Me
namespace Mn
open Go Go.RowKit Tr




end Mn
namespace Sp
open Go Rw So Se Tr Mn Do
def far (k:Nat) (m:Mo):Mo:=⟨m.p+k,m.h,m.l,m.r⟩
theorem far_up (k:Nat) (f:Tm→Tm) (l:List Mo):(l.map (far k)).map (upm f)=(l.map (upm f)).map (far k):=by
  rw [List.map_map,List.map_map]
  rfl
theorem mv_over {t:Tm} {d:Bool} {i:Nat} {m:Mo} (h:m∈mvs d t i):isOver t=false∧isFin t=false:=by
  cases t <;> first | exact ⟨rfl,rfl⟩ | exact absurd h (by simp [mvs])
theorem par_stay_r {x b:Tm} (hb:isOver b=false∧isFin b=false):sPar x b=.par x b:=by
  cases x <;> try rfl
  · cases b <;> first | rfl | cases hb.1
  · cases b <;> first | rfl | cases hb.2
theorem par_stay_l {a y:Tm} (ha:isOver a=false∧isFin a=false):sPar a y=.par a y:=by
  cases a <;> first | rfl | exact Bool.noConfusion ha.1 | exact Bool.noConfusion ha.2
theorem refused {t:Tm} (hn:Nf t) {m:Mo} (hm:m∈mvs true t 0) (h1:m.h=1):∃ s,sub t 0 m.p=.act s∧m.l=some s∧m.p∈wt t 0∧
    Nf (plug t 0 m.p (.alt (.act s) .throw))∧
    (⟨m.p,3,none,plug t 0 m.p .throw⟩:Mo)∈mvs true (plug t 0 m.p (.alt (.act s) .throw)) 0∧
    (⟨m.p,2,none,t⟩:Mo)∈mvs true (plug t 0 m.p (.alt (.act s) .throw)) 0:=by
  obtain ⟨hw,u,hu,hr⟩:=mv_plug t true 0 m hm;obtain ⟨p,h,l,r⟩:=m;simp only at *;subst h1
  have:∀ {x:Tm} {k:Int},Made x k l u→k=1→∃ s,x=.act s∧l=some s:=by
    intro x k hx hk
    cases hx with
    | act s=>exact ⟨s,rfl,rfl⟩
    | _=>exact absurd hk (by decide)
  obtain ⟨s,e1,e2⟩:=this hu rfl;obtain ⟨f,hf⟩:=mvs_plug t 0 p hw true;refine ⟨s,e1,e2,hw,plug_nf t 0 p hw hn _ rfl,?_,?_⟩
  · exact hf (.alt (.act s) .throw) rfl ⟨p,3,none,.throw⟩ (by simp [mvs])
  · have:=hf (.alt (.act s) .throw) rfl ⟨p,2,none,.act s⟩ (by simp [mvs]);rw [← e1,z7x t 0 p hw] at this;rw [← e1];exact this
end Sp
namespace Do
open Go Go.RowKit Rw So Se

theorem infoRw:(Tryz.prog.info? 22).map (fun i=>(i.zero,i.size,i.bytes))=some (some (.slice none 0 0),1,24):=by kernel_rfl
def GotR (w0:World) (base:Nat) (w:World) (v:Value) (ls:List (List Nd)):Prop:=∃ cs,w.ownsRow base 22 1 v ls.length cs∧RwC w0 cs ls∧base≤w.heap.size
theorem pth_len:∀ (t:Tm) (i p:Nat),(pth t i p).1.length≤sz t:=by
  intro t
  induction t with
  | par a b ia ib=>
    intro i p;have h1:=ia (i+1) p;have h2:=ib (i+1+sz a) p;have:=z0l a;have:=z0l b;simp only [pth,sz]
    split
    · simp
    · split
      · split
        · omega
        · simp; omega
      · split
        · omega
        · simp; omega
  | block a ia=>intro i p; have:=ia (i+1) p; simp only [pth,sz]; split; simp; simp; omega
  | fin s c ic=>intro i p; have:=ic (i+1) p; simp only [pth,sz]; split; simp; omega
  | seq a b ia ib=>intro i p; have:=ia (i+1) p; have:=ib (i+1+sz a) p; simp only [pth,sz]; split; simp; split <;> omega
  | alt a b ia ib=>intro i p; have:=ia (i+1) p; have:=ib (i+1+sz a) p; simp only [pth,sz]; split; simp; split <;> omega
  | hand a b ia ib=>intro i p; have:=ia (i+1) p; have:=ib (i+1+sz a) p; simp only [pth,sz]; split; simp; split <;> omega
  | pair a b ia ib=>intro i p; have:=ia (i+1) p; have:=ib (i+1+sz a) p; simp only [pth,sz]; split; simp; split <;> omega
  | going a b ia ib=>intro i p; have:=ia (i+1) p; have:=ib (i+1+sz a) p; simp only [pth,sz]; split; simp; split <;> omega
  | stack a b ia ib=>intro i p; have:=ia (i+1) p; have:=ib (i+1+sz a) p; simp only [pth,sz]; split; simp; split <;> omega
  | _=>intro i p; simp [pth]
end Do
end Go.Proofs.YtaapnkoooofalaaGreat
