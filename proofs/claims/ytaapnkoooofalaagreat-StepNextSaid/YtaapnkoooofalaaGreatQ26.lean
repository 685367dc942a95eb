/- Plain: another tree in the place of one that waits. Plain: the moves of a row; rows of moves in memory. -/
import Derived.Test.YtaapnkoooofalaaGreatQ24
import Derived.Test.YtaapnkoooofalaaGreatQ25

namespace Go.Proofs.YtaapnkoooofalaaGreat.Sp
open Go Rw So Se Tr Mn Do
def sub:Tm→Nat→Nat→Tm
  | .seq a _,i,p=>sub a (i+1) p
  | .hand a _,i,p=>sub a (i+1) p
  | .going a _,i,p=>sub a (i+1) p
  | .stack a _,i,p=>sub a (i+1) p
  | .block a,i,p=>sub a (i+1) p
  | .par a b,i,p=>if p < i+1+sz a then sub a (i+1) p else sub b (i+1+sz a) p
  | t,_,_=>t
def plug:Tm→Nat→Nat→Tm→Tm
  | .seq a b,i,p,u=>if i=p then u else .seq (plug a (i+1) p u) b
  | .hand a b,i,p,u=>if i=p then u else .hand (plug a (i+1) p u) b
  | .going a b,i,p,u=>if i=p then u else .going (plug a (i+1) p u) b
  | .stack a b,i,p,u=>if i=p then u else .stack (plug a (i+1) p u) b
  | .block a,i,p,u=>if i=p then u else .block (plug a (i+1) p u)
  | .par a b,i,p,u=>if i=p then u else if p < i+1+sz a then .par (plug a (i+1) p u) b else .par a (plug b (i+1+sz a) p u)
  | _,_,_,u=>u
def leafB:Tm→Bool
  | .act _=>true
  | .alt _ _=>true
  | .yield=>true
  | .pair _ _=>true
  | _=>false
theorem plug_at (t:Tm) (i:Nat) (u:Tm):plug t i i u=u:=by cases t <;> simp [plug]
theorem wt_ind {P:Tm→Nat→Nat→Prop} (leaf:∀ t i,leafB t=true→P t i i)
    (seq:∀ a b i p,p∈wt a (i+1)→P a (i+1) p→P (.seq a b) i p) (hand:∀ a b i p,p∈wt a (i+1)→P a (i+1) p→P (.hand a b) i p)
    (going:∀ a b i p,p∈wt a (i+1)→P a (i+1) p→P (.going a b) i p) (stack:∀ a b i p,p∈wt a (i+1)→P a (i+1) p→P (.stack a b) i p)
    (block:∀ a i p,p∈wt a (i+1)→P a (i+1) p→P (.block a) i p)
    (parl:∀ a b i p,p∈wt a (i+1)→P a (i+1) p→P (.par a b) i p) (parr:∀ a b i p,p∈wt b (i+1+sz a)→P b (i+1+sz a) p→P (.par a b) i p) :
    ∀ (t:Tm) (i p:Nat),p∈wt t i→P t i p:=by
  intro t
  induction t with
  | act s=>intro i p h; simp only [wt,List.mem_singleton] at h; subst h; exact leaf _ _ rfl
  | alt a b=>intro i p h; simp only [wt,List.mem_singleton] at h; subst h; exact leaf _ _ rfl
  | yield=>intro i p h; simp only [wt,List.mem_singleton] at h; subst h; exact leaf _ _ rfl
  | pair a b=>intro i p h; simp only [wt,List.mem_singleton] at h; subst h; exact leaf _ _ rfl
  | seq a b ia ib=>intro i p h; exact seq a b i p h (ia _ _ h)
  | hand a b ia ib=>intro i p h; exact hand a b i p h (ia _ _ h)
  | going a b ia ib=>intro i p h; exact going a b i p h (ia _ _ h)
  | stack a b ia ib=>intro i p h; exact stack a b i p h (ia _ _ h)
  | block a ia=>intro i p h; exact block a i p h (ia _ _ h)
  | par a b ia ib=>
    intro i p h
    rcases List.mem_append.1 h with h | h
    · exact parl a b i p h (ia _ _ h)
    · exact parr a b i p h (ib _ _ h)
  | _=>intro i p h; exact absurd h (by simp [wt])
theorem plug_sub:∀ (t:Tm) (i p:Nat),p∈wt t i→plug t i p (sub t i p)=t:=by
  refine wt_ind (P:=fun t i p=>plug t i p (sub t i p)=t) ?_ ?_ ?_ ?_ ?_ ?_ ?_ ?_
  · intro t i h; rw [plug_at]; cases t <;> first | rfl | cases h
  · intro a b i p hp h; have:=wt_in a _ p hp; simp only [sub,plug]; rw [if_neg (by omega),h]
  · intro a b i p hp h; have:=wt_in a _ p hp; simp only [sub,plug]; rw [if_neg (by omega),h]
  · intro a b i p hp h; have:=wt_in a _ p hp; simp only [sub,plug]; rw [if_neg (by omega),h]
  · intro a b i p hp h; have:=wt_in a _ p hp; simp only [sub,plug]; rw [if_neg (by omega),h]
  · intro a i p hp h; have:=wt_in a _ p hp; simp only [sub,plug]; rw [if_neg (by omega),h]
  · intro a b i p hp h; have:=wt_in a _ p hp; simp only [sub,plug]; rw [if_neg (by omega),if_pos this.2,if_pos this.2,h]
  · intro a b i p hp h; have:=wt_in b _ p hp; simp only [sub,plug]; rw [if_neg (by omega),if_neg (by omega),if_neg (by omega),h]
theorem plug_row:∀ (t:Tm) (i p:Nat),p∈wt t i→∃ pre post,p=i+pre.length∧∀ u,flat (plug t i p u)=pre++(flat u++post):=by
  have down:∀ {a:Tm} {i j p:Nat} (f:Tm→Tm) (n x:List Nd),j=i+n.length→(∀ c,flat (f c)=n++(flat c++x))→(∃ pre post,p=j+pre.length∧∀ u,flat (plug a j p u)=pre++(flat u++post))→
      ∀ (q:Tm→Tm),(∀ u,q u=f (plug a j p u))→∃ pre post,p=i+pre.length∧∀ u,flat (q u)=pre++(flat u++post):=by
    rintro a i j p f n x hj hf ⟨pre,post,h1,h2⟩ q hq;refine ⟨n++pre,post++x,by rw [List.length_append]; omega,fun u=>?_⟩;rw [hq,hf,h2];simp
  refine wt_ind (P:=fun t i p=>∃ pre post,p=i+pre.length∧∀ u,flat (plug t i p u)=pre++(flat u++post)) ?_ ?_ ?_ ?_ ?_ ?_ ?_ ?_
  · intro t i h; exact ⟨[],[],rfl,fun u=>by rw [plug_at]; simp⟩
  · intro a b i p hp h; have hin:=wt_in a _ p hp; exact down (j:=i+1) (.seq · b) [nOf 5] (flat b) rfl (fun _=>rfl) h _ fun u=>by rw [plug,if_neg (by omega)]
  · intro a b i p hp h; have hin:=wt_in a _ p hp; exact down (j:=i+1) (.hand · b) [nOf 8] (flat b) rfl (fun _=>rfl) h _ fun u=>by rw [plug,if_neg (by omega)]
  · intro a b i p hp h; have hin:=wt_in a _ p hp; exact down (j:=i+1) (.going · b) [nOf 12] (flat b) rfl (fun _=>rfl) h _ fun u=>by rw [plug,if_neg (by omega)]
  · intro a b i p hp h; have hin:=wt_in a _ p hp; exact down (j:=i+1) (.stack · b) [nOf 13] (flat b) rfl (fun _=>rfl) h _ fun u=>by rw [plug,if_neg (by omega)]
  · intro a i p hp h; have hin:=wt_in a _ p hp; exact down (j:=i+1) .block [nOf 9] [] rfl (fun _=>by simp [flat]) h _ fun u=>by rw [plug,if_neg (by omega)]
  · intro a b i p hp h; have hin:=wt_in a _ p hp; exact down (j:=i+1) (.par · b) [nOf 7] (flat b) rfl (fun _=>rfl) h _ fun u=>by rw [plug,if_neg (by omega),if_pos hin.2]
  · intro a b i p hp h; have hin:=wt_in b _ p hp; exact down (j:=i+1+sz a) (.par a ·) (nOf 7::flat a) [] (by rw [List.length_cons,Se.flat_len]; omega) (fun _=>by simp [flat]) h _ fun u=>by rw [plug,if_neg (by omega),if_neg (by omega)]
theorem leaf_ends {u:Tm} (h:leafB u=true):isOver u=false∧isFin u=false∧isGone u=false∧Nf u:=by cases u <;> first | exact ⟨rfl,rfl,rfl,trivial⟩ | cases h
theorem plug_ends:∀ (t:Tm) (i p:Nat),p∈wt t i→∀ u,leafB u=true→isOver (plug t i p u)=false∧isFin (plug t i p u)=false∧isGone (plug t i p u)=false:=by
  refine wt_ind (P:=fun t i p=>∀ u,leafB u=true→isOver (plug t i p u)=false∧isFin (plug t i p u)=false∧isGone (plug t i p u)=false) ?_ ?_ ?_ ?_ ?_ ?_ ?_ ?_
  · intro t i _ u h; rw [plug_at]; have:=leaf_ends h; exact ⟨this.1,this.2.1,this.2.2.1⟩
  · intro a b i p hp h u _; have hin:=wt_in a _ p hp; rw [plug,if_neg (by omega)]; exact ⟨rfl,rfl,rfl⟩
  · intro a b i p hp h u _; have hin:=wt_in a _ p hp; rw [plug,if_neg (by omega)]; exact ⟨rfl,rfl,rfl⟩
  · intro a b i p hp h u _; have hin:=wt_in a _ p hp; rw [plug,if_neg (by omega)]; exact ⟨rfl,rfl,rfl⟩
  · intro a b i p hp h u _; have hin:=wt_in a _ p hp; rw [plug,if_neg (by omega)]; exact ⟨rfl,rfl,rfl⟩
  · intro a i p hp h u _; have hin:=wt_in a _ p hp; rw [plug,if_neg (by omega)]; exact ⟨rfl,rfl,rfl⟩
  · intro a b i p hp h u _; have hin:=wt_in a _ p hp; rw [plug,if_neg (by omega),if_pos hin.2]; exact ⟨rfl,rfl,rfl⟩
  · intro a b i p hp h u _; have hin:=wt_in b _ p hp; rw [plug,if_neg (by omega),if_neg (by omega)]; exact ⟨rfl,rfl,rfl⟩
theorem plug_nf:∀ (t:Tm) (i p:Nat),p∈wt t i→Nf t→∀ u,leafB u=true→Nf (plug t i p u):=by
  refine wt_ind (P:=fun t i p=>Nf t→∀ u,leafB u=true→Nf (plug t i p u)) ?_ ?_ ?_ ?_ ?_ ?_ ?_ ?_
  · intro t i _ _ u h; rw [plug_at]; exact (leaf_ends h).2.2.2
  · intro a b i p hp h hn u hu; have hin:=wt_in a _ p hp; rw [plug,if_neg (by omega)]; have:=plug_ends a _ p hp u hu; exact ⟨h hn.1 u hu,this.1,this.2.1⟩
  · intro a b i p hp h hn u hu; have hin:=wt_in a _ p hp; rw [plug,if_neg (by omega)]; have:=plug_ends a _ p hp u hu; exact ⟨h hn.1 u hu,this.1⟩
  · intro a b i p hp h hn u hu; have hin:=wt_in a _ p hp; rw [plug,if_neg (by omega)]; have:=plug_ends a _ p hp u hu; exact ⟨h hn.1 u hu,this.1⟩
  · intro a b i p hp h hn u hu; have hin:=wt_in a _ p hp; rw [plug,if_neg (by omega)]; have:=plug_ends a _ p hp u hu; exact ⟨h hn.1 u hu,this.2.1⟩
  · intro a i p hp h hn u hu; have hin:=wt_in a _ p hp; rw [plug,if_neg (by omega)]; have:=plug_ends a _ p hp u hu; exact ⟨h hn.1 u hu,this.2.2⟩
  · intro a b i p hp h hn u hu; have hin:=wt_in a _ p hp; rw [plug,if_neg (by omega),if_pos hin.2]; have:=plug_ends a _ p hp u hu; exact ⟨h hn.1 u hu,hn.2.1,by rw [this.1]; rfl,by rw [this.2.1]; rfl⟩
  · intro a b i p hp h hn u hu; have hin:=wt_in b _ p hp; rw [plug,if_neg (by omega),if_neg (by omega)]; have:=plug_ends b _ p hp u hu; exact ⟨hn.1,h hn.2.1 u hu,by rw [this.1,Bool.and_false],by rw [this.2.1,Bool.and_false]⟩
theorem plug_rg:∀ (t:Tm) (i p:Nat),p∈wt t i→rg t=true→(rg (sub t i p)=true∧∀ u,rg u=true→rg (plug t i p u)=true):=by
  refine wt_ind (P:=fun t i p=>rg t=true→(rg (sub t i p)=true∧∀ u,rg u=true→rg (plug t i p u)=true)) ?_ ?_ ?_ ?_ ?_ ?_ ?_ ?_
  · intro t i hl hr; exact ⟨by (cases t <;> first | exact hr | cases hl),fun u h=>by rw [plug_at]; exact h⟩
  · intro a b i p hp h hr; have hin:=wt_in a _ p hp; rw [rg_seq,Bool.and_eq_true] at hr; exact ⟨(h hr.1).1,fun u hu=>by rw [plug,if_neg (by omega),rg_seq,(h hr.1).2 u hu,hr.2]; rfl⟩
  · intro a b i p hp h hr; have hin:=wt_in a _ p hp; rw [rg_hand,Bool.and_eq_true] at hr; exact ⟨(h hr.1).1,fun u hu=>by rw [plug,if_neg (by omega),rg_hand,(h hr.1).2 u hu,hr.2]; rfl⟩
  · intro a b i p hp h hr; have hin:=wt_in a _ p hp; rw [rg_going,Bool.and_eq_true] at hr; exact ⟨(h hr.1).1,fun u hu=>by rw [plug,if_neg (by omega),rg_going,(h hr.1).2 u hu,hr.2]; rfl⟩
  · intro a b i p hp h hr; have hin:=wt_in a _ p hp; rw [rg_stack,Bool.and_eq_true] at hr; exact ⟨(h hr.1).1,fun u hu=>by rw [plug,if_neg (by omega),rg_stack,(h hr.1).2 u hu,hr.2]; rfl⟩
  · intro a i p hp h hr; have hin:=wt_in a _ p hp; rw [rg_block] at hr; exact ⟨(h hr).1,fun u hu=>by rw [plug,if_neg (by omega),rg_block,(h hr).2 u hu]⟩
  · intro a b i p hp h hr; have hin:=wt_in a _ p hp; rw [rg_par,Bool.and_eq_true] at hr; exact ⟨by rw [sub,if_pos hin.2]; exact (h hr.1).1,fun u hu=>by rw [plug,if_neg (by omega),if_pos hin.2,rg_par,(h hr.1).2 u hu,hr.2]; rfl⟩
  · intro a b i p hp h hr; have hin:=wt_in b _ p hp; rw [rg_par,Bool.and_eq_true] at hr; exact ⟨by rw [sub,if_neg (by omega)]; exact (h hr.2).1,fun u hu=>by rw [plug,if_neg (by omega),if_neg (by omega),rg_par,(h hr.2).2 u hu,hr.1]; rfl⟩
theorem plug_is:∀ (t:Tm) (i p:Nat),p∈wt t i→∀ u,(∀ s,s=3∨s=4→is (sub t i p) s=true→is u s=true)→∀ s,s=3∨s=4→is t s=true→is (plug t i p u) s=true:=by
  refine wt_ind (P:=fun t i p=>∀ u,(∀ s,s=3∨s=4→is (sub t i p) s=true→is u s=true)→∀ s,s=3∨s=4→is t s=true→is (plug t i p u) s=true) ?_ ?_ ?_ ?_ ?_ ?_ ?_ ?_
  · intro t i hl u h s hs k; rw [plug_at]; refine h s hs ?_; cases t <;> first | exact k | cases hl
  · intro a b i p hp h u hu s hs k; have hin:=wt_in a _ p hp; rw [plug,if_neg (by omega)]; rcases hs with rfl | rfl <;> simp [is] at k ⊢ <;> exact ⟨h u hu _ (by omega) k.1,k.2⟩
  · intro a b i p hp h u hu s hs k; have hin:=wt_in a _ p hp; rw [plug,if_neg (by omega)]; rcases hs with rfl | rfl <;> simp [is] at k ⊢; exact ⟨h u hu _ (by omega) k.1,k.2⟩
  · intro a b i p hp h u hu s hs k; have hin:=wt_in a _ p hp; rw [plug,if_neg (by omega)]; rcases hs with rfl | rfl <;> simp [is] at k ⊢; exact ⟨h u hu _ (by omega) k.1,k.2⟩
  · intro a b i p hp h u hu s hs k; have hin:=wt_in a _ p hp; rw [plug,if_neg (by omega)]; rcases hs with rfl | rfl <;> simp [is] at k ⊢; exact ⟨h u hu _ (by omega) k.1,k.2⟩
  · intro a i p hp h u hu s hs k; have hin:=wt_in a _ p hp; rw [plug,if_neg (by omega)]; rcases hs with rfl | rfl <;> simp [is] at k ⊢; exact h u hu _ (by omega) k
  · intro a b i p hp h u hu s hs k;have hin:=wt_in a _ p hp;rw [sub,if_pos hin.2] at hu;rw [plug,if_neg (by omega),if_pos hin.2];simp only [is,Bool.and_eq_true] at k ⊢;exact ⟨h u hu s hs k.1,k.2⟩
  · intro a b i p hp h u hu s hs k;have hin:=wt_in b _ p hp;rw [sub,if_neg (by omega)] at hu;rw [plug,if_neg (by omega),if_neg (by omega)];simp only [is,Bool.and_eq_true] at k ⊢;exact ⟨k.1,h u hu s hs k.2⟩
theorem mvs_plug:∀ (t:Tm) (i p:Nat),p∈wt t i→∀ d,∃ f,∀ u,leafB u=true→∀ n∈mvs f u p,⟨n.p,n.h,n.l,plug t i p n.r⟩∈mvs d (plug t i p u) i:=by
  have up:∀ {a:Tm} {j p:Nat} {f d d':Bool} {i:Nat} {u:Tm} (g:Tm→Tm) (x:Tm),x=g (plug a j p u)→mvs d x i=(mvs d' (plug a j p u) j).map (upm g)→
      (∀ n∈mvs f u p,(⟨n.p,n.h,n.l,plug a j p n.r⟩:Mo)∈mvs d' (plug a j p u) j)→∀ n∈mvs f u p,(⟨n.p,n.h,n.l,g (plug a j p n.r)⟩:Mo)∈mvs d x i:=by
    intro a j p f d d' i u g x e1 e2 h n hn;rw [e2];exact List.mem_map.2 ⟨_,h n hn,rfl⟩
  refine wt_ind (P:=fun t i p=>∀ d,∃ f,∀ u,leafB u=true→∀ n∈mvs f u p,⟨n.p,n.h,n.l,plug t i p n.r⟩∈mvs d (plug t i p u) i) ?_ ?_ ?_ ?_ ?_ ?_ ?_ ?_
  · intro t i _ d; exact ⟨d,fun u _ n hn=>by rw [plug_at,plug_at]; exact hn⟩
  · intro a b i p hp h d;have hin:=wt_in a _ p hp;obtain ⟨f,hf⟩:=h d;have e:∀ w,plug (.seq a b) i p w=.seq (plug a (i+1) p w) b:=fun w=>by rw [plug,if_neg (by omega)]
    exact ⟨f,fun u hu n hn=>by rw [e,e]; exact up (.seq · b) _ rfl rfl (hf u hu) n hn⟩
  · intro a b i p hp h d;have hin:=wt_in a _ p hp;obtain ⟨f,hf⟩:=h d;have e:∀ w,plug (.hand a b) i p w=.hand (plug a (i+1) p w) b:=fun w=>by rw [plug,if_neg (by omega)]
    exact ⟨f,fun u hu n hn=>by rw [e,e]; exact up (.hand · b) _ rfl rfl (hf u hu) n hn⟩
  · intro a b i p hp h d;have hin:=wt_in a _ p hp;obtain ⟨f,hf⟩:=h d;have e:∀ w,plug (.going a b) i p w=.going (plug a (i+1) p w) b:=fun w=>by rw [plug,if_neg (by omega)]
    exact ⟨f,fun u hu n hn=>by rw [e,e]; exact up (.going · b) _ rfl rfl (hf u hu) n hn⟩
  · intro a b i p hp h d;have hin:=wt_in a _ p hp;obtain ⟨f,hf⟩:=h d;have e:∀ w,plug (.stack a b) i p w=.stack (plug a (i+1) p w) b:=fun w=>by rw [plug,if_neg (by omega)]
    exact ⟨f,fun u hu n hn=>by rw [e,e]; exact up (.stack · b) _ rfl rfl (hf u hu) n hn⟩
  · intro a i p hp h d;have hin:=wt_in a _ p hp;obtain ⟨f,hf⟩:=h false;have e:∀ w,plug (.block a) i p w=.block (plug a (i+1) p w):=fun w=>by rw [plug,if_neg (by omega)]
    exact ⟨f,fun u hu n hn=>by rw [e,e]; exact up .block _ rfl rfl (hf u hu) n hn⟩
  · intro a b i p hp h d;have hin:=wt_in a _ p hp;obtain ⟨f,hf⟩:=h (d || bangT b);have e:∀ w,plug (.par a b) i p w=.par (plug a (i+1) p w) b:=fun w=>by rw [plug,if_neg (by omega),if_pos hin.2]
    exact ⟨f,fun u hu n hn=>by rw [e,e]; exact List.mem_append_left _ (List.mem_map.2 ⟨_,hf u hu n hn,rfl⟩)⟩
  · intro a b i p hp h d;have hin:=wt_in b _ p hp;obtain ⟨f,hf⟩:=h (d || bangT a);have e:∀ w,plug (.par a b) i p w=.par a (plug b (i+1+sz a) p w):=fun w=>by rw [plug,if_neg (by omega),if_neg (by omega)]
    exact ⟨f,fun u hu n hn=>by rw [e,e]; exact List.mem_append_right _ (List.mem_map.2 ⟨_,hf u hu n hn,rfl⟩)⟩
theorem mv_plug:∀ (t:Tm) (d:Bool) (i:Nat),∀ m∈mvs d t i,m.p∈wt t i∧∃ u,Made (sub t i m.p) m.h m.l u∧m.r=plug t i m.p u:=by
  intro t
  induction t with
  | act s=>intro d i m hm; simp only [mvs,List.mem_singleton] at hm; subst hm; exact ⟨by simp [wt],_,.act s,rfl⟩
  | alt a b=>
    intro d i m hm;simp only [mvs,List.mem_cons,List.not_mem_nil,or_false] at hm
    rcases hm with rfl | rfl
    · exact ⟨by simp [wt],_,.altl a b,rfl⟩
    · exact ⟨by simp [wt],_,.altr a b,rfl⟩
  | yield=>
    intro d i m hm
    have hm:m=⟨i,4,none,.over 1⟩∨m=⟨i,5,none,.over 3⟩:=by
      cases d <;> simp [mvs] at hm
      · exact .inl hm
      · exact hm
    rcases hm with rfl | rfl
    · exact ⟨by simp [wt],_,.yieldg,rfl⟩
    · exact ⟨by simp [wt],_,.yields,rfl⟩
  | pair a b=>
    intro d i m hm
    have hm:m=⟨i,4,none,.going a b⟩∨m=⟨i,5,none,.fin 3 .skip⟩:=by
      cases d <;> simp [mvs] at hm
      · exact .inl hm
      · exact hm
    rcases hm with rfl | rfl
    · exact ⟨by simp [wt],_,.pairg a b,rfl⟩
    · exact ⟨by simp [wt],_,.pairs a b,rfl⟩
  | seq a b ia ib=>intro d i m hm; obtain ⟨n,hn,rfl⟩:=List.mem_map.1 hm; obtain ⟨h1,u,h2,h3⟩:=ia _ _ n hn; have hin:=wt_in a _ _ h1; exact ⟨h1,u,h2,by simp only [upm]; rw [h3,plug,if_neg (by omega)]⟩
  | hand a b ia ib=>intro d i m hm; obtain ⟨n,hn,rfl⟩:=List.mem_map.1 hm; obtain ⟨h1,u,h2,h3⟩:=ia _ _ n hn; have hin:=wt_in a _ _ h1; exact ⟨h1,u,h2,by simp only [upm]; rw [h3,plug,if_neg (by omega)]⟩
  | going a b ia ib=>intro d i m hm; obtain ⟨n,hn,rfl⟩:=List.mem_map.1 hm; obtain ⟨h1,u,h2,h3⟩:=ia _ _ n hn; have hin:=wt_in a _ _ h1; exact ⟨h1,u,h2,by simp only [upm]; rw [h3,plug,if_neg (by omega)]⟩
  | stack a b ia ib=>intro d i m hm; obtain ⟨n,hn,rfl⟩:=List.mem_map.1 hm; obtain ⟨h1,u,h2,h3⟩:=ia _ _ n hn; have hin:=wt_in a _ _ h1; exact ⟨h1,u,h2,by simp only [upm]; rw [h3,plug,if_neg (by omega)]⟩
  | block a ia=>intro d i m hm; obtain ⟨n,hn,rfl⟩:=List.mem_map.1 hm; obtain ⟨h1,u,h2,h3⟩:=ia _ _ n hn; have hin:=wt_in a _ _ h1; exact ⟨h1,u,h2,by simp only [upm]; rw [h3,plug,if_neg (by omega)]⟩
  | par a b ia ib=>
    intro d i m hm
    rcases List.mem_append.1 hm with hm | hm
    · obtain ⟨n,hn,rfl⟩:=List.mem_map.1 hm;obtain ⟨h1,u,h2,h3⟩:=ia _ _ n hn;have hin:=wt_in a _ _ h1;refine ⟨List.mem_append_left _ h1,u,?_,?_⟩
      · show Made (sub (.par a b) i n.p) _ _ _
        rw [sub,if_pos hin.2]; exact h2
      · simp only [upm]; rw [h3,plug,if_neg (by omega),if_pos hin.2]
    · obtain ⟨n,hn,rfl⟩:=List.mem_map.1 hm;obtain ⟨h1,u,h2,h3⟩:=ib _ _ n hn;have hin:=wt_in b _ _ h1;refine ⟨List.mem_append_right _ h1,u,?_,?_⟩
      · show Made (sub (.par a b) i n.p) _ _ _
        rw [sub,if_neg (by omega)]; exact h2
      · simp only [upm]; rw [h3,plug,if_neg (by omega),if_neg (by omega)]
  | _=>intro d i m hm; exact absurd hm (by simp [mvs])
end Go.Proofs.YtaapnkoooofalaaGreat.Sp

namespace Go.Proofs.YtaapnkoooofalaaGreat.Me
open Go Go.RowKit Rw So Se Do
set_option maxRecDepth 20000
structure Mv where
  p:Int
  h:Int
deriving DecidableEq
def hw (k:Int) (f:Bool) (z:Int):List Mv:=if k=1 then [⟨z,1⟩] else if k=6 then [⟨z,2⟩,⟨z,3⟩] else ⟨z,4⟩::if f then [⟨z,5⟩] else []
def kn (l:List Nd) (z:Int):Int:=match l[z.toNat]? with | some x=>x.k | none=>0
noncomputable def enR (l:List Nd):List Mv:=(av l).flatMap fun z=>hw (kn l z) (fr l z) z
theorem hw_len (k:Int) (f:Bool) (z:Int):(hw k f z).length≤2:=by
  unfold hw
  split
  · simp
  · split
    · simp
    · cases f <;> simp
theorem flat_two {α β:Type} (f:α→List β) (h:∀ a,(f a).length≤2):∀ l:List α,(l.flatMap f).length≤2*l.length
  | []=>by simp
  | a::l=>by
    rw [List.flatMap_cons,List.length_append,List.length_cons];have:=h a;have:=flat_two f h l;omega
theorem enR_len (l:List Nd):(enR l).length≤2*l.length:=by
  have h1:=flat_two (fun z=>hw (kn l z) (fr l z) z) (fun z=>hw_len _ _ _) (av l);have h2:=av_len l;unfold enR;omega
def mcl (m:Mv):List Value:=[.int .i64 m.p,.int .i64 m.h]
def mcls:List Mv→List Value
  | []=>[]
  | m::l=>mcl m++mcls l
theorem mcls_len:∀ l:List Mv,(mcls l).length=l.length*2
  | []=>rfl
  | m::l=>by rw [mcls,List.length_append,mcls_len l]; simp [mcl]; omega
theorem mcls_append:∀ l m:List Mv,mcls (l++m)=mcls l++mcls m
  | [],_=>rfl
  | x::l,m=>by rw [List.cons_append,mcls,mcls_append l m,mcls,List.append_assoc]
theorem mcls_at:∀ (l:List Mv) (k:Nat) (h:k < l.length),(mcls l)[k*2]?=some (.int .i64 l[k].p)∧(mcls l)[k*2+1]?=some (.int .i64 l[k].h)
  | [],k,h=>by simp at h
  | x::l,0,_=>⟨rfl,rfl⟩
  | x::l,k+1,h=>by
    have:=mcls_at l k (by simpa using h)
    simpa [mcls,mcl,show (k+1)*2=k*2+1+1 by omega] using this
def Mvs (w:World) (v:Value) (l:List Mv):Prop:=Ap.Rd w 2 v l.length (mcls l)
theorem Mvs.below {w w':World} {v:Value} {l:List Mv} (h:Mvs w v l) (hb:Below w.heap.size w w'):Mvs w' v l:=Ap.Rd.below h hb
def AtM (w:World) (b off:Nat) (l:List Mv):Prop:=∀ k,(h:k < l.length)→w.cell? ⟨b,off+k*2,none⟩=some (.int .i64 l[k].p)∧w.cell? ⟨b,off+k*2+1,none⟩=some (.int .i64 l[k].h)
theorem AtM.below {w w':World} {b off:Nat} {l:List Mv} (h:AtM w b off l) (hb:Below w.heap.size w w'):AtM w' b off l:=fun k hk=>by
  obtain ⟨h1,h2⟩:=h k hk;exact ⟨by rw [hb.cell (Ap.cell_lt h1)]; exact h1,by rw [hb.cell (Ap.cell_lt h2)]; exact h2⟩
theorem Mvs.form {w:World} {v:Value} {l:List Mv} (h:Mvs w v l) :
    (l=[]∧∃ a cap,v=.slice a 0 cap)∨∃ b off cap,v=.slice (some ⟨b,off,none⟩) l.length cap∧l.length≤cap∧AtM w b off l:=by
  obtain ⟨_,a,cap,rfl,hle,_,hcell⟩:=h
  by_cases h0:0 < l.length
  · obtain ⟨b,off,rfl,hj⟩:=hcell h0;refine Or.inr ⟨b,off,cap,rfl,hle,fun k hk=>?_⟩;obtain ⟨h1,h2⟩:=mcls_at l k hk;exact ⟨hj _ _ h1,by rw [Nat.add_assoc]; exact hj _ _ h2⟩
  · have:l=[]:=List.eq_nil_of_length_eq_zero (by omega);subst this;exact Or.inl ⟨rfl,a,cap,rfl⟩
theorem mvs_new (w:World) (l:List Mv) (ty:TypeId):Mvs (w.alloc (.cells (mcls l).toArray ty)) (.slice (some ⟨w.heap.size,0,none⟩) l.length l.length) l:=by
  refine ⟨mcls_len l,some ⟨w.heap.size,0,none⟩,l.length,rfl,Nat.le_refl _,fun h=>(by cases h),fun _=>⟨w.heap.size,0,rfl,fun j u hu=>?_⟩⟩;rw [Nat.zero_add,World.cell?_alloc_new]
  simpa using hu
theorem infoMv:(Tryz.prog.info? 24).map (fun i=>(i.zero,i.size,i.bytes))=some (some (.agg #[.int .i64 0,.int .i64 0]),2,16):=by kernel_rfl
def GotM (base:Nat) (w:World) (v:Value) (l:List Mv):Prop:=w.ownsRow base 24 2 v l.length (mcls l)∧base≤w.heap.size
theorem GotM.mvs {base:Nat} {w:World} {v:Value} {l:List Mv} (h:GotM base w v l):Mvs w v l:=Ap.Rd.owned h.1
theorem GotM.start {base:Nat} {w:World} (hb:base≤w.heap.size):GotM base w (.slice none 0 0) []:=⟨⟨rfl,.inl ⟨rfl,rfl⟩⟩,hb⟩
theorem GotM.below {base:Nat} {w w':World} {v:Value} {l:List Mv} (h:GotM base w v l) (hb:Below w.heap.size w w'):GotM base w' v l:=⟨Ap.own_below h.1 hb,Nat.le_trans h.2 hb.size⟩
theorem GotM.row {base:Nat} {w:World} {v y:Value} {l m:List Mv} (h:GotM base w v l) (hy:Mvs w y m) (hl:l.length+m.length≤1000000) :
    ∃ v' w',(Builtin.append_ #[38,38] 38 #[v,y]).run Tryz.prog w=.ok v' w'∧GotM base w' v' (l++m)∧Below base w w':=by
  obtain ⟨i0,hi,hz,hs1,hb8⟩:=info_parts infoMv
  have one:∀ l:List Mv,∀ u∈mcls l,u.oneCell'=true:=by
    intro l
    induction l with
    | nil=>intro u hu; cases hu
    | cons x l ih=>
      intro u hu;simp only [mcls,mcl,List.cons_append,List.nil_append,List.mem_cons] at hu
      rcases hu with rfl | rfl | hu
      · rfl
      · rfl
      · exact ih u hu
  obtain ⟨v',w',h1,h2,_,h4,_⟩:=Ap.run_append_rd (P:=Tryz.prog) (ty:=38) Tryz.underlying38 hi hz hs1 hb8 (by rfl) (by omega) h.1 h.2 hy (one m) (by unfold maxLen; omega) (by omega);exact ⟨v',w',h1,⟨by rw [List.length_append,mcls_append]; exact h2,Nat.le_trans h.2 h4.size⟩,h4⟩
theorem GotM.new {base:Nat} {w:World} {v:Value} {l:List Mv} (m:List Mv) (h:GotM base w v l) (hl:l.length+m.length≤1000000) :
    ∃ v' w',(Builtin.append_ #[38,38] 38 #[v,.slice (some ⟨w.heap.size,0,none⟩) m.length m.length]).run Tryz.prog (w.alloc (.cells (mcls m).toArray 24))=.ok v' w'∧GotM base w' v' (l++m)∧Below base w w':=by
  obtain ⟨v',w',h1,h2,h3⟩:=(h.below (below1 w _)).row (mvs_new w m 24) hl;exact ⟨v',w',h1,h2,((below1 w _).mono h.2).trans h3⟩
end Go.Proofs.YtaapnkoooofalaaGreat.Me
