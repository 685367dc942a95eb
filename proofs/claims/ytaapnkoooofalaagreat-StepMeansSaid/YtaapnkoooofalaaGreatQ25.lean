/- Laws that the last text leans on. -/
import Derived.Test.YtaapnkoooofalaaGreatQ24

set_option maxRecDepth 20000
set_option maxHeartbeats 2000000
namespace Go.Proofs.YtaapnkoooofalaaGreat
namespace Sp
open Go Rw So Se Tr Mn Do
structure Mo where
  p:Nat
  h:Int
  l:Option ByteArray
  r:Tm
def upm (f:Tm→Tm) (m:Mo):Mo:=⟨m.p,m.h,m.l,f m.r⟩
def mvs:Bool→Tm→Nat→List Mo
  | _,.act s,i=>[⟨i,1,some s,.over 1⟩]
  | _,.alt a b,i=>[⟨i,2,none,a⟩,⟨i,3,none,b⟩]
  | d,.yield,i=>⟨i,4,none,.over 1⟩::if d then [⟨i,5,none,.over 3⟩] else []
  | d,.pair a b,i=>⟨i,4,none,.going a b⟩::if d then [⟨i,5,none,.fin 3 .skip⟩] else []
  | d,.seq a b,i=>(mvs d a (i+1)).map (upm (.seq · b))
  | d,.hand a b,i=>(mvs d a (i+1)).map (upm (.hand · b))
  | d,.going a b,i=>(mvs d a (i+1)).map (upm (.going · b))
  | d,.stack a b,i=>(mvs d a (i+1)).map (upm (.stack · b))
  | _,.block a,i=>(mvs false a (i+1)).map (upm .block)
  | d,.par a b,i=>(mvs (d||bangT b) a (i+1)).map (upm (.par · b))++(mvs (d||bangT a) b (i+1+sz a)).map (upm (.par a ·))
  | _,_,_=>[]
def ah (o:Option ByteArray) (x:Tr):Tr:=match o with | none=>x | some s=>⟨s::x.a,x.e⟩
def ahp (o:Option ByteArray) (z:Pr):Pr:=⟨ah o z.p,z.q⟩
def lb (o:Option ByteArray):Nat:=match o with | none=>0 | some _=>1
theorem ah_e (o:Option ByteArray) (x:Tr):(ah o x).e=x.e:=by cases o <;> rfl
theorem y0l (o:Option ByteArray) (x:Tr):(ah o x).a.length=x.a.length+lb o:=by cases o <;> rfl
theorem x2c (o:Option ByteArray) (p q:Tr):thn (ah o p) q=ah o (thn p q):=by
  cases o with
  | none=>rfl
  | some s=>unfold thn; rw [ah_e]; split <;> rfl
theorem ah_hnd (o:Option ByteArray) (p q:Tr):hnd (ah o p) q=ah o (hnd p q):=by
  cases o with
  | none=>rfl
  | some s=>unfold hnd; rw [ah_e]; split <;> rfl
theorem ah_blk {o:Option ByteArray} {z:Pr} {x:Tr} (h:x∈blk1 z):ah o x∈blk1 (ahp o z):=by
  unfold blk1 at h ⊢
  show ah o x∈(if (ah o z.p).e=1 then [ah o z.p] else if (ah o z.p).e=2 then [⟨(ah o z.p).a++z.q.a,z.q.e⟩] else [])
  rw [ah_e]
  by_cases h1:z.p.e=1
  · rw [if_pos h1] at h ⊢;rw [List.mem_singleton] at h; rw [h]; exact List.mem_singleton.2 rfl
  · rw [if_neg h1] at h ⊢
    by_cases h2:z.p.e=2
    · rw [if_pos h2] at h ⊢;rw [List.mem_singleton] at h; rw [h]; refine List.mem_singleton.2 ?_; cases o <;> rfl
    · rw [if_neg h2] at h;exact absurd h (by simp)
theorem ah_seq1 {o:Option ByteArray} {Y:List Pr} {x z:Pr} (h:z∈seq1 Y x):ahp o z∈seq1 Y (ahp o x):=by
  unfold seq1 at h ⊢
  show ahp o z∈(if (ah o x.p).e=1 then Y.map (fun y=>⟨thn (ah o x.p) y.p,thn y.q x.q⟩) else [ahp o x])
  rw [ah_e]
  by_cases h1:x.p.e=1
  · rw [if_pos h1] at h ⊢;obtain ⟨y,hy,rfl⟩:=List.mem_map.1 h;refine List.mem_map.2 ⟨y,hy,?_⟩;simp only [x2c]
    rfl
  · rw [if_neg h1] at h ⊢;rw [List.mem_singleton] at h; rw [h]; exact List.mem_singleton.2 rfl
theorem v1m {o:Option ByteArray} {B:List Tr} {p:Tr} {z:Pr} (h:z∈going1 B p):ahp o z∈going1 B (ah o p):=by
  unfold going1 at h ⊢;rw [ah_e]
  by_cases h1:p.e=1
  · rw [if_pos h1] at h ⊢;obtain ⟨y,hy,rfl⟩:=List.mem_map.1 h;exact List.mem_map.2 ⟨y,hy,rfl⟩
  · rw [if_neg h1] at h ⊢;rw [List.mem_singleton] at h; rw [h]; exact List.mem_singleton.2 rfl
theorem mt_act (s:ByteArray):Mt (flat (.act s))=[⟨[s],1⟩]:=by rw [y0o]; rfl
theorem y3f:Mt (flat .yield)=[tick,⟨[],3⟩]:=by rw [y0o]; rfl
theorem mt_alt (a b:Tm):Mt (flat (.alt a b))=norm (two 6 (Mt (flat a)) (Mt (flat b))):=by rw [y0o,z5o (l:=flat (.alt a b)) (.inr (.inl rfl)),y1p,y1m]; rfl
theorem mp_alt (a b:Tm):Mp (flat (.alt a b))=pnorm (Mp (flat a)++Mp (flat b)):=by rw [y8a,z7a (l:=flat (.alt a b)) (.inr (.inl rfl)),y1p,y1m]; rfl
theorem mp_pair (a b:Tm):Mp (flat (.pair a b))=pnorm (going (Mt (flat a)) (Mt (flat b))++[way]):=by rw [y8a,z7u (l:=flat (.pair a b)) rfl,y8j,y8h]
theorem i_seq {a b:Tm} {x:Tr}:x∈Mt (flat (.seq a b))↔∃ p∈Mt (flat a),∃ q∈Mt (flat b),x=thn p q:=by rw [x0o,z0s,mem5]
theorem i_alt {a b:Tm} {x:Tr}:x∈Mt (flat (.alt a b))↔x∈Mt (flat a)∨x∈Mt (flat b):=by rw [mt_alt,z0s,mem6]
theorem y8o {a b:Tm} {x:Tr}:x∈Mt (flat (.par a b))↔∃ p∈Mt (flat a),∃ q∈Mt (flat b),x∈pr p q:=by rw [y5l,z0s,mem7]
theorem x1b {a b:Tm} {x:Tr}:x∈Mt (flat (.hand a b))↔∃ p∈Mt (flat a),∃ q∈Mt (flat b),x=hnd p q:=by rw [y7z,z0s,mem8]
theorem z9v {a:Tm} {x:Tr}:x∈Mt (flat (.block a))↔∃ z∈Mp (flat a),x∈blk1 z:=by rw [z7z,z0s,y8d]
theorem x8q {a b:Tm} {z:Pr}:z∈Mp (flat (.seq a b))↔∃ x∈Mp (flat a),z∈seq1 (Mp (flat b)) x:=by rw [x7x,z0o]; exact List.mem_flatMap
theorem j_alt {a b:Tm} {z:Pr}:z∈Mp (flat (.alt a b))↔z∈Mp (flat a)∨z∈Mp (flat b):=by rw [mp_alt,z0o,List.mem_append]
theorem y8l {a b:Tm} {z:Pr}:z∈Mp (flat (.par a b))↔∃ x∈Mp (flat a),∃ y∈Mp (flat b),z.p∈pr x.p y.p∧z.q∈pr x.q y.q:=by
  rw [x0p,z0o];unfold Mn.par;simp only [List.mem_flatMap,z6i]
theorem z9t {a b:Tm} {z:Pr}:z∈Mp (flat (.going a b))↔∃ p∈Mt (flat a),z∈going1 (Mt (flat b)) p:=by rw [z8a,z0o]; exact List.mem_flatMap
theorem x8r {a b:Tm} {z:Pr}:z∈Mp (flat (.pair a b))↔z∈Mp (flat (.going a b))∨z=way:=by rw [mp_pair,z0o,List.mem_append,List.mem_singleton,z8a,z0o]
theorem y3o {a b:Tm} {z:Pr}:z∈Mp (flat (.stack a b))↔∃ x∈Mp (flat a),∃ c∈Mt (flat b),z=⟨x.p,thn x.q c⟩:=by rw [y3h,z0o,y8b]
theorem j_fin {s:Int} {c:Tm} {z:Pr}:z∈Mp (flat (.fin s c))↔∃ q∈Mt (flat c),z=⟨⟨[],s⟩,q⟩:=by rw [z4i,z0o,Se.z3b]
theorem y1h {t:Tm} (h:is t 3=true) {x:Tr} (hx:x∈Mt (flat t)):x.a.length≤ac t:=by
  have:=(gt (z0k t) (by rw [z2p t 3 (by omega)]; exact h)).cnt all x hx;rw [show acF all (flat t)=ac t from rfl] at this
  simpa [all] using this
theorem y1i {t:Tm} (h:is t 4=true) {z:Pr} (hz:z∈Mp (flat t)):z.p.a.length+z.q.a.length≤ac t:=by
  have:=(gp (z0k t) (by rw [z2p t 4 (by omega)]; exact h)).cnt all z hz;rw [show acF all (flat t)=ac t from rfl] at this
  simpa [all] using this
theorem x2d (a b:Tm):ac (.seq a b)=ac a+ac b:=z4j rfl (by decide)
theorem ac_alt (a b:Tm):ac (.alt a b)=ac a+ac b:=z4j rfl (by decide)
theorem y1v (a b:Tm):ac (.par a b)=ac a+ac b:=z4j rfl (by decide)
theorem y4g (a b:Tm):ac (.hand a b)=ac a+ac b:=z4j rfl (by decide)
theorem ac_pair (a b:Tm):ac (.pair a b)=ac a+ac b:=z4j rfl (by decide)
theorem z6y (a b:Tm):ac (.going a b)=ac a+ac b:=z4j rfl (by decide)
theorem z8i (a b:Tm):ac (.stack a b)=ac a+ac b:=z4j rfl (by decide)
theorem y5k {P:Tm→Mo→Prop}
    (act:∀ s i,P (.act s) ⟨i,1,some s,.over 1⟩)
    (altl:∀ a b i,P (.alt a b) ⟨i,2,none,a⟩) (altr:∀ a b i,P (.alt a b) ⟨i,3,none,b⟩)
    (yieldg:∀ i,P .yield ⟨i,4,none,.over 1⟩) (yields:∀ i,P .yield ⟨i,5,none,.over 3⟩)
    (pairg:∀ a b i,P (.pair a b) ⟨i,4,none,.going a b⟩) (pairs:∀ a b i,P (.pair a b) ⟨i,5,none,.fin 3 .skip⟩)
    (seq:∀ a b m,P a m→P (.seq a b) (upm (.seq · b) m)) (hand:∀ a b m,P a m→P (.hand a b) (upm (.hand · b) m))
    (going:∀ a b m,P a m→P (.going a b) (upm (.going · b) m)) (stack:∀ a b m,P a m→P (.stack a b) (upm (.stack · b) m))
    (block:∀ a m,P a m→P (.block a) (upm .block m))
    (parl:∀ a b m,P a m→P (.par a b) (upm (.par · b) m)) (parr:∀ a b m,P b m→P (.par a b) (upm (.par a ·) m)) :
    ∀ (t:Tm) (d:Bool) (i:Nat),∀ m∈mvs d t i,P t m:=by
  intro t
  induction t with
  | act s=>intro d i m hm; simp only [mvs,List.mem_singleton] at hm; rw [hm]; exact act s i
  | alt a b=>intro d i m hm; simp only [mvs,List.mem_cons,List.not_mem_nil,or_false] at hm; rcases hm with rfl | rfl; exact altl a b i; exact altr a b i
  | yield=>intro d i m hm; cases d <;> simp only [mvs,List.mem_cons,List.not_mem_nil,or_false,if_true,Bool.false_eq_true,if_false] at hm; rw [hm]; exact yieldg i; rcases hm with rfl | rfl; exact yieldg i; exact yields i
  | pair a b=>intro d i m hm; cases d <;> simp only [mvs,List.mem_cons,List.not_mem_nil,or_false,if_true,Bool.false_eq_true,if_false] at hm; rw [hm]; exact pairg a b i; rcases hm with rfl | rfl; exact pairg a b i; exact pairs a b i
  | seq a b ia ib=>intro d i m hm; obtain ⟨n,hn,rfl⟩:=List.mem_map.1 hm; exact seq a b n (ia _ _ n hn)
  | hand a b ia ib=>intro d i m hm; obtain ⟨n,hn,rfl⟩:=List.mem_map.1 hm; exact hand a b n (ia _ _ n hn)
  | going a b ia ib=>intro d i m hm; obtain ⟨n,hn,rfl⟩:=List.mem_map.1 hm; exact going a b n (ia _ _ n hn)
  | stack a b ia ib=>intro d i m hm; obtain ⟨n,hn,rfl⟩:=List.mem_map.1 hm; exact stack a b n (ia _ _ n hn)
  | block a ia=>intro d i m hm; obtain ⟨n,hn,rfl⟩:=List.mem_map.1 hm; exact block a n (ia _ _ n hn)
  | par a b ia ib=>
    intro d i m hm
    rcases List.mem_append.1 hm with hm | hm
    · obtain ⟨n,hn,rfl⟩:=List.mem_map.1 hm; exact parl a b n (ia _ _ n hn)
    · obtain ⟨n,hn,rfl⟩:=List.mem_map.1 hm; exact parr a b n (ib _ _ n hn)
  | _=>intro d i m hm; exact absurd hm (by simp [mvs])
theorem mv_ac:∀ (t:Tm) (d:Bool) (i:Nat),∀ m∈mvs d t i,ac m.r+lb m.l≤ac t:=by
  refine y5k (P:=fun t m=>ac m.r+lb m.l≤ac t) ?_ ?_ ?_ ?_ ?_ ?_ ?_ ?_ ?_ ?_ ?_ ?_ ?_ ?_
  · intro s i; exact Nat.le_refl 1
  · intro a b i; rw [ac_alt]; exact Nat.le_add_right _ _
  · intro a b i; rw [ac_alt]; exact Nat.le_add_left _ _
  · intro i; exact Nat.le_refl 0
  · intro i; exact Nat.le_refl 0
  · intro a b i; rw [ac_pair]; show ac (.going a b)+0≤_; rw [z6y]; exact Nat.le_refl _
  · intro a b i; exact Nat.zero_le _
  · intro a b m h; show ac (.seq m.r b)+lb m.l≤_; rw [x2d,x2d]; omega
  · intro a b m h; show ac (.hand m.r b)+lb m.l≤_; rw [y4g,y4g]; omega
  · intro a b m h; show ac (.going m.r b)+lb m.l≤_; rw [z6y,z6y]; omega
  · intro a b m h; show ac (.stack m.r b)+lb m.l≤_; rw [z8i,z8i]; omega
  · intro a m h; show ac (.block m.r)+lb m.l≤_; rw [z6z,z6z]; exact h
  · intro a b m h; show ac (.par m.r b)+lb m.l≤_; rw [y1v,y1v]; omega
  · intro a b m h; show ac (.par a m.r)+lb m.l≤_; rw [y1v,y1v]; omega
theorem mv_sz:∀ (t:Tm) (d:Bool) (i:Nat),∀ m∈mvs d t i,sz m.r≤sz t:=by
  refine y5k (P:=fun t m=>sz m.r≤sz t) ?_ ?_ ?_ ?_ ?_ ?_ ?_ ?_ ?_ ?_ ?_ ?_ ?_ ?_
  all_goals intros
  all_goals simp only [upm,sz] at *
  all_goals try omega
  rename_i a b i
  have:=z0l a;have:=z0l b;omega
theorem mv_is:∀ (t:Tm) (d:Bool) (i:Nat),∀ m∈mvs d t i,(is t 3=true→is m.r 3=true)∧(is t 4=true→is m.r 4=true):=by
  refine y5k (P:=fun t m=>(is t 3=true→is m.r 3=true)∧(is t 4=true→is m.r 4=true)) ?_ ?_ ?_ ?_ ?_ ?_ ?_ ?_ ?_ ?_ ?_ ?_ ?_ ?_
  · intro s i; simp [is]
  · intro a b i; have:=is13 a; simp [is]; exact ⟨fun h _=>this.1 h,fun h _=>this.2 h⟩
  · intro a b i; have:=is13 b; simp [is]; exact ⟨fun _ h=>this.1 h,fun _ h=>this.2 h⟩
  · intro i; simp [is]
  · intro i; simp [is]
  · intro a b i; have:=is13 a; simp [is]; exact fun h k=>⟨this.1 h,k⟩
  · intro a b i; simp [is]
  · intro a b m h; simp only [upm,is]; simp; exact ⟨fun x y=>⟨h.1 x,y⟩,fun x y=>⟨h.2 x,y⟩⟩
  · intro a b m h; simp only [upm,is]; simp; exact fun x y=>⟨h.1 x,y⟩
  · intro a b m h; simp only [upm,is]; simp; exact fun x y=>⟨h.1 x,y⟩
  · intro a b m h; simp only [upm,is]; simp; exact fun x y=>⟨h.2 x,y⟩
  · intro a m h; simp only [upm,is]; simp; exact h.2
  · intro a b m h; simp only [upm,is]; simp; exact ⟨fun x y=>⟨h.1 x,y⟩,fun x y=>⟨h.2 x,y⟩⟩
  · intro a b m h; simp only [upm,is]; simp; exact ⟨fun x y=>⟨x,h.1 y⟩,fun x y=>⟨x,h.2 y⟩⟩
theorem mv_rg:∀ (t:Tm) (d:Bool) (i:Nat),∀ m∈mvs d t i,rg t=true→rg m.r=true:=by
  refine y5k (P:=fun t m=>rg t=true→rg m.r=true) ?_ ?_ ?_ ?_ ?_ ?_ ?_ ?_ ?_ ?_ ?_ ?_ ?_ ?_
  all_goals intros
  all_goals simp only [upm,z7n,rg_alt,z5s,z4h,rg_pair,z3w,z3v,z3f,y1b,y7p,x6k,y2r,Bool.and_eq_true] at *
  all_goals first | decide | simp_all
theorem mix_ah {o:Option ByteArray} {p q x:Tr} (hl:(ah o p).a.length+q.a.length≤19) (h:x∈pr p q):ah o x∈pr (ah o p) q:=by
  cases o with
  | none=>exact h
  | some s=>
    have hl':p.a.length+q.a.length≤19:=by rw [y0l] at hl; omega
    obtain ⟨h1,h2⟩:=(z3j hl').1 h;exact (z3j hl).2 ⟨.l h1,h2⟩
theorem x7y {o:Option ByteArray} {p q x:Tr} (hl:p.a.length+(ah o q).a.length≤19) (h:x∈pr p q):ah o x∈pr p (ah o q):=by
  cases o with
  | none=>exact h
  | some s=>
    have hl':p.a.length+q.a.length≤19:=by rw [y0l] at hl; omega
    obtain ⟨h1,h2⟩:=(z3j hl').1 h;exact (z3j hl).2 ⟨.r h1,h2⟩
theorem mv_snd:∀ (t:Tm) (d:Bool) (i:Nat),∀ m∈mvs d t i,ac t≤19→(is t 3=true→∀ y∈Mt (flat m.r),ah m.l y∈Mt (flat t))∧(is t 4=true→∀ y∈Mp (flat m.r),ahp m.l y∈Mp (flat t)):=by
  intro t
  induction t with
  | act s=>
    intro d i m hm _;simp only [mvs,List.mem_singleton] at hm;rw [hm];refine ⟨fun _ y hy=>?_,fun h=>by simp [is] at h⟩;rw [z1j,List.mem_singleton] at hy;rw [hy,mt_act];exact List.mem_singleton.2 rfl
  | alt a b=>
    intro d i m hm _;simp only [mvs,List.mem_cons,List.not_mem_nil,or_false] at hm
    rcases hm with rfl | rfl
    · exact ⟨fun _ y hy=>i_alt.2 (.inl hy),fun _ y hy=>j_alt.2 (.inl hy)⟩
    · exact ⟨fun _ y hy=>i_alt.2 (.inr hy),fun _ y hy=>j_alt.2 (.inr hy)⟩
  | yield=>
    intro d i m hm _
    have hm:m=⟨i,4,none,.over 1⟩∨m=⟨i,5,none,.over 3⟩:=by
      cases d <;> simp [mvs] at hm
      · exact .inl hm
      · exact hm
    refine ⟨fun _ y hy=>?_,fun h=>by simp [is] at h⟩
    rcases hm with rfl | rfl
    · rw [z1j,List.mem_singleton] at hy; rw [hy,y3f]; exact List.mem_cons_self
    · rw [z1j,List.mem_singleton] at hy; rw [hy,y3f]; exact List.mem_cons_of_mem _ (List.mem_singleton.2 rfl)
  | pair a b=>
    intro d i m hm _
    have hm:m=⟨i,4,none,.going a b⟩∨m=⟨i,5,none,.fin 3 .skip⟩:=by
      cases d <;> simp [mvs] at hm
      · exact .inl hm
      · exact hm
    refine ⟨fun h=>by simp [is] at h,fun _ y hy=>?_⟩
    rcases hm with rfl | rfl
    · exact x8r.2 (.inl hy)
    · obtain ⟨q,hq,rfl⟩:=j_fin.1 hy;rw [y3g,List.mem_singleton] at hq;rw [hq];exact x8r.2 (.inr rfl)
  | seq a b ia ib=>
    intro d i m hm hc;obtain ⟨n,hn,rfl⟩:=List.mem_map.1 hm;rw [x2d] at hc;obtain ⟨h1,h2⟩:=ia _ _ n hn (by omega)
    constructor
    · intro h y hy;simp [is] at h;obtain ⟨p,hp,q,hq,rfl⟩:=i_seq.1 hy;exact i_seq.2 ⟨_,h1 h.1 p hp,q,hq,(x2c _ _ _).symm⟩
    · intro h y hy;simp [is] at h;obtain ⟨x,hx,hy⟩:=x8q.1 hy;exact x8q.2 ⟨_,h2 h.1 x hx,ah_seq1 hy⟩
  | hand a b ia ib=>
    intro d i m hm hc;obtain ⟨n,hn,rfl⟩:=List.mem_map.1 hm;rw [y4g] at hc;obtain ⟨h1,h2⟩:=ia _ _ n hn (by omega);refine ⟨fun h y hy=>?_,fun h=>by simp [is] at h⟩;simp [is] at h;obtain ⟨p,hp,q,hq,rfl⟩:=x1b.1 hy;exact x1b.2 ⟨_,h1 h.1 p hp,q,hq,(ah_hnd _ _ _).symm⟩
  | block a ia=>
    intro d i m hm hc;obtain ⟨n,hn,rfl⟩:=List.mem_map.1 hm;rw [z6z] at hc;obtain ⟨h1,h2⟩:=ia _ _ n hn (by omega);refine ⟨fun h y hy=>?_,fun h=>by simp [is] at h⟩;simp [is] at h;obtain ⟨z,hz,hy⟩:=z9v.1 hy;exact z9v.2 ⟨_,h2 h z hz,ah_blk hy⟩
  | going a b ia ib=>
    intro d i m hm hc;obtain ⟨n,hn,rfl⟩:=List.mem_map.1 hm;rw [z6y] at hc;obtain ⟨h1,h2⟩:=ia _ _ n hn (by omega);refine ⟨fun h=>by simp [is] at h,fun h y hy=>?_⟩;simp [is] at h;obtain ⟨p,hp,hy⟩:=z9t.1 hy;exact z9t.2 ⟨_,h1 h.1 p hp,v1m hy⟩
  | stack a b ia ib=>
    intro d i m hm hc;obtain ⟨n,hn,rfl⟩:=List.mem_map.1 hm;rw [z8i] at hc;obtain ⟨h1,h2⟩:=ia _ _ n hn (by omega);refine ⟨fun h=>by simp [is] at h,fun h y hy=>?_⟩;simp [is] at h;obtain ⟨x,hx,c,hc,rfl⟩:=y3o.1 hy;exact y3o.2 ⟨_,h2 h.1 x hx,c,hc,rfl⟩
  | par a b ia ib=>
    intro d i m hm hc;rw [y1v] at hc
    rcases List.mem_append.1 hm with hm | hm
    · obtain ⟨n,hn,rfl⟩:=List.mem_map.1 hm;obtain ⟨h1,h2⟩:=ia _ _ n hn (by omega)
      constructor
      · intro h y hy;simp [is] at h;obtain ⟨p,hp,q,hq,hy⟩:=y8o.1 hy;have l1:=y1h h.1 (h1 h.1 p hp);have l2:=y1h h.2 hq;exact y8o.2 ⟨_,h1 h.1 p hp,q,hq,mix_ah (by omega) hy⟩
      · intro h y hy;simp [is] at h;obtain ⟨x,hx,z,hz,hy,hq⟩:=y8l.1 hy;have l1:(ah n.l x.p).a.length+x.q.a.length≤ac a:=y1i h.1 (h2 h.1 x hx);have l2:=y1i h.2 hz;exact y8l.2 ⟨_,h2 h.1 x hx,z,hz,mix_ah (by omega) hy,hq⟩
    · obtain ⟨n,hn,rfl⟩:=List.mem_map.1 hm;obtain ⟨h1,h2⟩:=ib _ _ n hn (by omega)
      constructor
      · intro h y hy;simp [is] at h;obtain ⟨p,hp,q,hq,hy⟩:=y8o.1 hy;have l1:=y1h h.1 hp;have l2:=y1h h.2 (h1 h.2 q hq);exact y8o.2 ⟨p,hp,_,h1 h.2 q hq,x7y (by omega) hy⟩
      · intro h y hy;simp [is] at h;obtain ⟨x,hx,z,hz,hy,hq⟩:=y8l.1 hy;have l1:=y1i h.1 hx;have l2:(ah n.l z.p).a.length+z.q.a.length≤ac b:=y1i h.2 (h2 h.2 z hz);exact y8l.2 ⟨x,hx,_,h2 h.2 z hz,x7y (by omega) hy,hq⟩
  | _=>intro d i m hm; exact absurd hm (by simp [mvs])
end Sp
end Go.Proofs.YtaapnkoooofalaaGreat
namespace Go.Proofs.YtaapnkoooofalaaGreat.Pl
open Go Go.RowKit Rw So Ro
set_option maxRecDepth 20000
attribute [local go_sem] Oper.semAt_some
theorem x7e (w:World):(w.alloc (.cells #[] 3)).ownsRow w.heap.size 3 1 (.slice (some ⟨w.heap.size,0,none⟩) 0 0) 0 []:=
  ⟨rfl,.inr ⟨w.heap.size,0,#[],rfl,Nat.le_refl _,by show (w.heap.push _)[w.heap.size]?=_; simp,Nat.le_refl _,Nat.zero_le _,rfl,rfl⟩⟩
theorem x4i (x:Value) (L:List Nat) (w:World) (hx:Rf.Plc w x L) (hlen:L.length≤4398046511104) :
    Calls Tryz.prog 211 #[x] w fun e w'=>∃ v,e=.returned v∧w'.ownsRow w.heap.size 3 1 v L.length (Rx.ic L)∧Below w.heap.size w w':=by
  have q:∀ (w:World) (a:Option Addr) (n c n' c':Nat),(binOp .eql 60 (.slice a n c) (.slice none n' c')).run Tryz.prog w=.ok (.bool a.isNone) w:=fun w a n c n' c'=>Lib.run_eql_slice_nil w _ _ a n c n' c' Tryz.underlying60
  have hb0:Below w.heap.size w (w.alloc (.cells #[] 3)):=z0f w _;obtain ⟨i0,hi,hz,hs1,hb8⟩:=info_parts Rx.x8v
  obtain ⟨v1,w1,hrun,hown,_,hb,_⟩:=Ap.z0t (P:=Tryz.prog) (ty:=60) Tryz.underlying60 hi hz hs1 hb8 (by rfl) (by omega) (x7e w) hb0.size (hx.below hb0)
    (by intro u hu; rw [List.mem_map] at hu; obtain ⟨k,_,rfl⟩:=hu; rfl) (by unfold maxLen; omega) (by omega)
  rw [List.nil_append,Nat.zero_add] at hown;obtain ⟨hl,a,c,rfl,_,hn,_⟩:=hx
  cases a with
  | none=>
    obtain ⟨h0,rfl⟩:=hn rfl;obtain rfl:L=[]:=List.eq_nil_of_length_eq_zero h0;clear hrun hown hb hb0 hl hn h0 hi hz hs1 hb8
    go_enter Tryz.func211,Tryz.ntmps211
    go_wp2_with fail;go_ret;exact ⟨_,rfl,⟨rfl,.inl ⟨rfl,rfl⟩⟩,Below.refl _ _⟩
  | some ad=>
    have R:=Lib.hid hrun;have O:=Lib.hid hown;have B:=Lib.hid (hb0.trans hb);clear hrun hown hb hb0 hn hl hi hz hs1 hb8
    go_enter Tryz.func211,Tryz.ntmps211
    go_wp2_with (at_builtin; refine Ap.wpList_append_run (by rfl) _ _ _ _ rfl _ _ rfl rfl v1 w1 R.out ?_);go_ret;exact ⟨_,rfl,O.out,B.out⟩
def ovI (l:List Nd) (k:Int):List Nat:=if 0≤k∧k<rounds l then ov l k.toNat else []
structure Ost (w:World) (l:List Nd) (kk:Int) (k:Nat) (W:World):Prop where
  ck:W.cell? ⟨w.heap.size,0,none⟩=some (.int .i64 kk)
  cr:W.cell? ⟨w.heap.size+1,0,none⟩=some (.slice none 0 0)
  fr:W.frozen? ⟨w.heap.size+1,0,none⟩=false
  no:∀ j:Nat,j<k→(j:Int)≠kk
  bel:Below w.heap.size w W
  size:w.heap.size+3≤W.heap.size
theorem Ost.turn {w:World} {l:List Nd} {T:Nat→Prop} {kk:Int} {k:Nat} {A B:World} (h:Ost w l kk k A) (hT:∀ t,T t→w.heap.size+3≤t∧t<A.heap.size) (ht:Turn T A B):Ost w l kk k B:=by
  have n0:∀ t,t<w.heap.size+3→¬ T t:=fun t h1 h2=>by have:=hT t h2; omega
  exact ⟨ht.cell h.ck (n0 _ (by show w.heap.size<_; omega)),ht.cell h.cr (n0 _ (by show w.heap.size+1<_; omega)),(y7c ht h.cr (n0 _ (by show w.heap.size+1<_; omega))).trans h.fr,h.no,h.bel.trans (ht.below h.bel.size fun t h'=>by have:=hT t h'; omega),Nat.le_trans h.size ht.size⟩
structure Oed (w:World) (l:List Nd) (kk:Int) (T:Nat→Prop) (y:Value) (W:World):Prop where
  lt:0≤kk∧kk<rounds l
  cr:W.cell? ⟨w.heap.size+1,0,none⟩=some y
  own:Ow W y (ov l kk.toNat)
  apart:∀ g,y.ownBlock=some g→¬ T g
  bel:Below w.heap.size w W
  base:∀ g,y.ownBlock=some g→w.heap.size≤g
theorem own_up {w:World} {base size n:Nat} {e:TypeId} {v:Value} {xs:List Value} (h:w.ownsRow 0 e size v n xs) (hb:∀ g,v.ownBlock=some g→base≤g):w.ownsRow base e size v n xs:=by
  obtain ⟨h1,⟨rfl,h2⟩ | ⟨g,cap,cur,rfl,_,h3⟩⟩:=h
  · exact ⟨h1,.inl ⟨rfl,h2⟩⟩
  · exact ⟨h1,.inr ⟨g,cap,cur,rfl,hb g rfl,h3⟩⟩
theorem Oed.turn {w:World} {l:List Nd} {T:Nat→Prop} {kk:Int} {y:Value} {A B:World} (h:Oed w l kk T y A) (hT:∀ t,T t→w.heap.size+3≤t∧t<A.heap.size) (ht:Turn T A B):Oed w l kk T y B:=
  ⟨h.lt,ht.cell h.cr (fun h'=>by have:=(hT _ h').1; change _≤w.heap.size+1 at this; omega),h.own.turn ht h.apart,h.apart,h.bel.trans (ht.below h.bel.size fun t h'=>by have:=hT t h'; omega),h.base⟩
theorem x7h (v:Value) (l:List Nd) (kk:Int) (w:World) (hv:Nds w v l) (hl:l.length≤4398046511104) :
    Calls Tryz.prog 183 #[v,.int .i64 kk] w fun e w'=>∃ y,e=.returned y∧w'.ownsRow w.heap.size 3 1 y (ovI l kk).length (Rx.ic (ovI l kk))∧Below w.heap.size w w':=by
  have HN:=Lib.hid hv;obtain ⟨_,a,cap,rfl,-⟩:=hv;refine y0p Tryz.func183 rfl ?_;simp only [Tryz.ntmps183,List.size_toArray,List.length_cons,List.length_nil,Nat.reduceAdd,Nat.reduceSub,Array.replicate_succ,Array.replicate_zero,List.push_toArray,List.append_toArray,List.nil_append,List.cons_append];go_wp2_with fail;refine (x7n a l.length cap _).mono ?_;rintro e w' ⟨rfl,rfl⟩;go_wp2_with fail;obtain ⟨wl,hwl⟩:∃ wl,(((w.alloc (.cells #[.int .i64 kk] 3)).alloc (.cells #[.slice none 0 0] 60)).alloc (.cells #[.slice a l.length cap] 22))=wl:=⟨_,rfl⟩
  have hsz:wl.heap.size=w.heap.size+3:=by rw [← hwl]; simp
  have hbl:Below w.heap.size w wl:=by
    rw [← hwl];exact ((z0f w _).alloc (by simp) _).alloc (by simp; omega) _
  have b0:=z7i w (.int .i64 kk) 3;have b1:=z7i (w.alloc (.cells #[.int .i64 kk] 3)) (.slice none 0 0) 60;have b2:=z7i ((w.alloc (.cells #[.int .i64 kk] 3)).alloc (.cells #[.slice none 0 0] 60)) (.slice a l.length cap) 22;simp only [World.size_alloc] at b1 b2;have hc0:=(y9b (.cells #[.slice a l.length cap] 22) (y9b (.cells #[.slice none 0 0] 60) b0)).1;have hc1:=y9b (.cells #[.slice a l.length cap] 22) b1;have hc2:=b2.1;rw [hwl] at hc0 hc1 hc2 ⊢;clear b0 b1 b2 hwl
  refine wp_range (gf:=231) (lb:=#[.pointer (some ⟨w.heap.size+1+1,0,none⟩)]) rfl (enters_of Tryz.func231 (by kernel_rfl) rfl)
    (iter_any (w.heap.size+1+1) _ l w wl HN.out hl hbl hc2) (by omega) (Below.refl _ _) Told.size Told.stay
    (fun T k W=>Ost w l kk k W) (fun c T k W=>c=.ret∧∃ y,Oed w l kk T y W)
    (fun T k A B h hT ht=>h.turn (by rw [← hsz]; exact hT) ht) (fun T k A B h hT ht _=>h.turn (by rw [← hsz]; exact hT) ht) (fun c T k A B ⟨e,y,h⟩ hT ht _=>⟨e,y,h.turn (by rw [← hsz]; exact hT) ht⟩)
    (fun W hb _=>⟨by rw [hb.cell (Ap.z0a hc0)]; exact hc0,by rw [hb.cell (Ap.z0a hc1.1)]; exact hc1.1,(World.frozen?_of_block (hb.block _ (Ap.z0a hc1.1))).trans hc1.2,fun j hj=>absurd hj (Nat.not_lt_zero j),hbl.trans (hb.mono hbl.size),by have:=hb.size; omega⟩)
    (fun args=>{ tmps:=#[.slice a l.length cap,.int .i64 kk,undef,.pointer (some ⟨w.heap.size,0,none⟩),.pointer (some ⟨w.heap.size+1,0,none⟩),args.getD 0 undef,args.getD 1 undef,.slice a l.length cap,.func (.func 231) #[] #[.pointer (some ⟨w.heap.size+1+1,0,none⟩)],args.getD 0 undef,args.getD 1 undef,undef,undef,undef,undef,undef],defers:=[] }) ?assign ?body ?done ?stop
  case assign=>
    rintro l0 k args A K ⟨va,rfl,hva⟩ hK
    gi_wp2
    exact hK
  case body=>
    rintro l0 T k args A hp hT hk ⟨va,rfl,hva⟩;have hlt:=x6h hk;have hck:=hp.ck;obtain ⟨_,aa,ca,rfl,-⟩:=id hva;have HP:=Lib.hid hp;have HT3:Hid (∀ t,T t→w.heap.size+3≤t∧t<A.heap.size):=Lib.hid (by rw [← hsz]; exact hT);have HVA:=Lib.hid hva;have HK:=Lib.hid hk
    have HLV:Hid ((ov l k).length≤4398046511104):=Lib.hid (by
      unfold ov;exact Nat.le_trans (List.length_filter_le _ _) (by simp; omega))
    clear hp hT hva hk
    by_cases he:(k:Int)=kk
    · subst he
      gi_wp2
      refine ⟨trivial,rfl,(CallsIn.inRound l0 (callsIn_wide.2 (x4i _ _ A HVA.out HLV.out))).mono ?_⟩;rintro e w2 ⟨y,rfl,hown,hb⟩;have hlk:=HP.out.size;have hbA:=hb.size;have hr2:w2.cell? ⟨w.heap.size+1,0,none⟩=some (.slice none 0 0):=by rw [hb.cell (Ap.z0a HP.out.cr)]; exact HP.out.cr
      have hf2:w2.frozen? ⟨w.heap.size+1,0,none⟩=false:=(World.frozen?_of_block (hb.block _ (Ap.z0a HP.out.cr))).trans HP.out.fr
      have hyb:∀ g,y.ownBlock=some g→A.heap.size≤g:=fun g hg=>by
        obtain ⟨_,⟨rfl,_⟩ | ⟨g',cp,cur,rfl,hq,_⟩⟩:=hown
        · cases hg
        · cases hg; exact hq
      have hown0:Ow w2 y (ov l k):=Ap.z3y hown (Nat.zero_le _)
      have HE:Hid (Oed w l (k:Int) T y (w2.setCell ⟨w.heap.size+1,0,none⟩ y)):=by
        refine Lib.hid ⟨⟨by omega,by have:=HK.out; omega⟩,World.cell?_setCell_same' _ _ _ (by rw [hr2]; rfl),?_,fun g hg ht=>?_,?_,fun g hg=>by have:=hyb g hg; omega⟩
        · rw [Int.toNat_natCast];exact hown0.turn (M:=fun t=>t=w.heap.size+1) (Turn.setCell rfl) fun g hg e=>by have:=hyb g hg; omega
        · have h1:=hyb g hg;have h2:=HT3.out g ht;omega
        · exact (HP.out.bel.trans (hb.mono HP.out.bel.size)).trans ((Turn.setCell (T:=fun t=>t=w.heap.size+1) rfl).below (by omega) fun t h=>by omega)
      have HKp:Hid (Keep (fun t=>T t∨t<w.heap.size) A (w2.setCell ⟨w.heap.size+1,0,none⟩ y)):=Lib.hid
        ((Keep.of_below hb fun t h=>by
          rcases h with h | h
          · exact (HT3.out t h).2
          · omega).trans (Keep.setCell fun h=>by
          rcases h with h | h
          · have h1:=(HT3.out _ h).1;change _≤w.heap.size+1 at h1;omega
          · change w.heap.size+1<w.heap.size at h;omega))
      obtain ⟨ya,yc,rfl⟩:=hown0.slice;clear hown hown0 hyb hb
      gi_wp2
      exact ⟨HKp.out,rfl,_,HE.out⟩
    · have g0:((k:Int)==kk)=false:=by rw [beq_eq_false_iff_ne]; exact he
      gi_wp2
      refine ⟨Keep.refl _ _,HP.out.ck,HP.out.cr,HP.out.fr,fun j hj=>?_,HP.out.bel,HP.out.size⟩
      by_cases h:j=k
      · subst h; exact he
      · exact HP.out.no j (by omega)
  case done=>
    rintro T W hp hTD hT hD;have hcr:=hp.cr;have hfr:=hp.fr;have hne:wl.heap.size≠w.heap.size+1:=by omega
    have e0:ovI l kk=[]:=by
      unfold ovI;rw [if_neg];rintro ⟨h1,h2⟩;exact hp.no kk.toNat (by omega) (by omega)
    have hD2:(W.setCell ⟨w.heap.size+1,0,none⟩ (.slice none 0 0)).heap[wl.heap.size]?=some (.deferred (some [])):=(Below.heap_setCell W _ _ _ hne).trans hD;have HD:=Lib.hid hD2;have hc5:=cell_kept (World.cell?_setCell_same' W ⟨w.heap.size+1,0,none⟩ (.slice none 0 0) (by rw [hcr]; rfl)) (grownBy_putObj' _ wl.heap.size (.deferred none)) (fun r e=>by cases e; exact ⟨_,hD2,rfl⟩);have HC5:=Lib.hid hc5;have hbs:=hp.bel.trans ((Turn.setCell (T:=fun t=>t=w.heap.size+1) (w:=W) (p:=⟨w.heap.size+1,0,none⟩) (v:=.slice none 0 0) rfl).below hp.bel.size fun t h=>by omega);have HB:=Lib.hid (hbs.trans ((z1a (T:=fun t=>t=wl.heap.size) (o:=.deferred none) rfl).below hbs.size fun t h=>by omega));have HE0:=Lib.hid e0;clear hp hT hTD hD hD2 hc5 hbs e0;go_wp2_with fail;refine z9q (v:=.slice none 0 0) HD.out ?_ ⟨_,rfl,?_,HB.out⟩
    · have hc6:=HC5.out;simp [results,Tryz.f183,go_sem,hc6]
    · rw [HE0.out];exact ⟨rfl,.inl ⟨rfl,rfl⟩⟩
  case stop=>
    rintro T c k W _ ⟨rfl,y,h⟩ hTD hT hD;have hne:y.ownBlock≠some wl.heap.size:=fun e=>h.apart _ e hTD
    have e0:ovI l kk=ov l kk.toNat:=by
      unfold ovI;rw [if_pos h.lt]
    have hc6:=cell_kept h.cr (grownBy_putObj' _ wl.heap.size (.deferred none)) (fun r e=>by cases e; exact ⟨_,hD,rfl⟩);refine wpIn_ret (z9q (v:=y) hD ?_ ⟨_,rfl,?_,?_⟩)
    · simp [results,Tryz.f183,go_sem,hc6]
    · rw [e0];exact own_up (h.own.turn (M:=fun t=>t=wl.heap.size) (z1a rfl) fun g hg e=>hne (by rw [hg,e])) h.base
    · exact h.bel.trans ((z1a (T:=fun t=>t=wl.heap.size) rfl).below h.bel.size fun t h=>by omega)
end Go.Proofs.YtaapnkoooofalaaGreat.Pl
namespace Go.Proofs.YtaapnkoooofalaaGreat
namespace Mn
open Go Go.RowKit Tr
def BoxT (w:World) (b:Nat) (v:Value) (e:Int):Prop:=w.cell? ⟨b,0,none⟩=some v∧w.cell? ⟨b,1,none⟩=some (.int .i64 e)
theorem BoxT.below {w w':World} {b:Nat} {v:Value} {e:Int} (h:BoxT w b v e) (hb:Below w.heap.size w w'):BoxT w' b v e:=
  ⟨by rw [hb.cell (p:=⟨b,0,none⟩) (Ap.z0a h.1)]; exact h.1,by rw [hb.cell (p:=⟨b,1,none⟩) (Ap.z0a h.2)]; exact h.2⟩
theorem z5f {α β:Type} (f:α→β) (l:List α):l.map f=l.flatMap fun t=>[f t]:=by
  induction l with
  | nil=>rfl
  | cons x l ih=>rw [List.map_cons,List.flatMap_cons,ih]; rfl
theorem y9c (w:World) (a b:Value) (t:TypeId):(w.alloc (.cells #[a,b] t)).cell? ⟨w.heap.size,0,none⟩=some a∧(w.alloc (.cells #[a,b] t)).cell? ⟨w.heap.size,1,none⟩=some b:=by simp
theorem x5q (T:TCon) (ok:Nat→Prop) (bx:Nat) (a pv:Value) (t p:Tr) (w:World) (hb:BoxT w bx pv p.e) (hp:StrsO ok w pv p.a) (hs:StrsO ok w a t.a) (hlen:p.a.length+t.a.length≤1000000) :
    Calls Tryz.prog 172 #[.agg #[a,.int .i64 t.e],.pointer (some ⟨bx,0,none⟩)] w (OutT ok [thn p t] w):=by
  have HB:=Lib.hid (fun o=>bel1 w o);have C:=Lib.hid (fun o=>T.cThn pv a p t (w.alloc o) (z1z (z0e hp (HB.out o))) (z1z (z0e hs (HB.out o))) hlen);have hlt:=Ap.z0a hb.1;obtain ⟨c0,c1⟩:=hb;obtain ⟨_,a1,k1,rfl,_⟩:=hp;obtain ⟨_,a2,k2,rfl,_⟩:=hs
  go_enter Tryz.func172,Tryz.ntmps172
  go_wp2_with fail;refine (C.out _).mono ?_;rintro e w1 ⟨v,rfl,hm,hb1⟩;have B1:=Lib.hid ((HB.out _).trans (hb1.mono (HB.out _).size));have HM:=Lib.hid (z0x hm.1 (ok':=fun b=>ok b∨w.heap.size≤b) fun b _ h=>.inr (Nat.le_trans (by simp) h));obtain ⟨⟨_,a3,k3,rfl,_⟩,_⟩:=hm;go_wp2_with fail;refine (z2u _ _ (thn p t) _ HM.out).mono ?_;intro e w2 ho;have HO:=Lib.hid (ho.up B1.out fun b h=>h);obtain ⟨a4,k4,rfl,_,_⟩:=ho;go_wp2_with fail;go_ret;exact HO.out
theorem z7t (T:TCon) (ok:Nat→Prop) (pv y:Value) (p:Tr) (l:List Tr) (w:World) (hp:StrsO ok w pv p.a) (hl:TsO ok w y l) (hlen:l.length≤1000000000000) (hrow:∀ t∈l,p.a.length+t.a.length≤1000000) :
    Calls Tryz.prog 113 #[.agg #[pv,.int .i64 p.e],y] w (OutT ok (l.map (thn p)) w):=by
  have eg:∀ args w,(callFunc 172 args).run Tryz.prog w=.ok (.enter 172 args) w:=enters_of Tryz.func172 (by kernel_rfl) rfl;have hmap:=z5f (thn p) l
  have C:=Lib.hid (fun ty=>y6d 172 #[.pointer (some ⟨w.heap.size,0,none⟩)] eg ok y l (fun t=>[thn p t]) (w.alloc (.cells #[pv,.int .i64 p.e] ty)) (hl.below (bel1 _ _))
    (fun wr hb t ht a ha=>x5q T _ w.heap.size a pv t p wr (BoxT.below (y9c _ _ _ _) hb) (z0e (z0e (z0x hp fun b hlt h=>⟨h,by simp; omega⟩) (bel1 _ _)) hb) ha (hrow t ht)) hlen (by rw [← hmap,List.length_map]; exact hlen))
  rw [← hmap] at C;generalize l.map (thn p)=L at C ⊢;obtain ⟨_,a1,k1,rfl,_⟩:=hp;obtain ⟨_,⟨_,a2,k2,rfl,_⟩,_⟩:=hl;clear hmap
  go_enter Tryz.func113,Tryz.ntmps113
  go_wp2_with fail;refine (C.out _).mono ?_;intro e w2 ho;have HO:=Lib.hid (ho.up (bel1 w _) fun b h=>.inl h);obtain ⟨a4,k4,rfl,_,_⟩:=ho;go_wp2_with fail;go_ret;exact HO.out
theorem y9g (T:TCon) (ok:Nat→Prop) (bx:Nat) (a pv:Value) (t p:Tr) (w:World) (hb:BoxT w bx pv p.e) (hp:StrsO ok w pv p.a) (hs:StrsO ok w a t.a) (hlen:p.a.length+t.a.length≤9) :
    Calls Tryz.prog 174 #[.agg #[a,.int .i64 t.e],.pointer (some ⟨bx,0,none⟩)] w (OutT ok (pr p t) w):=by
  have HB:=Lib.hid (fun o=>bel1 w o);have C:=Lib.hid (fun o=>T.cPar pv a p t (w.alloc o) (z1z (z0e hp (HB.out o))) (z1z (z0e hs (HB.out o))) hlen);have hlt:=Ap.z0a hb.1;obtain ⟨c0,c1⟩:=hb;obtain ⟨_,a1,k1,rfl,_⟩:=hp;obtain ⟨_,a2,k2,rfl,_⟩:=hs;generalize pr p t=L at C ⊢
  go_enter Tryz.func174,Tryz.ntmps174
  go_wp2_with fail;refine (C.out _).mono ?_;intro e w2 ho;have HO:=Lib.hid (ho.up (ok:=ok) (HB.out _) fun b h=>h.elim);obtain ⟨a4,k4,rfl,_,_⟩:=ho;go_wp2_with fail;go_ret;exact HO.out
theorem x4k (T:TCon) (ok:Nat→Prop) (pv y:Value) (p:Tr) (l:List Tr) (w:World) (hp:StrsO ok w pv p.a) (hl:TsO ok w y l) (hlen:l.length≤1000000000000) (hout:(l.flatMap (pr p)).length≤1000000000000) (hrow:∀ t∈l,p.a.length+t.a.length≤9) :
    Calls Tryz.prog 118 #[.agg #[pv,.int .i64 p.e],y] w (OutT ok (l.flatMap (pr p)) w):=by
  have eg:∀ args w,(callFunc 174 args).run Tryz.prog w=.ok (.enter 174 args) w:=enters_of Tryz.func174 (by kernel_rfl) rfl
  have C:=Lib.hid (fun ty=>y6d 174 #[.pointer (some ⟨w.heap.size,0,none⟩)] eg ok y l (pr p) (w.alloc (.cells #[pv,.int .i64 p.e] ty)) (hl.below (bel1 _ _))
    (fun wr hb t ht a ha=>y9g T _ w.heap.size a pv t p wr (BoxT.below (y9c _ _ _ _) hb) (z0e (z0e (z0x hp fun b hlt h=>⟨h,by simp; omega⟩) (bel1 _ _)) hb) ha (hrow t ht)) hlen hout)
  generalize l.flatMap (pr p)=L at C ⊢;obtain ⟨_,a1,k1,rfl,_⟩:=hp;obtain ⟨_,⟨_,a2,k2,rfl,_⟩,_⟩:=hl
  go_enter Tryz.func118,Tryz.ntmps118
  go_wp2_with fail;refine (C.out _).mono ?_;intro e w2 ho;have HO:=Lib.hid (ho.up (bel1 w _) fun b h=>.inl h);obtain ⟨a4,k4,rfl,_,_⟩:=ho;go_wp2_with fail;go_ret;exact HO.out
def hdl (p:Tr) (l:List Tr):List Tr:=if p.e=2 then l.map (thn ⟨p.a,1⟩) else [p]
theorem x3q (T:TCon) (ok:Nat→Prop) (pv y:Value) (p:Tr) (l:List Tr) (w:World) (hp:StrsO ok w pv p.a) (hl:TsO ok w y l) (hlen:l.length≤1000000000000) (hrow:∀ t∈l,p.a.length+t.a.length≤1000000) :
    Calls Tryz.prog 120 #[.agg #[pv,.int .i64 p.e],y] w (OutT ok (hdl p l) w):=by
  have HB:=Lib.hid (fun o=>bel1 w o)
  by_cases h2:p.e=2
  · have hL:hdl p l=l.map (thn ⟨p.a,1⟩):=if_pos h2;rw [hL,h2];have TH:=Lib.hid (fun w1 (hb:Below w.heap.size w w1)=>z7t T ok pv y ⟨p.a,1⟩ l w1 (z0e hp hb) (hl.below hb) hlen hrow);generalize l.map (thn ⟨p.a,1⟩)=L at TH ⊢;obtain ⟨_,a1,k1,rfl,_⟩:=hp;obtain ⟨_,⟨_,a2,k2,rfl,_⟩,_⟩:=hl;clear hL h2
    go_enter Tryz.func120,Tryz.ntmps120
    go_wp2_with fail;refine (y0v _ _ _ _ _).mono ?_;rintro e w1 ⟨rfl,hb1⟩;have B1:=Lib.hid ((HB.out _).trans (hb1.mono (HB.out _).size));go_wp2_with fail;refine (TH.out _ B1.out).mono ?_;intro e w2 ho;have HO:=Lib.hid (ho.up B1.out fun b h=>.inl h);obtain ⟨a4,k4,rfl,_,_⟩:=ho;go_wp2_with fail;go_ret;exact HO.out
  · have hL:hdl p l=[p]:=if_neg h2;have hne:(p.e != 2)=true:=by simp [h2]
    rw [hL];have ON:=Lib.hid (fun w1 (hb:Below w.heap.size w w1)=>z2u ok pv p w1 (z0e hp hb));obtain ⟨_,a1,k1,rfl,_⟩:=hp;obtain ⟨_,⟨_,a2,k2,rfl,_⟩,_⟩:=hl;clear hL
    go_enter Tryz.func120,Tryz.ntmps120
    go_wp2_with fail;refine (ON.out _ (HB.out _)).mono ?_;intro e w2 ho;have HO:=Lib.hid (ho.up (HB.out _) fun b h=>.inl h);obtain ⟨a4,k4,rfl,_,_⟩:=ho;go_wp2_with fail;go_ret;exact HO.out
def BoxP (w:World) (b:Nat) (v:Value) (e:Int) (v':Value) (e':Int):Prop:=w.cell? ⟨b,0,none⟩=some v∧w.cell? ⟨b,1,none⟩=some (.int .i64 e)∧w.cell? ⟨b,2,none⟩=some v'∧w.cell? ⟨b,3,none⟩=some (.int .i64 e')
theorem BoxP.below {w w':World} {b:Nat} {v v':Value} {e e':Int} (h:BoxP w b v e v' e') (hb:Below w.heap.size w w'):BoxP w' b v e v' e':=
  ⟨by rw [hb.cell (p:=⟨b,0,none⟩) (Ap.z0a h.1)]; exact h.1,by rw [hb.cell (p:=⟨b,1,none⟩) (Ap.z0a h.2.1)]; exact h.2.1,by rw [hb.cell (p:=⟨b,2,none⟩) (Ap.z0a h.2.2.1)]; exact h.2.2.1,by rw [hb.cell (p:=⟨b,3,none⟩) (Ap.z0a h.2.2.2)]; exact h.2.2.2⟩
theorem x1u (w:World) (a b c d:Value) (t:TypeId):(w.alloc (.cells #[a,b,c,d] t)).cell? ⟨w.heap.size,0,none⟩=some a∧(w.alloc (.cells #[a,b,c,d] t)).cell? ⟨w.heap.size,1,none⟩=some b∧(w.alloc (.cells #[a,b,c,d] t)).cell? ⟨w.heap.size,2,none⟩=some c∧(w.alloc (.cells #[a,b,c,d] t)).cell? ⟨w.heap.size,3,none⟩=some d:=by simp
theorem y9l (T:TCon) (ok:Nat→Prop) (v1 v2:Value) (x:Pr) (w:World) (h1:StrsO ok w v1 x.p.a) (h2:StrsO ok w v2 x.q.a) (hlen:x.p.a.length+x.q.a.length≤1000000) :
    Calls Tryz.prog 74 #[.agg #[v1,.int .i64 x.p.e,v2,.int .i64 x.q.e]] w (OutT ok (blk1 x) w):=by
  have HB:=Lib.hid (fun o=>bel1 w o)
  by_cases e1:x.p.e=1
  · have hL:blk1 x=[x.p]:=if_pos e1;rw [hL];have ON:=Lib.hid (fun w1 (hb:Below w.heap.size w w1)=>z2u ok v1 x.p w1 (z0e h1 hb));rw [e1] at ON ⊢;obtain ⟨_,a1,k1,rfl,_⟩:=h1;obtain ⟨_,a2,k2,rfl,_⟩:=h2;clear hL
    go_enter Tryz.func74,Tryz.ntmps74
    go_wp2_with fail;refine (ON.out _ (HB.out _)).mono ?_;intro e w2 ho;have HO:=Lib.hid (ho.up (HB.out _) fun b h=>.inl h);obtain ⟨a4,k4,rfl,_,_⟩:=ho;go_wp2_with fail;go_ret;exact HO.out
  · by_cases e2:x.p.e=2
    · have hL:blk1 x=[x.q].map (thn ⟨x.p.a,1⟩):=by
        unfold blk1;rw [if_neg e1,if_pos e2]
        rfl
      rw [hL,e2];have ON:=Lib.hid (fun w1 (hb:Below w.heap.size w w1)=>z2u ok v2 x.q w1 (z0e h2 hb));have TH:=Lib.hid (fun y w1 ok' (hp:StrsO ok' w1 v1 x.p.a) (hl:TsO ok' w1 y [x.q])=>z7t T ok' v1 y ⟨x.p.a,1⟩ [x.q] w1 hp hl (by simp) (fun t ht=>by rw [List.mem_singleton] at ht; rw [ht]; exact hlen));have H1:=Lib.hid h1;generalize [x.q].map (thn ⟨x.p.a,1⟩)=L at TH ⊢;obtain ⟨_,a1,k1,rfl,_⟩:=h1;obtain ⟨_,a2,k2,rfl,_⟩:=h2;clear hL e1 e2
      go_enter Tryz.func74,Tryz.ntmps74
      go_wp2_with fail
      go_region_held3 (fun w'=>w'.cell? ⟨w.heap.size,0,none⟩=some (.slice a1 x.p.a.length k1)∧w'.cell? ⟨w.heap.size,1,none⟩=some (.int .i64 2)∧w'.cell? ⟨w.heap.size,2,none⟩=some (.slice a2 x.q.a.length k2)∧w'.cell? ⟨w.heap.size,3,none⟩=some (.int .i64 x.q.e)) (first | exact ⟨by simp [go_sem],by simp [go_sem],by simp [go_sem],by simp [go_sem]⟩ | exact kz | exact ky | exact kx | fail) (first
        | (go_at_call 114
           (with_reducible refine (y0v _ _ _ _ _).mono ?_)
           rintro e w1 ⟨rfl,hb1⟩;have kz:BoxP w1 w.heap.size (.slice a1 x.p.a.length k1) 2 (.slice a2 x.q.a.length k2) x.q.e:=BoxP.below ⟨by simp [go_sem],by simp [go_sem],by simp [go_sem],by simp [go_sem]⟩ hb1;have B1:=Lib.hid (((HB.out _).drew).trans (hb1.mono (HB.out _).drew.size));clear hb1)
        | (go_at_call 69
           (with_reducible refine (ON.out _ B1.out).mono ?_)
           rintro e w2 ⟨a4,k4,rfl,ht2,hb2⟩;have B2:=Lib.hid (B1.out.trans (hb2.mono B1.out.size));have T2:Hid (TsO (fun b=>ok b∨w.heap.size≤b) w2 (.slice a4 1 k4) [x.q]):=Lib.hid (ht2.imp (ok':=fun b=>ok b∨w.heap.size≤b) fun b _ h=>h.imp id fun h=>Nat.le_trans B1.out.size h);have ky:=BoxP.below kz hb2;clear ht2 hb2)
        | (go_at_call 113
           (with_reducible refine (TH.out _ _ _ (z0e (z0x H1.out fun _ _ h=>.inl h) B2.out) T2.out).mono ?_)
           intro e w3 ho;have HO:=Lib.hid (ho.up (ok:=ok) B2.out fun b h=>h);obtain ⟨a5,k5,rfl,_,hb5⟩:=ho;have kx:=BoxP.below ky hb5;clear hb5)
        | fail)
      go_wp2_with fail;go_ret;exact HO.out
    · have hL:blk1 x=[]:=by
        unfold blk1;rw [if_neg e1,if_neg e2]
      have g1:(x.p.e==1)=false:=by simp [e1]
      have g2:(x.p.e==2)=false:=by simp [e2]
      rw [hL];obtain ⟨_,a1,k1,rfl,_⟩:=h1;obtain ⟨_,a2,k2,rfl,_⟩:=h2
      go_enter Tryz.func74,Tryz.ntmps74
      go_wp2_with fail;go_ret;exact ⟨none,0,rfl,ts_nil _ _,HB.out _⟩
end Mn
end Go.Proofs.YtaapnkoooofalaaGreat
