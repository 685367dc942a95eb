/- Laws that the last text leans on. -/
import Derived.Test.YtpingbiibbmcaaaGreatDoorQ24

set_option maxRecDepth 20000
set_option maxHeartbeats 1000000
namespace Go.Proofs.YtpingbiibbmcaaaGreatDoor
namespace Sp
open Go Rw YtpingbiibbmcaaaGreatDoor.So Se Tr Mn Do
structure Mo where
  p:Nat
  h:Int
  l:Option ByteArray
  r:Tm
def upm (f:Tm→Tm) (m:Mo):Mo:=⟨m.p,m.h,m.l,f m.r⟩
def mvs:Bool→Tm→Nat→List Mo
  | _,.act s,i=>[⟨i,1,some s,.over 1⟩]
  | _,.alt a b,i=>[⟨i,2,none,a⟩,⟨i,3,none,b⟩]
  | d,.yield,i=>⟨i,4,none,.over 1⟩::if d then [⟨i,5,none,.over 3⟩] else []
  | d,.pair a b,i=>⟨i,4,none,.going a b⟩::if d then [⟨i,5,none,.fin 3 .skip⟩] else []
  | d,.seq a b,i=>(mvs d a (i+1)).map (upm (.seq · b))
  | d,.hand a b,i=>(mvs d a (i+1)).map (upm (.hand · b))
  | d,.going a b,i=>(mvs d a (i+1)).map (upm (.going · b))
  | d,.stack a b,i=>(mvs d a (i+1)).map (upm (.stack · b))
  | _,.block a,i=>(mvs false a (i+1)).map (upm .block)
  | d,.par a b,i=>(mvs (d||bangT b) a (i+1)).map (upm (.par · b))++(mvs (d||bangT a) b (i+1+sz a)).map (upm (.par a ·))
  | _,_,_=>[]
def ah (o:Option ByteArray) (x:Tr):Tr:=match o with | none=>x | some s=>⟨s::x.a,x.e⟩
def ahp (o:Option ByteArray) (z:Pr):Pr:=⟨ah o z.p,z.q⟩
def lb (o:Option ByteArray):Nat:=match o with | none=>0 | some _=>1
theorem ah_e (o:Option ByteArray) (x:Tr):(ah o x).e=x.e:=by cases o <;> rfl
theorem y0w (o:Option ByteArray) (x:Tr):(ah o x).a.length=x.a.length+lb o:=by cases o <;> rfl
theorem x3s (o:Option ByteArray) (p q:Tr):thn (ah o p) q=ah o (thn p q):=by
  cases o with
  | none=>rfl
  | some s=>unfold thn; rw [ah_e]; split <;> rfl
theorem ah_hnd (o:Option ByteArray) (p q:Tr):hnd (ah o p) q=ah o (hnd p q):=by
  cases o with
  | none=>rfl
  | some s=>unfold hnd; rw [ah_e]; split <;> rfl
theorem ah_blk {o:Option ByteArray} {z:Pr} {x:Tr} (h:x∈blk1 z):ah o x∈blk1 (ahp o z):=by
  unfold blk1 at h ⊢
  show ah o x∈(if (ah o z.p).e=1 then [ah o z.p] else if (ah o z.p).e=2 then [⟨(ah o z.p).a++z.q.a,z.q.e⟩] else [])
  rw [ah_e]
  by_cases h1:z.p.e=1
  · rw [if_pos h1] at h ⊢;rw [List.mem_singleton] at h; rw [h]; exact List.mem_singleton.2 rfl
  · rw [if_neg h1] at h ⊢
    by_cases h2:z.p.e=2
    · rw [if_pos h2] at h ⊢;rw [List.mem_singleton] at h; rw [h]; refine List.mem_singleton.2 ?_; cases o <;> rfl
    · rw [if_neg h2] at h;exact absurd h (by simp)
theorem ah_seq1 {o:Option ByteArray} {Y:List Pr} {x z:Pr} (h:z∈seq1 Y x):ahp o z∈seq1 Y (ahp o x):=by
  unfold seq1 at h ⊢
  show ahp o z∈(if (ah o x.p).e=1 then Y.map (fun y=>⟨thn (ah o x.p) y.p,thn y.q x.q⟩) else [ahp o x])
  rw [ah_e]
  by_cases h1:x.p.e=1
  · rw [if_pos h1] at h ⊢;obtain ⟨y,hy,rfl⟩:=List.mem_map.1 h;refine List.mem_map.2 ⟨y,hy,?_⟩;simp only [x3s]
    rfl
  · rw [if_neg h1] at h ⊢;rw [List.mem_singleton] at h; rw [h]; exact List.mem_singleton.2 rfl
theorem v4d {o:Option ByteArray} {B:List Tr} {p:Tr} {z:Pr} (h:z∈going1 B p):ahp o z∈going1 B (ah o p):=by
  unfold going1 at h ⊢;rw [ah_e]
  by_cases h1:p.e=1
  · rw [if_pos h1] at h ⊢;obtain ⟨y,hy,rfl⟩:=List.mem_map.1 h;exact List.mem_map.2 ⟨y,hy,rfl⟩
  · rw [if_neg h1] at h ⊢;rw [List.mem_singleton] at h; rw [h]; exact List.mem_singleton.2 rfl
theorem v0v (s:ByteArray):Mt (flat (.act s))=[⟨[s],1⟩]:=by rw [y0z]; rfl
theorem z5a:Mt (flat .yield)=[tick,⟨[],3⟩]:=by rw [y0z]; rfl
theorem mt_alt (a b:Tm):Mt (flat (.alt a b))=norm (two 6 (Mt (flat a)) (Mt (flat b))):=by rw [y0z,z6s (l:=flat (.alt a b)) (.inr (.inl rfl)),y2b,y1y]; rfl
theorem mp_alt (a b:Tm):Mp (flat (.alt a b))=pnorm (Mp (flat a)++Mp (flat b)):=by rw [y9h,z8v (l:=flat (.alt a b)) (.inr (.inl rfl)),y2b,y1y]; rfl
theorem mp_pair (a b:Tm):Mp (flat (.pair a b))=pnorm (going (Mt (flat a)) (Mt (flat b))++[way]):=by rw [y9h,y2n (l:=flat (.pair a b)) rfl,y9r,y9p]
theorem y9w {a b:Tm} {x:Tr}:x∈Mt (flat (.seq a b))↔∃ p∈Mt (flat a),∃ q∈Mt (flat b),x=thn p q:=by rw [x2c,z0s,mem5]
theorem i_alt {a b:Tm} {x:Tr}:x∈Mt (flat (.alt a b))↔x∈Mt (flat a)∨x∈Mt (flat b):=by rw [mt_alt,z0s,mem6]
theorem z7a {a b:Tm} {x:Tr}:x∈Mt (flat (.par a b))↔∃ p∈Mt (flat a),∃ q∈Mt (flat b),x∈pr p q:=by rw [z9u,z0s,mem7]
theorem y0d {a b:Tm} {x:Tr}:x∈Mt (flat (.hand a b))↔∃ p∈Mt (flat a),∃ q∈Mt (flat b),x=hnd p q:=by rw [y9g,z0s,mem8]
theorem z4o {a:Tm} {x:Tr}:x∈Mt (flat (.block a))↔∃ z∈Mp (flat a),x∈blk1 z:=by rw [z8h,z0s,y9k]
theorem y6k {a b:Tm} {z:Pr}:z∈Mp (flat (.seq a b))↔∃ x∈Mp (flat a),z∈seq1 (Mp (flat b)) x:=by rw [v0w,z0l]; exact List.mem_flatMap
theorem j_alt {a b:Tm} {z:Pr}:z∈Mp (flat (.alt a b))↔z∈Mp (flat a)∨z∈Mp (flat b):=by rw [mp_alt,z0l,List.mem_append]
theorem z6z {a b:Tm} {z:Pr}:z∈Mp (flat (.par a b))↔∃ x∈Mp (flat a),∃ y∈Mp (flat b),z.p∈pr x.p y.p∧z.q∈pr x.q y.q:=by
  rw [x2d,z0l];unfold Mn.par;simp only [List.mem_flatMap,z6c]
theorem z4n {a b:Tm} {z:Pr}:z∈Mp (flat (.going a b))↔∃ p∈Mt (flat a),z∈going1 (Mt (flat b)) p:=by rw [z8i,z0l]; exact List.mem_flatMap
theorem x2r {a b:Tm} {z:Pr}:z∈Mp (flat (.pair a b))↔z∈Mp (flat (.going a b))∨z=way:=by rw [mp_pair,z0l,List.mem_append,List.mem_singleton,z8i,z0l]
theorem z5p {a b:Tm} {z:Pr}:z∈Mp (flat (.stack a b))↔∃ x∈Mp (flat a),∃ c∈Mt (flat b),z=⟨x.p,thn x.q c⟩:=by rw [y3o,z0l,y9i]
theorem v1l {s:Int} {c:Tm} {z:Pr}:z∈Mp (flat (.fin s c))↔∃ q∈Mt (flat c),z=⟨⟨[],s⟩,q⟩:=by rw [z4g,z0l,Se.z2v]
theorem y1t {t:Tm} (h:is t 3=true) {x:Tr} (hx:x∈Mt (flat t)):x.a.length≤ac t:=by
  have:=(gt (z0i t) (by rw [z2k t 3 (by omega)]; exact h)).cnt all x hx;rw [show acF all (flat t)=ac t from rfl] at this
  simpa [all] using this
theorem y1u {t:Tm} (h:is t 4=true) {z:Pr} (hz:z∈Mp (flat t)):z.p.a.length+z.q.a.length≤ac t:=by
  have:=(gp (z0i t) (by rw [z2k t 4 (by omega)]; exact h)).cnt all z hz;rw [show acF all (flat t)=ac t from rfl] at this
  simpa [all] using this
theorem x3t (a b:Tm):ac (.seq a b)=ac a+ac b:=z4h rfl (by decide)
theorem ac_alt (a b:Tm):ac (.alt a b)=ac a+ac b:=z4h rfl (by decide)
theorem y2h (a b:Tm):ac (.par a b)=ac a+ac b:=z4h rfl (by decide)
theorem y4w (a b:Tm):ac (.hand a b)=ac a+ac b:=z4h rfl (by decide)
theorem ac_pair (a b:Tm):ac (.pair a b)=ac a+ac b:=z4h rfl (by decide)
theorem z6p (a b:Tm):ac (.going a b)=ac a+ac b:=z4h rfl (by decide)
theorem z8m (a b:Tm):ac (.stack a b)=ac a+ac b:=z4h rfl (by decide)
theorem y1p {P:Tm→Mo→Prop}
    (act:∀ s i,P (.act s) ⟨i,1,some s,.over 1⟩)
    (altl:∀ a b i,P (.alt a b) ⟨i,2,none,a⟩) (altr:∀ a b i,P (.alt a b) ⟨i,3,none,b⟩)
    (yieldg:∀ i,P .yield ⟨i,4,none,.over 1⟩) (yields:∀ i,P .yield ⟨i,5,none,.over 3⟩)
    (pairg:∀ a b i,P (.pair a b) ⟨i,4,none,.going a b⟩) (pairs:∀ a b i,P (.pair a b) ⟨i,5,none,.fin 3 .skip⟩)
    (seq:∀ a b m,P a m→P (.seq a b) (upm (.seq · b) m)) (hand:∀ a b m,P a m→P (.hand a b) (upm (.hand · b) m))
    (going:∀ a b m,P a m→P (.going a b) (upm (.going · b) m)) (stack:∀ a b m,P a m→P (.stack a b) (upm (.stack · b) m))
    (block:∀ a m,P a m→P (.block a) (upm .block m))
    (parl:∀ a b m,P a m→P (.par a b) (upm (.par · b) m)) (parr:∀ a b m,P b m→P (.par a b) (upm (.par a ·) m)) :
    ∀ (t:Tm) (d:Bool) (i:Nat),∀ m∈mvs d t i,P t m:=by
  intro t
  induction t with
  | act s=>intro d i m hm; simp only [mvs,List.mem_singleton] at hm; rw [hm]; exact act s i
  | alt a b=>intro d i m hm; simp only [mvs,List.mem_cons,List.not_mem_nil,or_false] at hm; rcases hm with rfl | rfl; exact altl a b i; exact altr a b i
  | yield=>intro d i m hm; cases d <;> simp only [mvs,List.mem_cons,List.not_mem_nil,or_false,if_true,Bool.false_eq_true,if_false] at hm; rw [hm]; exact yieldg i; rcases hm with rfl | rfl; exact yieldg i; exact yields i
  | pair a b=>intro d i m hm; cases d <;> simp only [mvs,List.mem_cons,List.not_mem_nil,or_false,if_true,Bool.false_eq_true,if_false] at hm; rw [hm]; exact pairg a b i; rcases hm with rfl | rfl; exact pairg a b i; exact pairs a b i
  | seq a b ia ib=>intro d i m hm; obtain ⟨n,hn,rfl⟩:=List.mem_map.1 hm; exact seq a b n (ia _ _ n hn)
  | hand a b ia ib=>intro d i m hm; obtain ⟨n,hn,rfl⟩:=List.mem_map.1 hm; exact hand a b n (ia _ _ n hn)
  | going a b ia ib=>intro d i m hm; obtain ⟨n,hn,rfl⟩:=List.mem_map.1 hm; exact going a b n (ia _ _ n hn)
  | stack a b ia ib=>intro d i m hm; obtain ⟨n,hn,rfl⟩:=List.mem_map.1 hm; exact stack a b n (ia _ _ n hn)
  | block a ia=>intro d i m hm; obtain ⟨n,hn,rfl⟩:=List.mem_map.1 hm; exact block a n (ia _ _ n hn)
  | par a b ia ib=>
    intro d i m hm
    rcases List.mem_append.1 hm with hm | hm
    · obtain ⟨n,hn,rfl⟩:=List.mem_map.1 hm; exact parl a b n (ia _ _ n hn)
    · obtain ⟨n,hn,rfl⟩:=List.mem_map.1 hm; exact parr a b n (ib _ _ n hn)
  | _=>intro d i m hm; exact absurd hm (by simp [mvs])
theorem mv_ac:∀ (t:Tm) (d:Bool) (i:Nat),∀ m∈mvs d t i,ac m.r+lb m.l≤ac t:=by
  refine y1p (P:=fun t m=>ac m.r+lb m.l≤ac t) ?_ ?_ ?_ ?_ ?_ ?_ ?_ ?_ ?_ ?_ ?_ ?_ ?_ ?_
  · intro s i; exact Nat.le_refl 1
  · intro a b i; rw [ac_alt]; exact Nat.le_add_right _ _
  · intro a b i; rw [ac_alt]; exact Nat.le_add_left _ _
  · intro i; exact Nat.le_refl 0
  · intro i; exact Nat.le_refl 0
  · intro a b i; rw [ac_pair]; show ac (.going a b)+0≤_; rw [z6p]; exact Nat.le_refl _
  · intro a b i; exact Nat.zero_le _
  · intro a b m h; show ac (.seq m.r b)+lb m.l≤_; rw [x3t,x3t]; omega
  · intro a b m h; show ac (.hand m.r b)+lb m.l≤_; rw [y4w,y4w]; omega
  · intro a b m h; show ac (.going m.r b)+lb m.l≤_; rw [z6p,z6p]; omega
  · intro a b m h; show ac (.stack m.r b)+lb m.l≤_; rw [z8m,z8m]; omega
  · intro a m h; show ac (.block m.r)+lb m.l≤_; rw [z6q,z6q]; exact h
  · intro a b m h; show ac (.par m.r b)+lb m.l≤_; rw [y2h,y2h]; omega
  · intro a b m h; show ac (.par a m.r)+lb m.l≤_; rw [y2h,y2h]; omega
theorem mv_sz:∀ (t:Tm) (d:Bool) (i:Nat),∀ m∈mvs d t i,sz m.r≤sz t:=by
  refine y1p (P:=fun t m=>sz m.r≤sz t) ?_ ?_ ?_ ?_ ?_ ?_ ?_ ?_ ?_ ?_ ?_ ?_ ?_ ?_
  all_goals intros
  all_goals simp only [upm,sz] at *
  all_goals try omega
  rename_i a b i
  have:=z0e a;have:=z0e b;omega
theorem v0s:∀ (t:Tm) (d:Bool) (i:Nat),∀ m∈mvs d t i,(is t 3=true→is m.r 3=true)∧(is t 4=true→is m.r 4=true):=by
  refine y1p (P:=fun t m=>(is t 3=true→is m.r 3=true)∧(is t 4=true→is m.r 4=true)) ?_ ?_ ?_ ?_ ?_ ?_ ?_ ?_ ?_ ?_ ?_ ?_ ?_ ?_
  · intro s i; simp [is]
  · intro a b i; have:=is13 a; simp [is]; exact ⟨fun h _=>this.1 h,fun h _=>this.2 h⟩
  · intro a b i; have:=is13 b; simp [is]; exact ⟨fun _ h=>this.1 h,fun _ h=>this.2 h⟩
  · intro i; simp [is]
  · intro i; simp [is]
  · intro a b i; have:=is13 a; simp [is]; exact fun h k=>⟨this.1 h,k⟩
  · intro a b i; simp [is]
  · intro a b m h; simp only [upm,is]; simp; exact ⟨fun x y=>⟨h.1 x,y⟩,fun x y=>⟨h.2 x,y⟩⟩
  · intro a b m h; simp only [upm,is]; simp; exact fun x y=>⟨h.1 x,y⟩
  · intro a b m h; simp only [upm,is]; simp; exact fun x y=>⟨h.1 x,y⟩
  · intro a b m h; simp only [upm,is]; simp; exact fun x y=>⟨h.2 x,y⟩
  · intro a m h; simp only [upm,is]; simp; exact h.2
  · intro a b m h; simp only [upm,is]; simp; exact ⟨fun x y=>⟨h.1 x,y⟩,fun x y=>⟨h.2 x,y⟩⟩
  · intro a b m h; simp only [upm,is]; simp; exact ⟨fun x y=>⟨x,h.1 y⟩,fun x y=>⟨x,h.2 y⟩⟩
theorem mv_rg:∀ (t:Tm) (d:Bool) (i:Nat),∀ m∈mvs d t i,rg t=true→rg m.r=true:=by
  refine y1p (P:=fun t m=>rg t=true→rg m.r=true) ?_ ?_ ?_ ?_ ?_ ?_ ?_ ?_ ?_ ?_ ?_ ?_ ?_ ?_
  all_goals intros
  all_goals simp only [upm,z7p,rg_alt,z5o,z5k,rg_pair,z3u,z3t,z3b,z5l,z9i,x8u,z4z,Bool.and_eq_true] at *
  all_goals first | decide | simp_all
theorem mix_ah {o:Option ByteArray} {p q x:Tr} (hl:(ah o p).a.length+q.a.length≤19) (h:x∈pr p q):ah o x∈pr (ah o p) q:=by
  cases o with
  | none=>exact h
  | some s=>
    have hl':p.a.length+q.a.length≤19:=by rw [y0w] at hl; omega
    obtain ⟨h1,h2⟩:=(z3i hl').1 h;exact (z3i hl).2 ⟨.l h1,h2⟩
theorem v0x {o:Option ByteArray} {p q x:Tr} (hl:p.a.length+(ah o q).a.length≤19) (h:x∈pr p q):ah o x∈pr p (ah o q):=by
  cases o with
  | none=>exact h
  | some s=>
    have hl':p.a.length+q.a.length≤19:=by rw [y0w] at hl; omega
    obtain ⟨h1,h2⟩:=(z3i hl').1 h;exact (z3i hl).2 ⟨.r h1,h2⟩
theorem mv_snd:∀ (t:Tm) (d:Bool) (i:Nat),∀ m∈mvs d t i,ac t≤19→(is t 3=true→∀ y∈Mt (flat m.r),ah m.l y∈Mt (flat t))∧(is t 4=true→∀ y∈Mp (flat m.r),ahp m.l y∈Mp (flat t)):=by
  intro t
  induction t with
  | act s=>
    intro d i m hm _;simp only [mvs,List.mem_singleton] at hm;rw [hm];refine ⟨fun _ y hy=>?_,fun h=>by simp [is] at h⟩;rw [z0u,List.mem_singleton] at hy;rw [hy,v0v];exact List.mem_singleton.2 rfl
  | alt a b=>
    intro d i m hm _;simp only [mvs,List.mem_cons,List.not_mem_nil,or_false] at hm
    rcases hm with rfl | rfl
    · exact ⟨fun _ y hy=>i_alt.2 (.inl hy),fun _ y hy=>j_alt.2 (.inl hy)⟩
    · exact ⟨fun _ y hy=>i_alt.2 (.inr hy),fun _ y hy=>j_alt.2 (.inr hy)⟩
  | yield=>
    intro d i m hm _
    have hm:m=⟨i,4,none,.over 1⟩∨m=⟨i,5,none,.over 3⟩:=by
      cases d <;> simp [mvs] at hm
      · exact .inl hm
      · exact hm
    refine ⟨fun _ y hy=>?_,fun h=>by simp [is] at h⟩
    rcases hm with rfl | rfl
    · rw [z0u,List.mem_singleton] at hy; rw [hy,z5a]; exact List.mem_cons_self
    · rw [z0u,List.mem_singleton] at hy; rw [hy,z5a]; exact List.mem_cons_of_mem _ (List.mem_singleton.2 rfl)
  | pair a b=>
    intro d i m hm _
    have hm:m=⟨i,4,none,.going a b⟩∨m=⟨i,5,none,.fin 3 .skip⟩:=by
      cases d <;> simp [mvs] at hm
      · exact .inl hm
      · exact hm
    refine ⟨fun h=>by simp [is] at h,fun _ y hy=>?_⟩
    rcases hm with rfl | rfl
    · exact x2r.2 (.inl hy)
    · obtain ⟨q,hq,rfl⟩:=v1l.1 hy;rw [z9t,List.mem_singleton] at hq;rw [hq];exact x2r.2 (.inr rfl)
  | seq a b ia ib=>
    intro d i m hm hc;obtain ⟨n,hn,rfl⟩:=List.mem_map.1 hm;rw [x3t] at hc;obtain ⟨h1,h2⟩:=ia _ _ n hn (by omega)
    constructor
    · intro h y hy;simp [is] at h;obtain ⟨p,hp,q,hq,rfl⟩:=y9w.1 hy;exact y9w.2 ⟨_,h1 h.1 p hp,q,hq,(x3s _ _ _).symm⟩
    · intro h y hy;simp [is] at h;obtain ⟨x,hx,hy⟩:=y6k.1 hy;exact y6k.2 ⟨_,h2 h.1 x hx,ah_seq1 hy⟩
  | hand a b ia ib=>
    intro d i m hm hc;obtain ⟨n,hn,rfl⟩:=List.mem_map.1 hm;rw [y4w] at hc;obtain ⟨h1,h2⟩:=ia _ _ n hn (by omega);refine ⟨fun h y hy=>?_,fun h=>by simp [is] at h⟩;simp [is] at h;obtain ⟨p,hp,q,hq,rfl⟩:=y0d.1 hy;exact y0d.2 ⟨_,h1 h.1 p hp,q,hq,(ah_hnd _ _ _).symm⟩
  | block a ia=>
    intro d i m hm hc;obtain ⟨n,hn,rfl⟩:=List.mem_map.1 hm;rw [z6q] at hc;obtain ⟨h1,h2⟩:=ia _ _ n hn (by omega);refine ⟨fun h y hy=>?_,fun h=>by simp [is] at h⟩;simp [is] at h;obtain ⟨z,hz,hy⟩:=z4o.1 hy;exact z4o.2 ⟨_,h2 h z hz,ah_blk hy⟩
  | going a b ia ib=>
    intro d i m hm hc;obtain ⟨n,hn,rfl⟩:=List.mem_map.1 hm;rw [z6p] at hc;obtain ⟨h1,h2⟩:=ia _ _ n hn (by omega);refine ⟨fun h=>by simp [is] at h,fun h y hy=>?_⟩;simp [is] at h;obtain ⟨p,hp,hy⟩:=z4n.1 hy;exact z4n.2 ⟨_,h1 h.1 p hp,v4d hy⟩
  | stack a b ia ib=>
    intro d i m hm hc;obtain ⟨n,hn,rfl⟩:=List.mem_map.1 hm;rw [z8m] at hc;obtain ⟨h1,h2⟩:=ia _ _ n hn (by omega);refine ⟨fun h=>by simp [is] at h,fun h y hy=>?_⟩;simp [is] at h;obtain ⟨x,hx,c,hc,rfl⟩:=z5p.1 hy;exact z5p.2 ⟨_,h2 h.1 x hx,c,hc,rfl⟩
  | par a b ia ib=>
    intro d i m hm hc;rw [y2h] at hc
    rcases List.mem_append.1 hm with hm | hm
    · obtain ⟨n,hn,rfl⟩:=List.mem_map.1 hm;obtain ⟨h1,h2⟩:=ia _ _ n hn (by omega)
      constructor
      · intro h y hy;simp [is] at h;obtain ⟨p,hp,q,hq,hy⟩:=z7a.1 hy;have l1:=y1t h.1 (h1 h.1 p hp);have l2:=y1t h.2 hq;exact z7a.2 ⟨_,h1 h.1 p hp,q,hq,mix_ah (by omega) hy⟩
      · intro h y hy;simp [is] at h;obtain ⟨x,hx,z,hz,hy,hq⟩:=z6z.1 hy;have l1:(ah n.l x.p).a.length+x.q.a.length≤ac a:=y1u h.1 (h2 h.1 x hx);have l2:=y1u h.2 hz;exact z6z.2 ⟨_,h2 h.1 x hx,z,hz,mix_ah (by omega) hy,hq⟩
    · obtain ⟨n,hn,rfl⟩:=List.mem_map.1 hm;obtain ⟨h1,h2⟩:=ib _ _ n hn (by omega)
      constructor
      · intro h y hy;simp [is] at h;obtain ⟨p,hp,q,hq,hy⟩:=z7a.1 hy;have l1:=y1t h.1 hp;have l2:=y1t h.2 (h1 h.2 q hq);exact z7a.2 ⟨p,hp,_,h1 h.2 q hq,v0x (by omega) hy⟩
      · intro h y hy;simp [is] at h;obtain ⟨x,hx,z,hz,hy,hq⟩:=z6z.1 hy;have l1:=y1u h.1 hx;have l2:(ah n.l z.p).a.length+z.q.a.length≤ac b:=y1u h.2 (h2 h.2 z hz);exact z6z.2 ⟨x,hx,_,h2 h.2 z hz,v0x (by omega) hy,hq⟩
  | _=>intro d i m hm; exact absurd hm (by simp [mvs])
end Sp
end Go.Proofs.YtpingbiibbmcaaaGreatDoor
namespace Go.Proofs.YtpingbiibbmcaaaGreatDoor.Pl
open Go Go.RowKit Rw YtpingbiibbmcaaaGreatDoor.So Ro
set_option maxRecDepth 20000
attribute [local go_sem] Oper.semAt_some
theorem v0e (w:World):(w.alloc (.cells #[] 3)).ownsRow w.heap.size 3 1 (.slice (some ⟨w.heap.size,0,none⟩) 0 0) 0 []:=
  ⟨rfl,.inr ⟨w.heap.size,0,#[],rfl,Nat.le_refl _,by show (w.heap.push _)[w.heap.size]?=_; simp,Nat.le_refl _,Nat.zero_le _,rfl,rfl⟩⟩
theorem x6s (x:Value) (L:List Nat) (w:World) (hx:Rf.Plc w x L) (hlen:L.length≤4398046511104) :
    Calls Tryz.prog 309 #[x] w fun e w'=>∃ v,e=.returned v∧w'.ownsRow w.heap.size 3 1 v L.length (Rx.ic L)∧Below w.heap.size w w':=by
  have q:∀ (w:World) (a:Option Addr) (n c n' c':Nat),(binOp .eql 23 (.slice a n c) (.slice none n' c')).run Tryz.prog w=.ok (.bool a.isNone) w:=fun w a n c n' c'=>Lib.run_eql_slice_nil w _ _ a n c n' c' Tryz.underlying23
  have hb0:Below w.heap.size w (w.alloc (.cells #[] 3)):=z0b w _;obtain ⟨i0,hi,hz,hs1,hb8⟩:=info_parts Rx.v1u
  obtain ⟨v1,w1,hrun,hown,_,hb,_⟩:=Ap.z0t (P:=Tryz.prog) (ty:=23) Tryz.underlying23 hi hz hs1 hb8 (by rfl) (by omega) (v0e w) hb0.size (hx.below hb0)
    (by intro u hu; rw [List.mem_map] at hu; obtain ⟨k,_,rfl⟩:=hu; rfl) (by unfold maxLen; omega) (by omega)
  rw [List.nil_append,Nat.zero_add] at hown;obtain ⟨hl,a,c,rfl,_,hn,_⟩:=hx
  cases a with
  | none=>
    obtain ⟨h0,rfl⟩:=hn rfl;obtain rfl:L=[]:=List.eq_nil_of_length_eq_zero h0;clear hrun hown hb hb0 hl hn h0 hi hz hs1 hb8
    go_enter Tryz.func309,Tryz.ntmps309
    go_wp2_with fail;go_ret;exact ⟨_,rfl,⟨rfl,.inl ⟨rfl,rfl⟩⟩,Below.refl _ _⟩
  | some ad=>
    have R:=Lib.hid hrun;have O:=Lib.hid hown;have B:=Lib.hid (hb0.trans hb);clear hrun hown hb hb0 hn hl hi hz hs1 hb8
    go_enter Tryz.func309,Tryz.ntmps309
    go_wp2_with (at_builtin; refine Ap.wpList_append_run (by rfl) _ _ _ _ rfl _ _ rfl rfl v1 w1 R.out ?_);go_ret;exact ⟨_,rfl,O.out,B.out⟩
def ovI (l:List Nd) (k:Int):List Nat:=if 0≤k∧k<rounds l then ov l k.toNat else []
structure Ost (w:World) (l:List Nd) (kk:Int) (k:Nat) (W:World):Prop where
  ck:W.cell? ⟨w.heap.size,0,none⟩=some (.int .i64 kk)
  cr:W.cell? ⟨w.heap.size+1,0,none⟩=some (.slice none 0 0)
  fr:W.frozen? ⟨w.heap.size+1,0,none⟩=false
  no:∀ j:Nat,j<k→(j:Int)≠kk
  bel:Below w.heap.size w W
  size:w.heap.size+3≤W.heap.size
theorem Ost.turn {w:World} {l:List Nd} {T:Nat→Prop} {kk:Int} {k:Nat} {A B:World} (h:Ost w l kk k A) (hT:∀ t,T t→w.heap.size+3≤t∧t<A.heap.size) (ht:Turn T A B):Ost w l kk k B:=by
  have n0:∀ t,t<w.heap.size+3→¬ T t:=fun t h1 h2=>by have:=hT t h2; omega
  exact ⟨ht.cell h.ck (n0 _ (by show w.heap.size<_; omega)),ht.cell h.cr (n0 _ (by show w.heap.size+1<_; omega)),(y7y ht h.cr (n0 _ (by show w.heap.size+1<_; omega))).trans h.fr,h.no,h.bel.trans (ht.below h.bel.size fun t h'=>by have:=hT t h'; omega),Nat.le_trans h.size ht.size⟩
structure Oed (w:World) (l:List Nd) (kk:Int) (T:Nat→Prop) (y:Value) (W:World):Prop where
  lt:0≤kk∧kk<rounds l
  cr:W.cell? ⟨w.heap.size+1,0,none⟩=some y
  own:Ow W y (ov l kk.toNat)
  apart:∀ g,y.ownBlock=some g→¬ T g
  bel:Below w.heap.size w W
  base:∀ g,y.ownBlock=some g→w.heap.size≤g
theorem own_up {w:World} {base size n:Nat} {e:TypeId} {v:Value} {xs:List Value} (h:w.ownsRow 0 e size v n xs) (hb:∀ g,v.ownBlock=some g→base≤g):w.ownsRow base e size v n xs:=by
  obtain ⟨h1,⟨rfl,h2⟩ | ⟨g,cap,cur,rfl,_,h3⟩⟩:=h
  · exact ⟨h1,.inl ⟨rfl,h2⟩⟩
  · exact ⟨h1,.inr ⟨g,cap,cur,rfl,hb g rfl,h3⟩⟩
theorem Oed.turn {w:World} {l:List Nd} {T:Nat→Prop} {kk:Int} {y:Value} {A B:World} (h:Oed w l kk T y A) (hT:∀ t,T t→w.heap.size+3≤t∧t<A.heap.size) (ht:Turn T A B):Oed w l kk T y B:=
  ⟨h.lt,ht.cell h.cr (fun h'=>by have:=(hT _ h').1; change _≤w.heap.size+1 at this; omega),h.own.turn ht h.apart,h.apart,h.bel.trans (ht.below h.bel.size fun t h'=>by have:=hT t h'; omega),h.base⟩
theorem v0g (v:Value) (l:List Nd) (kk:Int) (w:World) (hv:Nds w v l) (hl:l.length≤4398046511104) :
    Calls Tryz.prog 283 #[v,.int .i64 kk] w fun e w'=>∃ y,e=.returned y∧w'.ownsRow w.heap.size 3 1 y (ovI l kk).length (Rx.ic (ovI l kk))∧Below w.heap.size w w':=by
  have HN:=Lib.hid hv;obtain ⟨_,a,cap,rfl,-⟩:=hv;refine y1b Tryz.func283 rfl ?_;simp only [Tryz.ntmps283,List.size_toArray,List.length_cons,List.length_nil,Nat.reduceAdd,Nat.reduceSub,Array.replicate_succ,Array.replicate_zero,List.push_toArray,List.append_toArray,List.nil_append,List.cons_append];go_wp2_with fail;refine (v0j a l.length cap _).mono ?_;rintro e w' ⟨rfl,rfl⟩;go_wp2_with fail;obtain ⟨wl,hwl⟩:∃ wl,(((w.alloc (.cells #[.int .i64 kk] 3)).alloc (.cells #[.slice none 0 0] 23)).alloc (.cells #[.slice a l.length cap] 22))=wl:=⟨_,rfl⟩
  have hsz:wl.heap.size=w.heap.size+3:=by rw [← hwl]; simp
  have hbl:Below w.heap.size w wl:=by
    rw [← hwl];exact ((z0b w _).alloc (by simp) _).alloc (by simp; omega) _
  have b0:=z7j w (.int .i64 kk) 3;have b1:=z7j (w.alloc (.cells #[.int .i64 kk] 3)) (.slice none 0 0) 23;have b2:=z7j ((w.alloc (.cells #[.int .i64 kk] 3)).alloc (.cells #[.slice none 0 0] 23)) (.slice a l.length cap) 22;simp only [World.size_alloc] at b1 b2;have hc0:=(x0v (.cells #[.slice a l.length cap] 22) (x0v (.cells #[.slice none 0 0] 23) b0)).1;have hc1:=x0v (.cells #[.slice a l.length cap] 22) b1;have hc2:=b2.1;rw [hwl] at hc0 hc1 hc2 ⊢;clear b0 b1 b2 hwl
  refine wp_range (gf:=319) (lb:=#[.pointer (some ⟨w.heap.size+1+1,0,none⟩)]) rfl (enters_of Tryz.func319 (by kernel_rfl) rfl)
    (iter_any (w.heap.size+1+1) _ l w wl HN.out hl hbl hc2) (by omega) (Below.refl _ _) Told.size Told.stay
    (fun T k W=>Ost w l kk k W) (fun c T k W=>c=.ret∧∃ y,Oed w l kk T y W)
    (fun T k A B h hT ht=>h.turn (by rw [← hsz]; exact hT) ht) (fun T k A B h hT ht _=>h.turn (by rw [← hsz]; exact hT) ht) (fun c T k A B ⟨e,y,h⟩ hT ht _=>⟨e,y,h.turn (by rw [← hsz]; exact hT) ht⟩)
    (fun W hb _=>⟨by rw [hb.cell (Ap.z0a hc0)]; exact hc0,by rw [hb.cell (Ap.z0a hc1.1)]; exact hc1.1,(World.frozen?_of_block (hb.block _ (Ap.z0a hc1.1))).trans hc1.2,fun j hj=>absurd hj (Nat.not_lt_zero j),hbl.trans (hb.mono hbl.size),by have:=hb.size; omega⟩)
    (fun args=>{ tmps:=#[.slice a l.length cap,.int .i64 kk,undef,.pointer (some ⟨w.heap.size,0,none⟩),.pointer (some ⟨w.heap.size+1,0,none⟩),args.getD 0 undef,args.getD 1 undef,.slice a l.length cap,.func (.func 319) #[] #[.pointer (some ⟨w.heap.size+1+1,0,none⟩)],args.getD 0 undef,args.getD 1 undef,undef,undef,undef,undef,undef],defers:=[] }) ?assign ?body ?done ?stop
  case assign=>
    rintro l0 k args A K ⟨va,rfl,hva⟩ hK
    gi_wp2
    exact hK
  case body=>
    rintro l0 T k args A hp hT hk ⟨va,rfl,hva⟩;have hlt:=x8p hk;have hck:=hp.ck;obtain ⟨_,aa,ca,rfl,-⟩:=id hva;have HP:=Lib.hid hp;have HT3:Hid (∀ t,T t→w.heap.size+3≤t∧t<A.heap.size):=Lib.hid (by rw [← hsz]; exact hT);have HVA:=Lib.hid hva;have HK:=Lib.hid hk
    have HLV:Hid ((ov l k).length≤4398046511104):=Lib.hid (by
      unfold ov;exact Nat.le_trans (List.length_filter_le _ _) (by simp; omega))
    clear hp hT hva hk
    by_cases he:(k:Int)=kk
    · subst he
      gi_wp2
      refine ⟨trivial,rfl,(CallsIn.inRound l0 (callsIn_wide.2 (x6s _ _ A HVA.out HLV.out))).mono ?_⟩;rintro e w2 ⟨y,rfl,hown,hb⟩;have hlk:=HP.out.size;have hbA:=hb.size;have hr2:w2.cell? ⟨w.heap.size+1,0,none⟩=some (.slice none 0 0):=by rw [hb.cell (Ap.z0a HP.out.cr)]; exact HP.out.cr
      have hf2:w2.frozen? ⟨w.heap.size+1,0,none⟩=false:=(World.frozen?_of_block (hb.block _ (Ap.z0a HP.out.cr))).trans HP.out.fr
      have hyb:∀ g,y.ownBlock=some g→A.heap.size≤g:=fun g hg=>by
        obtain ⟨_,⟨rfl,_⟩ | ⟨g',cp,cur,rfl,hq,_⟩⟩:=hown
        · cases hg
        · cases hg; exact hq
      have hown0:Ow w2 y (ov l k):=Ap.z3e hown (Nat.zero_le _)
      have HE:Hid (Oed w l (k:Int) T y (w2.setCell ⟨w.heap.size+1,0,none⟩ y)):=by
        refine Lib.hid ⟨⟨by omega,by have:=HK.out; omega⟩,World.cell?_setCell_same' _ _ _ (by rw [hr2]; rfl),?_,fun g hg ht=>?_,?_,fun g hg=>by have:=hyb g hg; omega⟩
        · rw [Int.toNat_natCast];exact hown0.turn (M:=fun t=>t=w.heap.size+1) (Turn.setCell rfl) fun g hg e=>by have:=hyb g hg; omega
        · have h1:=hyb g hg;have h2:=HT3.out g ht;omega
        · exact (HP.out.bel.trans (hb.mono HP.out.bel.size)).trans ((Turn.setCell (T:=fun t=>t=w.heap.size+1) rfl).below (by omega) fun t h=>by omega)
      have HKp:Hid (Keep (fun t=>T t∨t<w.heap.size) A (w2.setCell ⟨w.heap.size+1,0,none⟩ y)):=Lib.hid
        ((Keep.of_below hb fun t h=>by
          rcases h with h | h
          · exact (HT3.out t h).2
          · omega).trans (Keep.setCell fun h=>by
          rcases h with h | h
          · have h1:=(HT3.out _ h).1;change _≤w.heap.size+1 at h1;omega
          · change w.heap.size+1<w.heap.size at h;omega))
      obtain ⟨ya,yc,rfl⟩:=hown0.slice;clear hown hown0 hyb hb
      gi_wp2
      exact ⟨HKp.out,rfl,_,HE.out⟩
    · have g0:((k:Int)==kk)=false:=by rw [beq_eq_false_iff_ne]; exact he
      gi_wp2
      refine ⟨Keep.refl _ _,HP.out.ck,HP.out.cr,HP.out.fr,fun j hj=>?_,HP.out.bel,HP.out.size⟩
      by_cases h:j=k
      · subst h; exact he
      · exact HP.out.no j (by omega)
  case done=>
    rintro T W hp hTD hT hD;have hcr:=hp.cr;have hfr:=hp.fr;have hne:wl.heap.size≠w.heap.size+1:=by omega
    have e0:ovI l kk=[]:=by
      unfold ovI;rw [if_neg];rintro ⟨h1,h2⟩;exact hp.no kk.toNat (by omega) (by omega)
    have hD2:(W.setCell ⟨w.heap.size+1,0,none⟩ (.slice none 0 0)).heap[wl.heap.size]?=some (.deferred (some [])):=(Below.heap_setCell W _ _ _ hne).trans hD;have HD:=Lib.hid hD2;have hc5:=cell_kept (World.cell?_setCell_same' W ⟨w.heap.size+1,0,none⟩ (.slice none 0 0) (by rw [hcr]; rfl)) (grownBy_putObj' _ wl.heap.size (.deferred none)) (fun r e=>by cases e; exact ⟨_,hD2,rfl⟩);have HC5:=Lib.hid hc5;have hbs:=hp.bel.trans ((Turn.setCell (T:=fun t=>t=w.heap.size+1) (w:=W) (p:=⟨w.heap.size+1,0,none⟩) (v:=.slice none 0 0) rfl).below hp.bel.size fun t h=>by omega);have HB:=Lib.hid (hbs.trans ((z1b (T:=fun t=>t=wl.heap.size) (o:=.deferred none) rfl).below hbs.size fun t h=>by omega));have HE0:=Lib.hid e0;clear hp hT hTD hD hD2 hc5 hbs e0;go_wp2_with fail;refine z9z (v:=.slice none 0 0) HD.out ?_ ⟨_,rfl,?_,HB.out⟩
    · have hc6:=HC5.out;simp [results,Tryz.f283,go_sem,hc6]
    · rw [HE0.out];exact ⟨rfl,.inl ⟨rfl,rfl⟩⟩
  case stop=>
    rintro T c k W _ ⟨rfl,y,h⟩ hTD hT hD;have hne:y.ownBlock≠some wl.heap.size:=fun e=>h.apart _ e hTD
    have e0:ovI l kk=ov l kk.toNat:=by
      unfold ovI;rw [if_pos h.lt]
    have hc6:=cell_kept h.cr (grownBy_putObj' _ wl.heap.size (.deferred none)) (fun r e=>by cases e; exact ⟨_,hD,rfl⟩);refine wpIn_ret (z9z (v:=y) hD ?_ ⟨_,rfl,?_,?_⟩)
    · simp [results,Tryz.f283,go_sem,hc6]
    · rw [e0];exact own_up (h.own.turn (M:=fun t=>t=wl.heap.size) (z1b rfl) fun g hg e=>hne (by rw [hg,e])) h.base
    · exact h.bel.trans ((z1b (T:=fun t=>t=wl.heap.size) rfl).below h.bel.size fun t h=>by omega)
end Go.Proofs.YtpingbiibbmcaaaGreatDoor.Pl
namespace Go.Proofs.YtpingbiibbmcaaaGreatDoor
namespace Mn
open Go Go.RowKit Tr
def BoxT (w:World) (b:Nat) (v:Value) (e:Int):Prop:=w.cell? ⟨b,0,none⟩=some v∧w.cell? ⟨b,1,none⟩=some (.int .i64 e)
theorem map_flat {α β:Type} (f:α→β) (l:List α):l.map f=l.flatMap fun t=>[f t]:=by
  induction l with
  | nil=>rfl
  | cons x l ih=>rw [List.map_cons,List.flatMap_cons,ih]; rfl
def hdl (p:Tr) (l:List Tr):List Tr:=if p.e=2 then l.map (thn ⟨p.a,1⟩) else [p]
def BoxP (w:World) (b:Nat) (v:Value) (e:Int) (v':Value) (e':Int):Prop:=w.cell? ⟨b,0,none⟩=some v∧w.cell? ⟨b,1,none⟩=some (.int .i64 e)∧w.cell? ⟨b,2,none⟩=some v'∧w.cell? ⟨b,3,none⟩=some (.int .i64 e')
end Mn
namespace Mn
open Go Go.RowKit Tr
open Rw (Nd Nds)
def smallB (l:List Nd):Bool:=decide (l.length≤24)&&decide (acs l≤6)
def why (l:List Nd) (p:Bool):Int:=if So.onB l p then (if smallB l then 0 else 70) else 1
theorem x1x {l:List Nd} (h:So.onB l false=true):Rw.whole l=true∧So.Is 3 l=true:=by
  have h':(So.of l==1||So.of l==3)=true:=h;simp only [Bool.or_eq_true,beq_iff_eq] at h'
  rcases h' with h' | h'
  · exact ⟨(So.of_one h').1,So.z0n (So.of_one h').2⟩
  · exact ⟨(So.x1z h').1,(So.x1z h').2.1⟩
theorem z5w {l:List Nd} (h:smallB l=true):l.length≤24∧acs l≤6:=by
  unfold smallB at h
  simpa using h
theorem ints_one (w:World) (x:Int) (ty:TypeId):Rw.Ints (w.alloc (.cells #[.int .i64 x] ty)) (.slice (some ⟨w.heap.size,0,none⟩) 1 1) [x]:=
  ⟨rfl,some ⟨w.heap.size,0,none⟩,1,rfl,Nat.le_refl _,fun h=>(by cases h),fun _=>⟨w.heap.size,0,rfl,fun j u hu=>by
    rw [Nat.zero_add,World.cell?_alloc_new]
    simpa using hu⟩⟩
theorem x8e (v:Value) (l:List Nd) (w:World) (hv:Nds w v l) (hl:l.length≤1000) :
    Calls Tryz.prog 25 #[v] w fun e w'=>e=.returned (.bool (smallB l))∧Below w.heap.size w w':=by
  have HC:=Lib.hid (fun y w1 (hb:Below w.heap.size w w1) hy=>Rx.z7h v y l [1] w1 (hv.below hb) hy (by omega) (by simp));have ha:=acs_cnt l;rw [← ha] at HC;have hsm:smallB l=(decide (l.length≤24)&&decide (acs l≤6)):=rfl;rw [hsm];generalize acs l=n at HC ⊢;obtain ⟨_,a,c,rfl,-⟩:=hv;obtain ⟨m,hm⟩:∃ m,l.length=m:=⟨_,rfl⟩
  rw [hm] at HC hl ⊢;clear ha hsm hm;have HI:=Lib.hid (fun ty=>ints_one w 1 ty)
  by_cases h1:m≤24
  · have g1:decide ((m:Int)≤24)=true:=by simpa using (show (m:Int)≤24 by omega)
    have e1:decide (m≤24)=true:=by simpa using h1
    rw [e1,Bool.true_and];clear e1
    go_enter Tryz.func25,Tryz.ntmps25
    go_wp2_with fail;refine (HC.out _ _ (bel1 _ _) (HI.out _)).mono ?_;rintro e w1 ⟨rfl,hb1⟩;have B1:=Lib.hid ((bel1 w _).trans (hb1.mono (bel1 w _).size));clear hb1
    by_cases h2:n≤6
    · have g2:decide ((n:Int)≤6)=true:=by simpa using (show (n:Int)≤6 by omega)
      go_wp2_with fail;go_ret;exact ⟨by simp [h2],B1.out⟩
    · have g2:decide ((n:Int)≤6)=false:=by simpa using (show ¬ (n:Int)≤6 by omega)
      go_wp2_with fail;go_ret;exact ⟨by simp [h2],B1.out⟩
  · have g1:decide ((m:Int)≤24)=false:=by simpa using (show ¬ (m:Int)≤24 by omega)
    have e1:decide (m≤24)=false:=by simpa using h1
    rw [e1,Bool.false_and];clear e1
    go_enter Tryz.func25,Tryz.ntmps25
    go_wp2_with fail;go_ret;exact ⟨rfl,Below.refl _ _⟩
def MtR (l:List Nd):List Tr:=if why l false=0 then Mt l else []
def back (X:List Pr):List Tr:=norm (X.map (·.q))
theorem why_ok {l:List Nd} {p:Bool} (h:why l p=0):So.onB l p=true∧smallB l=true:=by
  unfold why at h
  split at h
  · rename_i h1
    split at h
    · rename_i h2; exact ⟨h1,h2⟩
    · cases h
  · cases h
end Mn
namespace Se
open Go Go.RowKit Rw YtpingbiibbmcaaaGreatDoor.So
def OutL (l:List Nd) (w:World) (e:Ending) (w':World):Prop:=∃ y,e=.returned y∧Nds w' y l∧Below w.heap.size w w'
theorem nds_nil (w:World):Nds w (.slice none 0 0) []:=⟨rfl,none,0,rfl,Nat.le_refl _,fun _=>⟨rfl,rfl⟩,fun h=>absurd h (Nat.lt_irrefl 0)⟩
theorem Goes.sz {t:Tm} (h:Goes t):Se.sz t≤200:=h.2.1
theorem Goes.len {t:Tm} (h:Goes t):(flat t).length≤200:=by rw [flat_len]; exact h.2.1
theorem x4j (v:Value) (l:List Nd) (w:World) (hv:Nds w v l) (hl:l.length≤1000) (hm:Nms l) (h0:of l=0) :
    Calls Tryz.prog 66 #[v] w (OutL [] w):=by
  have HO:=Lib.hid (y9c l v w hv hl hm);rw [h0] at HO;obtain ⟨_,a,c,rfl,-⟩:=id hv;unfold OutL;clear h0 hv hm
  go_enter Tryz.func66,Tryz.ntmps66
  go_wp2_with fail;refine HO.out.mono ?_;rintro e w1 ⟨rfl,hb⟩;have B1:=Lib.hid hb;clear hb;go_wp2_with fail;go_ret;exact ⟨_,rfl,nds_nil _,B1.out⟩
theorem x4k (v:Value) (t:Tm) (w:World) (hv:Nds w v (flat t)) (hm:Nms (flat t)) (hg:Goes t) :
    Calls Tryz.prog 66 #[v] w (OutL (flat (S t)) w):=by
  have HO:=Lib.hid (y9c (flat t) v w hv (by have:=hg.len; omega) hm);have HT:=Lib.hid (fun w1 (hb:Below w.heap.size w w1)=>x7v t (by have:=hg.sz; omega) hg.2.2 v w1 (hv.below hb));have h0:=hg.of;have h4:=of_le (flat t);obtain ⟨z,hz⟩:∃ z,of (flat t)=z:=⟨_,rfl⟩
  rw [hz] at HO h0 h4;have f0:((z:Int)==0)=false:=by rw [beq_eq_false_iff_ne]; omega
  have hs:(flat (S t)).length≤200:=hg.S.len;obtain ⟨L,hL⟩:∃ L,flat (S t)=L:=⟨_,rfl⟩
  unfold OutN at HT;rw [hL] at hs HT ⊢;obtain ⟨m,hmm⟩:∃ m,L.length=m:=⟨_,rfl⟩
  have hs':¬ (200:Int)<(m:Int):=by omega
  have hs2:(m:Int)≤200:=by omega
  have hs3:m≤200:=by omega
  have HM:=Lib.hid hmm;obtain ⟨_,a,c,rfl,-⟩:=id hv;unfold OutL;clear hv hm hz hg hmm hL hs
  go_enter Tryz.func66,Tryz.ntmps66
  go_wp2_with fail;refine HO.out.mono ?_;rintro e w1 ⟨rfl,hb⟩;have B1:=Lib.hid hb;clear hb;go_wp2_with fail;refine (HT.out _ B1.out).mono ?_;rintro e w2 ⟨y,rfl,hn,hb⟩;have B2:=Lib.hid (B1.out.trans (hb.mono B1.out.size));have N2:=Lib.hid hn;obtain ⟨_,a2,c2,rfl,-⟩:=hn;rw [HM.out] at N2 ⊢;clear hb;go_wp2_with fail;go_ret;exact ⟨_,rfl,N2.out,B2.out⟩
theorem x4l (v:Value) (l:List Nd) (w:World) (hv:Nds w v l) (hl:l.length≤1000) (hm:Nms l) (h0:of l=0) :
    Calls Tryz.prog 52 #[v] w (OutL [] w):=by
  have HO:=Lib.hid (fun p w1 (hb:Below w.heap.size w w1)=>Sx.y9b l p v w1 (hv.below hb) hl hm);have e:∀ p,onB l p=false:=fun p=>by unfold onB; rw [h0]; cases p <;> rfl
  have HF:Hid (∀ w1,Below w.heap.size w w1→∀ p,Calls Tryz.prog 78 #[v,.bool p] w1 fun e w'=>e=.returned (.bool false)∧Below w1.heap.size w1 w'):=Lib.hid fun w1 hb p=>by have h:=HO.out p w1 hb; rw [e p] at h; exact h
  obtain ⟨_,a,c,rfl,-⟩:=id hv;unfold OutL;clear h0 hv hm HO e
  go_enter Tryz.func52,Tryz.ntmps52
  go_wp2_with fail;refine (HF.out _ (Below.refl _ _) false).mono ?_;rintro e w1 ⟨rfl,hb⟩;have B1:=Lib.hid hb;clear hb;go_wp2_with fail;refine (HF.out _ B1.out true).mono ?_;rintro e w2 ⟨rfl,hb⟩;have B2:=Lib.hid (B1.out.trans (hb.mono B1.out.size));clear hb;go_wp2_with fail;go_ret;exact ⟨_,rfl,nds_nil _,B2.out⟩
theorem x4m (v:Value) (t:Tm) (w:World) (hv:Nds w v (flat t)) (hm:Nms (flat t)) (hg:Goes t) :
    Calls Tryz.prog 52 #[v] w (OutL (flat (S t)) w):=by
  have HO:=Lib.hid (fun p w1 (hb:Below w.heap.size w w1)=>Sx.y9b (flat t) p v w1 (hv.below hb) (by have:=hg.len; omega) hm);have HT:=Lib.hid (fun w1 (hb:Below w.heap.size w w1)=>y5r t (by have:=hg.sz; omega) hg.2.2 v w1 (hv.below hb));have e1:=z2u hg.1 hg.2.1 false;have e2:=z2u hg.1 hg.2.1 true;simp only [Bool.false_eq_true,if_false,if_true] at e1 e2;have hi:=hg.2.2
  cases h3:is t 3 with
  | true=>
    rw [h3] at e1;have HF:=Lib.hid (HO.out false w (Below.refl _ _));rw [e1] at HF;obtain ⟨_,a,c,rfl,-⟩:=id hv;unfold OutL;clear hv hm HO e1 e2 hi hg
    go_enter Tryz.func52,Tryz.ntmps52
    go_wp2_with fail;refine HF.out.mono ?_;rintro e w1 ⟨rfl,hb⟩;have B1:=Lib.hid hb;clear hb;go_wp2_with fail;refine (HT.out _ B1.out).mono ?_;rintro e w2 ⟨y,rfl,hn,hb⟩;have B2:=Lib.hid (B1.out.trans (hb.mono B1.out.size));have N2:=Lib.hid hn.nds;clear hb hn;go_wp2_with fail;go_ret;exact ⟨_,rfl,N2.out,B2.out⟩
  | false=>
    rw [h3] at e1;rw [show is t 4=true from hi.resolve_left (by rw [h3]; decide)] at e2;have HF:=Lib.hid (HO.out false w (Below.refl _ _));have HG:=Lib.hid (fun w1 (hb:Below w.heap.size w w1)=>HO.out true w1 hb);rw [e1] at HF;rw [e2] at HG;obtain ⟨_,a,c,rfl,-⟩:=id hv;unfold OutL;clear hv hm HO e1 e2 hi hg
    go_enter Tryz.func52,Tryz.ntmps52
    go_wp2_with fail;refine HF.out.mono ?_;rintro e w1 ⟨rfl,hb⟩;have B1:=Lib.hid hb;clear hb;go_wp2_with fail;refine (HG.out _ B1.out).mono ?_;rintro e w2 ⟨rfl,hb⟩;have B2:=Lib.hid (B1.out.trans (hb.mono B1.out.size));clear hb;go_wp2_with fail;refine (HT.out _ B2.out).mono ?_;rintro e w3 ⟨y,rfl,hn,hb⟩;have B3:=Lib.hid (B2.out.trans (hb.mono B2.out.size));have N3:=Lib.hid hn.nds;clear hb hn;go_wp2_with fail;go_ret;exact ⟨_,rfl,N3.out,B3.out⟩
theorem y2x (a:Option Addr) (c:Nat) (w:World):Calls Tryz.prog 79 #[.slice a 0 c] w fun e w'=>e=.returned (.bool false)∧w=w':=by
  go_enter Tryz.func79,Tryz.ntmps79
  go_wp2_with fail;go_ret;exact ⟨rfl,rfl⟩
theorem y2w (v:Value) (l m:List Nd) (w:World) (hv:Nds w v l) (hl:l.length≤1000) (hm:m.length≤1000) (h0:0<l.length) (hS:Calls Tryz.prog 52 #[v] w (OutL m w)) :
    Calls Tryz.prog 79 #[v] w fun e w'=>e=.returned (.bool (sameN m l))∧Below w.heap.size w w':=by
  have HS:=Lib.hid hS;have HV:=Lib.hid hv;obtain ⟨_,a,c,rfl,-⟩:=id hv;obtain ⟨n,hn⟩:∃ n,l.length=n+1:=⟨l.length-1,by omega⟩
  obtain ⟨q,hq⟩:∃ q,sameN m l=q:=⟨_,rfl⟩
  have HP:=Lib.hid (fun y w1 (h1:Nds w1 y m) (h2:Nds w1 (.slice a l.length c) l)=>Rx.x8j y (.slice a l.length c) m l w1 h1 h2 (by omega));rw [hq] at HP ⊢;rw [hn] at HS HV HP ⊢;have g1:(0:Int)<(n:Int)+1:=by omega
  have g2:0<n+1:=by omega
  unfold OutL at HS;clear hS hv hq hn
  go_enter Tryz.func79,Tryz.ntmps79
  go_wp2_with fail;refine HS.out.mono ?_;rintro e w1 ⟨y,rfl,hn,hb⟩;have B1:=Lib.hid hb;have N1:=Lib.hid hn;have V1:=Lib.hid (HV.out.below hb);clear hb hn;go_wp2_with fail;refine (HP.out _ _ N1.out V1.out).mono ?_;rintro e w2 ⟨rfl,hb⟩;have B2:=Lib.hid (B1.out.trans (hb.mono B1.out.size));clear hb;go_wp2_with fail;go_ret;exact ⟨rfl,B2.out⟩
end Se
end Go.Proofs.YtpingbiibbmcaaaGreatDoor
