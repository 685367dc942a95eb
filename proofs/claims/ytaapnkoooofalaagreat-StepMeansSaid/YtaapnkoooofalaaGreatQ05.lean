/- Laws that the last text leans on. -/
import Derived.Test.YtaapnkoooofalaaGreatQ04
import Derived.Deep.RegionHeld3
import Derived.StillTailTactics
import Derived.Deep.Strs
import Derived.Deep.Slices
import Derived.Lib.SmallJoins
import Derived.Laws.AppendOwn
import Derived.Laws.StructEq

set_option maxRecDepth 20000
set_option maxHeartbeats 2000000
namespace Go.Proofs.YtaapnkoooofalaaGreat
namespace Mn
open Go Go.RowKit Tr
structure Qd where
  a:Value
  b:Value
  c:Value
  d:Value
instance:Inhabited Qd:=⟨⟨default,default,default,default⟩⟩
def Own4 (w:World) (g:Nat) (e:TypeId) (cap:Nat) (ys:List Qd):Prop:=
  ∃ cur:Array Value,w.heap[g]?=some (.cells cur e (0,0))∧cur.size=cap*4∧ys.length≤cap∧∀ j (h:j<ys.length),cur[j*4]?=some ys[j].a∧cur[j*4+1]?=some ys[j].b∧cur[j*4+2]?=some ys[j].c∧cur[j*4+3]?=some ys[j].d
theorem Own4.lt {w:World} {g cap:Nat} {e:TypeId} {ys:List Qd} (h:Own4 w g e cap ys):g<w.heap.size:=z5t h.choose_spec.1
theorem Own4.len {w:World} {g cap:Nat} {e:TypeId} {ys:List Qd} (h:Own4 w g e cap ys):ys.length≤cap:=h.choose_spec.2.2.1
theorem Own4.cell {w:World} {g cap:Nat} {e:TypeId} {ys:List Qd} (h:Own4 w g e cap ys) (j:Nat) (hj:j<ys.length):w.cell? ⟨g,j*4,none⟩=some ys[j].a∧w.cell? ⟨g,j*4+1,none⟩=some ys[j].b∧w.cell? ⟨g,j*4+2,none⟩=some ys[j].c∧w.cell? ⟨g,j*4+3,none⟩=some ys[j].d:=by
  obtain ⟨cur,hg,_,_,hc⟩:=h;obtain ⟨h0,h1,h2,h3⟩:=hc j hj;simp [World.cell?,hg,h0,h1,h2,h3]
theorem Own4.soft {w:World} {g cap:Nat} {e:TypeId} {ys:List Qd} (h:Own4 w g e cap ys) (j:Nat):w.frozen? ⟨g,j,none⟩=false:=by
  obtain ⟨cur,hg,_⟩:=h;simp [World.frozen?,hg]
theorem Own4.there {w:World} {g cap:Nat} {e:TypeId} {ys:List Qd} (h:Own4 w g e cap ys) (j:Nat) (hj:j<cap*4):(w.cell? ⟨g,j,none⟩).isSome=true:=by
  obtain ⟨cur,hg,hs,_⟩:=h;simp [World.cell?,hg,hs,hj]
theorem Own4.block {w w':World} {g cap:Nat} {e:TypeId} {ys:List Qd} (h:Own4 w g e cap ys) (hb:w'.heap[g]?=w.heap[g]?):Own4 w' g e cap ys:=by
  obtain ⟨cur,hg,hr⟩:=h;exact ⟨cur,by rw [hb,hg],hr⟩
theorem Own4.below {w w':World} {g cap:Nat} {e:TypeId} {ys:List Qd} (h:Own4 w g e cap ys) (hb:Below w.heap.size w w'):Own4 w' g e cap ys:=h.block (hb.block g h.lt)
theorem set4 (cur:Array Value) (o:Nat) (a b c d:Value) (i:Nat) :
    ((((cur.setIfInBounds o a).setIfInBounds (o+1) b).setIfInBounds (o+2) c).setIfInBounds (o+3) d)[i]?=if i=o+3 then (if i<cur.size then some d else none) else if i=o+2 then (if i<cur.size then some c else none) else if i=o+1 then (if i<cur.size then some b else none) else if i=o then (if i<cur.size then some a else none) else cur[i]?:=by
  simp only [Array.getElem?_setIfInBounds,Array.size_setIfInBounds]
  repeat' split
  all_goals first | rfl | omega | (exfalso; omega)
theorem Own4.store {w:World} {g cap:Nat} {e:TypeId} {ys:List Qd} (h:Own4 w g e cap ys) (k:Nat) (hk:k<ys.length) (a b c d:Value) :
    Own4 ((((w.setCell ⟨g,k*4,none⟩ a).setCell ⟨g,k*4+1,none⟩ b).setCell ⟨g,k*4+2,none⟩ c).setCell ⟨g,k*4+3,none⟩ d) g e cap (ys.set k ⟨a,b,c,d⟩):=by
  obtain ⟨cur,hg,hs,hl,hc⟩:=h;refine ⟨(((cur.setIfInBounds (k*4) a).setIfInBounds (k*4+1) b).setIfInBounds (k*4+2) c).setIfInBounds (k*4+3) d,?_,by simpa using hs,by simpa using hl,fun j hj=>?_⟩
  · simp [heap_setCell,hg]
  · have hj':j<ys.length:=by simpa using hj
    simp only [set4]
    by_cases hjk:k=j
    · subst hjk;simp only [List.getElem_set_self];refine ⟨?_,?_,?_,?_⟩
      · rw [if_neg (by omega),if_neg (by omega),if_neg (by omega),if_pos trivial,if_pos (by omega)]
      · rw [if_neg (by omega),if_neg (by omega),if_pos trivial,if_pos (by omega)]
      · rw [if_neg (by omega),if_pos trivial,if_pos (by omega)]
      · rw [if_pos trivial,if_pos (by omega)]
    · rw [List.getElem_set_ne hjk];have:=hc j hj';refine ⟨?_,?_,?_,?_⟩
      · rw [if_neg (by omega),if_neg (by omega),if_neg (by omega),if_neg (by omega)]; exact this.1
      · rw [if_neg (by omega),if_neg (by omega),if_neg (by omega),if_neg (by omega)]; exact this.2.1
      · rw [if_neg (by omega),if_neg (by omega),if_neg (by omega),if_neg (by omega)]; exact this.2.2.1
      · rw [if_neg (by omega),if_neg (by omega),if_neg (by omega),if_neg (by omega)]; exact this.2.2.2
theorem Own4.setOut {g cap:Nat} {e:TypeId} {ys:List Qd}:∀ (vs:List Value) (o:Nat) (w:World),Own4 w g e cap ys→ys.length*4≤o→Own4 (w.setCells g o vs) g e cap ys
  | [],_,_,h,_=>h
  | v::vs,o,w,h,ho=>by
    refine Own4.setOut vs (o+1) _ ?_ (by omega);obtain ⟨cur,hg,hs,hl,hc⟩:=h;refine ⟨cur.setIfInBounds o v,?_,by simpa using hs,hl,fun j hj=>?_⟩
    · simp [heap_setCell,hg]
    · rw [Array.getElem?_setIfInBounds,if_neg (by omega),Array.getElem?_setIfInBounds,if_neg (by omega),Array.getElem?_setIfInBounds,if_neg (by omega),Array.getElem?_setIfInBounds,if_neg (by omega)];exact hc j hj
theorem Own4.take {w:World} {g cap:Nat} {e:TypeId} {ys:List Qd} (h:Own4 w g e cap ys) (n:Nat):Own4 w g e cap (ys.take n):=by
  obtain ⟨cur,hg,hs,hl,hc⟩:=h;refine ⟨cur,hg,hs,by simp; omega,fun j hj=>?_⟩;have hj':j<ys.length:=by simp at hj; omega
  rw [List.getElem_take];exact hc j hj'
theorem y3t (w:World) (g o:Nat) (a b c d:Value):w.grownBy ((((w.setCell ⟨g,o,none⟩ a).setCell ⟨g,o+1,none⟩ b).setCell ⟨g,o+2,none⟩ c).setCell ⟨g,o+3,none⟩ d) (some g):=
  z0c (z0c (z0n _ _ _ _) (z0n _ _ _ _)) (z0c (z0n _ _ _ _) (z0n _ _ _ _))
def flat4:List Qd→List Value
  | []=>[]
  | y::ys=>y.a::y.b::y.c::y.d::flat4 ys
theorem y0a:∀ ys:List Qd,(flat4 ys).length=ys.length*4
  | []=>rfl
  | y::ys=>by simp [flat4,y0a ys]; omega
theorem z6r:∀ (ys:List Qd) (j:Nat) (h:j<ys.length),(flat4 ys)[j*4]?=some ys[j].a∧(flat4 ys)[j*4+1]?=some ys[j].b∧(flat4 ys)[j*4+2]?=some ys[j].c∧(flat4 ys)[j*4+3]?=some ys[j].d
  | y::ys,0,_=>⟨rfl,rfl,rfl,rfl⟩
  | y::ys,j+1,h=>by
    have:=z6r ys j (by simpa using h);rw [show (j+1)*4=j*4+1+1+1+1 by omega]
    simpa [flat4] using this
theorem x1i:∀ (n:Nat) (cs:List Value),cs.length=n*4→∃ ys:List Qd,ys.length=n∧flat4 ys=cs
  | 0,cs,h=>⟨[],rfl,(List.eq_nil_of_length_eq_zero (by omega)).symm⟩
  | n+1,[],h=>by simp at h
  | n+1,[a],h=>by simp at h; omega
  | n+1,[a,b],h=>by simp at h; omega
  | n+1,[a,b,c],h=>by simp at h; omega
  | n+1,a::b::c::d::cs,h=>by
    obtain ⟨ys,h1,h2⟩:=x1i n cs (by simp at h; omega);exact ⟨⟨a,b,c,d⟩::ys,by simp [h1],by simp [flat4,h2]⟩
theorem Own4.owns {w:World} {g cap base:Nat} {e:TypeId} {ys:List Qd} (h:Own4 w g e cap ys) (hb:base≤g) (hm:cap≤maxLen):w.ownsRow base e 4 (.slice (some ⟨g,0,none⟩) ys.length cap) ys.length (flat4 ys):=by
  obtain ⟨cur,hg,hs,hl,hc⟩:=h;refine ⟨y0a ys,.inr ⟨g,cap,cur,rfl,hb,hg,hl,hm,hs,?_⟩⟩;refine List.ext_getElem? fun i=>?_
  rw [List.getElem?_take]
  by_cases hi:i<ys.length*4
  · rw [if_pos hi,Array.getElem?_toList];have hi2:i / 4<ys.length:=by omega
    have h1:=hc (i / 4) hi2;have h2:=z6r ys (i / 4) hi2;have hm4:i=i / 4*4∨i=i / 4*4+1∨i=i / 4*4+2∨i=i / 4*4+3:=by omega
    rcases hm4 with e2 | e2 | e2 | e2
    · rw [e2,h1.1,h2.1]
    · rw [e2,h1.2.1,h2.2.1]
    · rw [e2,h1.2.2.1,h2.2.2.1]
    · rw [e2,h1.2.2.2,h2.2.2.2]
  · rw [if_neg hi,List.getElem?_eq_none (by rw [y0a]; omega)]
theorem Own4.of {w:World} {g cap base n:Nat} {e:TypeId} {cs:List Value} (h:w.ownsRow base e 4 (.slice (some ⟨g,0,none⟩) n cap) n cs):∃ ys,flat4 ys=cs∧ys.length=n∧Own4 w g e cap ys∧base≤g∧cap≤maxLen:=by
  obtain ⟨hl,⟨h0,_⟩ | ⟨g',cap',cur,hv,hb,hg,hn,hm,hs,ht⟩⟩:=h
  · cases h0
  · cases hv
    obtain ⟨ys,h1,h2⟩:=x1i n cs hl;refine ⟨ys,h2,h1,⟨cur,hg,hs,by omega,fun j hj=>?_⟩,hb,hm⟩;have h3:=z6r ys j hj;rw [h2,← ht,List.getElem?_take,if_pos (by omega),List.getElem?_take,if_pos (by omega),List.getElem?_take,if_pos (by omega),List.getElem?_take,if_pos (by omega),Array.getElem?_toList,Array.getElem?_toList,Array.getElem?_toList,Array.getElem?_toList] at h3;exact h3
end Mn
namespace Rw
open Go Go.RowKit
theorem str_ne {s:ByteArray} {l:List UInt8} (h:¬ s=⟨l.toArray⟩):(l==s.toList)=false:=by
  rw [beq_eq_false_iff_ne];intro e
  apply h
  have:s.data.toList=s.toList:=(ByteArray.toList_eq s).symm;rw [← this] at e
  cases s with
  | mk d=>simp at e; subst e; rfl
theorem z4m {s:ByteArray} {l:List UInt8} (h:¬ s=⟨l.toArray⟩):(s.toList==l)=false:=by
  have:=str_ne h;rw [beq_eq_false_iff_ne] at this ⊢;exact fun e=>this e.symm
def w1:ByteArray:=⟨#[115,107,105,112]⟩
def w2:ByteArray:=⟨#[116,104,114,111,119]⟩
def w3:ByteArray:=⟨#[121,105,101,108,100]⟩
def w4:ByteArray:=⟨#[115,107,105,112,112]⟩
def w5:ByteArray:=⟨#[116,104,114,111,119,119]⟩
def w6:ByteArray:=⟨#[121,105,101,108,100,100]⟩
def wordB (s:ByteArray):Bool:=decide (s=w1∨s=w2∨s=w3∨s=w4∨s=w5∨s=w6)
def low (l:List UInt8):Bool:=l.all fun c=>decide (97≤c.toNat)&&decide (c.toNat≤122)
theorem x0t (s:ByteArray) (k:Nat) (h:k<s.size):low (s.data.toList.take (k+1))=(low (s.data.toList.take k)&&(decide (97≤s[k].toNat)&&decide (s[k].toNat≤122))):=by
  unfold low;rw [List.take_succ_eq_append_getElem (by simpa using h),List.all_append];simp
  rfl
theorem low_no {s:ByteArray} {k:Nat} (h:k<s.size) (hb:(decide (97≤s[k].toNat)&&decide (s[k].toNat≤122))=false):low s.data.toList=false:=by
  have:=x0t s k h;rw [hb,Bool.and_false] at this;unfold low at this ⊢;rw [List.all_eq_false] at this ⊢;obtain ⟨x,hx,hn⟩:=this;exact ⟨x,List.mem_of_mem_take hx,hn⟩
def rgt (x:Nd):Bool:=
  if ar x.k<0 then false
  else if x.k=1 then low x.n.data.toList&&(decide (1≤x.n.size)&&decide (x.n.size≤8))&&(x.s==0)&&!wordB x.n
  else if x.k=11∨x.k=14 then decide (x.n.size=0)&&(decide (1≤x.s)&&decide (x.s≤3))
  else decide (x.n.size=0)&&(x.s==0)
theorem y2s (n:ByteArray) (s:Int):rgt ⟨1,n,s⟩=(low n.data.toList&&(decide (1≤n.size)&&decide (n.size≤8))&&(s==0)&&!wordB n):=by
  unfold rgt;rw [if_neg (show ¬ ar 1<0 from by decide),if_pos rfl]
theorem z3u {k:Int} (n:ByteArray) (s:Int) (h:k=11∨k=14):rgt ⟨k,n,s⟩=(decide (n.size=0)&&(decide (1≤s)&&decide (s≤3))):=by
  unfold rgt;rw [if_neg (show ¬ ar k<0 from by rcases h with rfl | rfl <;> decide),if_neg (show ¬ k=1 from by omega),if_pos h]
theorem z9c {k:Int} (n:ByteArray) (s:Int) (h0:¬ ar k<0) (h1:¬ k=1) (h:¬ (k=11∨k=14)):rgt ⟨k,n,s⟩=(decide (n.size=0)&&(s==0)):=by
  unfold rgt;rw [if_neg h0,if_neg h1,if_neg h]
theorem z6t {n:ByteArray} (h:n.size=0):n=⟨#[]⟩:=by
  obtain ⟨d⟩:=n;have:d=#[]:=Array.eq_empty_of_size_eq_zero h;rw [this]
theorem x7l {n:ByteArray} (h:¬ n.size=0):(n.toList==[])=false:=z4m (l:=[]) fun e=>h (by rw [e]; rfl)
theorem x4c (v:Value) (l:List Nd) (w:World) (h:Nds w v l) (hl:l.length≤1000000) :
    Calls Tryz.prog 21 #[v] w fun e w'=>e=.returned (.int .i64 (depth l))∧w=w':=by
  have HD:Hid ((depth l:Int)=dp (T l)):=by
    show (depth l:Int)=_
    unfold depth
    cases T l with
    | none=>rfl
    | some x=>rfl
  have H:=Lib.hid h;obtain ⟨_,a,cap,rfl,-⟩:=h;rw [HD.out];obtain ⟨r,hr⟩:∃ r,T l=r:=⟨_,rfl⟩
  rw [hr];have HT:=Lib.hid hr;clear hr HD;obtain ⟨x,hx⟩:∃ x,nx 0 r=x:=⟨_,rfl⟩
  obtain ⟨y,hy⟩:∃ y,dp r=y:=⟨_,rfl⟩
  have HX:=Lib.hid hx;have HY:=Lib.hid hy;rw [hy];clear hx hy
  go_enter Tryz.func21,Tryz.ntmps21
  go_wp2_with fail;refine (walk_any _ l 0 _ H.out hl (Nat.zero_le _)).mono ?_;unfold WalkPost;rw [List.drop_zero,HT.out,HX.out,HY.out];rintro e w' ⟨rfl,rfl⟩;go_wp2_with fail;go_ret;exact ⟨rfl,rfl⟩
end Rw
namespace Rx
open Go Go.RowKit Rw
theorem z6x (k:Int) (w:World):Calls Tryz.prog 81 #[.int .i64 k] w fun e w'=>e=.returned (.int .i64 (ar k))∧w=w':=by
  rcases y4c k with rfl | rfl | rfl | rfl | rfl | rfl | rfl | rfl | rfl | rfl | rfl | rfl | rfl | rfl | h
  case inr.inr.inr.inr.inr.inr.inr.inr.inr.inr.inr.inr.inr.inr=>
    have hr:=Lib.hid (ar_no h);obtain ⟨h1,h2,h3,h4,h5,h6,h7,h8,h9,h10,h11,h12,h13,h14⟩:=h;have b1:(k==1)=false:=by simp [h1]
    have b2:(k==2)=false:=by simp [h2]
    have b3:(k==3)=false:=by simp [h3]
    have b4:(k==4)=false:=by simp [h4]
    have b5:(k==5)=false:=by simp [h5]
    have b6:(k==6)=false:=by simp [h6]
    have b7:(k==7)=false:=by simp [h7]
    have b8:(k==8)=false:=by simp [h8]
    have b9:(k==9)=false:=by simp [h9]
    have b10:(k==10)=false:=by simp [h10]
    have b11:(k==11)=false:=by simp [h11]
    have b12:(k==12)=false:=by simp [h12]
    have b13:(k==13)=false:=by simp [h13]
    have b14:(k==14)=false:=by simp [h14]
    clear h1 h2 h3 h4 h5 h6 h7 h8 h9 h10 h11 h12 h13 h14
    go_enter Tryz.func81,Tryz.ntmps81
    go_wp2_with fail;go_ret;exact ⟨ret_int hr.out.symm,rfl⟩
  all_goals
    go_enter Tryz.func81,Tryz.ntmps81
    go_wp2_with fail;go_ret;exact ⟨rfl,rfl⟩
end Rx
namespace Tr
open Go Go.RowKit
theorem y0j (v1 v2:Value) (p q:Tr) (w:World) (h1:Strs w v1 p.a) (h2:Strs w v2 q.a) (hl:p.a.length≤1000000000000) (hm:q.a.length≤1000000000000) :
    Calls Tryz.prog 43 #[.agg #[v1,.int .i64 p.e],.agg #[v2,.int .i64 q.e]] w fun e w'=>e=.returned (.int .i64 (cmp p q))∧Below w.heap.size w w':=by
  have HB:Hid (∀ x y:Obj,Below w.heap.size w ((w.alloc x).alloc y)):=fun x y=>((Below.refl _ _).alloc (Nat.le_refl _) x).alloc (by simp) y
  have H1:=Lib.hid h1;have H2:=Lib.hid h2;clear h1 h2;obtain ⟨x,hx⟩:∃ x,row p.a q.a=x:=⟨_,rfl⟩
  have hbd:=row_bd p.a q.a;rw [hx] at hbd;obtain ⟨c,hc⟩:∃ c,cmp p q=c:=⟨_,rfl⟩
  have hc':=hc;unfold cmp at hc';rw [hx] at hc';rw [hc];have HX:=Lib.hid hx;clear hx hc
  by_cases c1:x<0
  · have b1:(x==0)=false:=by rw [beq_eq_false_iff_ne]; omega
    rw [if_pos c1] at hc';subst hc'
    go_enter Tryz.func43,Tryz.ntmps43
    go_wp2_with fail;refine (z9b _ _ p.a q.a _ (H1.out.below (HB.out _ _)) (H2.out.below (HB.out _ _)) hl hm).mono ?_;rw [HX.out];rintro e w' ⟨rfl,n,rfl⟩;go_wp2_with fail;go_ret;exact ⟨rfl,(HB.out _ _).trans (Below.drewN _ _ _)⟩
  rw [if_neg c1] at hc'
  by_cases c2:0<x
  · have b1:(x==0)=false:=by rw [beq_eq_false_iff_ne]; omega
    rw [if_pos c2] at hc';subst hc'
    go_enter Tryz.func43,Tryz.ntmps43
    go_wp2_with fail;refine (z9b _ _ p.a q.a _ (H1.out.below (HB.out _ _)) (H2.out.below (HB.out _ _)) hl hm).mono ?_;rw [HX.out];rintro e w' ⟨rfl,n,rfl⟩;go_wp2_with fail;go_ret;exact ⟨rfl,(HB.out _ _).trans (Below.drewN _ _ _)⟩
  rw [if_neg c2] at hc';obtain rfl:x=0:=by omega
  by_cases c3:p.e<q.e
  · have d1:decide (p.e<q.e)=true:=by simpa using c3
    rw [if_pos c3] at hc';subst hc'
    go_enter Tryz.func43,Tryz.ntmps43
    go_wp2_with fail;refine (z9b _ _ p.a q.a _ (H1.out.below (HB.out _ _)) (H2.out.below (HB.out _ _)) hl hm).mono ?_;rw [HX.out];rintro e w' ⟨rfl,n,rfl⟩;go_wp2_with fail;go_ret;exact ⟨rfl,(HB.out _ _).trans (Below.drewN _ _ _)⟩
  rw [if_neg c3] at hc';have d1:decide (p.e<q.e)=false:=by simpa using c3
  by_cases c4:q.e<p.e
  · have d2:decide (q.e<p.e)=true:=by simpa using c4
    rw [if_pos c4] at hc';subst hc'
    go_enter Tryz.func43,Tryz.ntmps43
    go_wp2_with fail;refine (z9b _ _ p.a q.a _ (H1.out.below (HB.out _ _)) (H2.out.below (HB.out _ _)) hl hm).mono ?_;rw [HX.out];rintro e w' ⟨rfl,n,rfl⟩;go_wp2_with fail;go_ret;exact ⟨rfl,(HB.out _ _).trans (Below.drewN _ _ _)⟩
  · rw [if_neg c4] at hc';have d2:decide (q.e<p.e)=false:=by simpa using c4
    subst hc'
    go_enter Tryz.func43,Tryz.ntmps43
    go_wp2_with fail;refine (z9b _ _ p.a q.a _ (H1.out.below (HB.out _ _)) (H2.out.below (HB.out _ _)) hl hm).mono ?_;rw [HX.out];rintro e w' ⟨rfl,n,rfl⟩;go_wp2_with fail;go_ret;exact ⟨rfl,(HB.out _ _).trans (Below.drewN _ _ _)⟩
end Tr
namespace Rw
open Go Go.RowKit
def Nms (l:List Nd):Prop:=∀ x∈l,x.n.size≤140737488355328
def whole (l:List Nd):Bool:=l.all rgt&&(decide (1≤l.length)&&decide (l.length≤200))&&decide (size l=l.length)
theorem Below.drewN (B n:Nat) (w:World):Below B w (w.drewN n):=by
  induction n with
  | zero=>exact Below.refl _ _
  | succ n ih=>exact ih.drew
def cnt (l:List Nd) (ks:List Int):Nat:=l.countP fun x=>decide (x.k∈ks)
def Ints (w:World) (v:Value) (l:List Int):Prop:=Ap.Rd w 1 v l.length (l.map (.int .i64))
theorem Ints.below {w w':World} {v:Value} {l:List Int} (h:Ints w v l) (hb:Below w.heap.size w w'):Ints w' v l:=Ap.Rd.below h hb
def AtI (w:World) (b off:Nat) (l:List Int):Prop:=∀ k,(h:k<l.length)→w.cell? ⟨b,off+k,none⟩=some (.int .i64 l[k])
theorem Ints.form {w:World} {v:Value} {l:List Int} (h:Ints w v l) :
    (l=[]∧∃ a cap,v=.slice a 0 cap)∨∃ b off cap,v=.slice (some ⟨b,off,none⟩) l.length cap∧l.length≤cap∧AtI w b off l:=by
  obtain ⟨_,a,cap,rfl,hle,_,hcell⟩:=h
  by_cases h0:0<l.length
  · obtain ⟨b,off,rfl,hj⟩:=hcell h0;exact Or.inr ⟨b,off,cap,rfl,hle,fun k hk=>hj _ _ (by rw [List.getElem?_map,List.getElem?_eq_getElem hk]; rfl)⟩
  · have:l=[]:=List.eq_nil_of_length_eq_zero (by omega);subst this;exact Or.inl ⟨rfl,a,cap,rfl⟩
end Rw
namespace Tr
open Go Go.RowKit
def TrCells (w:World):List Value→List Tr→Prop
  | [],[]=>True
  | a::e::cs,t::ts=>Strs w a t.a∧e=.int .i64 t.e∧TrCells w cs ts
  | _,_=>False
def Trs (w:World) (v:Value) (ts:List Tr):Prop:=∃ cs,Ap.Rd w 2 v ts.length cs∧TrCells w cs ts
theorem TrCells.below {w w':World} (hb:Below w.heap.size w w'):∀ {cs:List Value} {ts:List Tr},TrCells w cs ts→TrCells w' cs ts
  | [],[],_=>trivial
  | _::_::_,_::_,h=>⟨h.1.below hb,h.2.1,TrCells.below hb h.2.2⟩
  | [],_::_,h=>h.elim
  | [_],[],h=>h.elim
  | [_],_::_,h=>h.elim
  | _::_::_,[],h=>h.elim
theorem Trs.below {w w':World} {v:Value} {ts:List Tr} (h:Trs w v ts) (hb:Below w.heap.size w w'):Trs w' v ts:=by
  obtain ⟨cs,h1,h2⟩:=h;exact ⟨cs,h1.below hb,h2.below hb⟩
theorem TrCells.at {w:World}:∀ {cs:List Value} {ts:List Tr},TrCells w cs ts→∀ k (hk:k<ts.length),∃ a,cs[2*k]?=some a∧cs[2*k+1]?=some (.int .i64 ts[k].e)∧Strs w a ts[k].a
  | [],[],_,k,hk=>by simp at hk
  | a::e::cs,t::ts,h,0,_=>⟨a,rfl,by simp [h.2.1],h.1⟩
  | a::e::cs,t::ts,h,k+1,hk=>by
    obtain ⟨x,h1,h2,h3⟩:=TrCells.at h.2.2 k (by simpa using hk);refine ⟨x,?_,?_,h3⟩
    · rw [show 2*(k+1)=2*k+1+1 by omega]; simpa using h1
    · rw [show 2*(k+1)+1=2*k+1+1+1 by omega]; simpa using h2
  | [],_::_,h,_,_=>h.elim
  | [_],[],h,_,_=>h.elim
  | [_],_::_,h,_,_=>h.elim
  | _::_::_,[],h,_,_=>h.elim
theorem Trs.form {w:World} {v:Value} {ts:List Tr} (h:Trs w v ts) :
    (ts=[]∧∃ a cap,v=.slice a 0 cap)∨∃ b off cap,v=.slice (some ⟨b,off,none⟩) ts.length cap∧
      ∀ k,(hk:k<ts.length)→∃ a,w.cell? ⟨b,off+2*k,none⟩=some a∧w.cell? ⟨b,off+2*k+1,none⟩=some (.int .i64 ts[k].e)∧Strs w a ts[k].a:=by
  obtain ⟨cs,⟨_,a,cap,rfl,_,_,hcell⟩,hc⟩:=h
  by_cases h0:0<ts.length
  · obtain ⟨b,off,rfl,hj⟩:=hcell h0;refine Or.inr ⟨b,off,cap,rfl,fun k hk=>?_⟩;obtain ⟨x,h1,h2,h3⟩:=hc.at k hk;exact ⟨x,hj _ _ h1,by rw [Nat.add_assoc]; exact hj _ _ h2,h3⟩
  · have:ts=[]:=List.eq_nil_of_length_eq_zero (by omega);subst this;exact Or.inl ⟨rfl,a,cap,rfl⟩
def Few (ts:List Tr):Prop:=ts.length≤1000000000000∧∀ t∈ts,t.a.length≤1000000000000
end Tr
end Go.Proofs.YtaapnkoooofalaaGreat
namespace Go.Proofs.YtaapnkoooofalaaGreat.Rw
open Go Go.RowKit Go.ChangeShapes Go.WideShapes
set_option maxRecDepth 100000
section
variable {H:Type} {enc:TypeId × Value→H} {P:Program} {w:World}
def nodeD (x:Nd):DataW H:=.agg [.lit (.int .i64 x.k),.lit (.string x.n.data.toList),.lit (.int .i64 x.s)]
theorem nd_of {held:Bool} {fuel:Nat} {t ti ts tj:TypeId} {f0 f1 f2:Field} {cs:List Value} {x:DataW H × List MemPlace} (ut:P.underlying t=some (.struct #[f0,f1,f2])) (ct:P.cellsOf t=3) (h0:f0.type=ti) (o0:f0.offset=0) (h1:f1.type=ts) (o1:f1.offset=1) (h2:f2.type=tj) (o2:f2.offset=2)
    (ui:P.underlying ti=some (.int .i64)) (ci:P.cellsOf ti=1) (us:P.underlying ts=some .string) (cs1:P.cellsOf ts=1) (uj:P.underlying tj=some (.int .i64)) (cj:P.cellsOf tj=1)
    (h:DataW.trod enc P w 0 (fun _=>true) held fuel t cs=some x):∃ n:Nd,cs=cl n∧x.1=nodeD n:=by
  obtain ⟨y0,y1,y2,n,rfl,hl,hy0,hy1,hy2⟩:=Deep.trod_struct3 ut h;rw [ct] at hl
  match cs,hl with
  | [a,b,c],_=>
    rw [h0,o0,ci] at hy0;rw [h1,o1,cs1] at hy1;rw [h2,o2,cj] at hy2;obtain ⟨k,e1,e2,_⟩:=DataW.trod_int ui hy0;obtain ⟨s,e3,e4,_⟩:=DataW.trod_string us hy1;obtain ⟨j,e5,e6,_⟩:=DataW.trod_int uj hy2;have e1':a=.int .i64 k:=by simpa using e1
    have e3':b=.string s:=by simpa using e3
    have e5':c=.int .i64 j:=by simpa using e5
    subst e1' e3' e5';exact ⟨⟨k,s,j⟩,rfl,by simp [nodeD,e2,e4,e6]⟩
def nodesD (l:List Nd) (d:DataW H):Prop:=(l=[]∧d=.nil)∨∃ sp:List (DataW H),d=.slice (l.map nodeD) sp
theorem trip_at (f:Nat→Nd):∀ (n j:Nat) (u:Value),(cls ((List.range n).map f))[j]?=some u→∃ i k,i<n∧k<3∧j=i*3+k∧(cl (f i))[k]?=some u:=by
  intro n j u hu;have hlen:(cls ((List.range n).map f)).length=n*3:=by rw [z2h]; simp
  have hj:j<n*3:=by
    have:=(List.getElem?_eq_some_iff.1 hu).1;omega
  have hk:j / 3<((List.range n).map f).length:=by simp; omega
  obtain ⟨h1,h2,h3⟩:=x1r _ (j / 3) hk;have hx:((List.range n).map f)[j / 3]=f (j / 3):=by simp
  rw [hx] at h1 h2 h3;have hr:j % 3=0∨j % 3=1∨j % 3=2:=by omega
  rcases hr with hr | hr | hr
  · rw [← show j=j / 3*3 by omega] at h1;exact ⟨j / 3,0,by omega,by omega,by omega,by rw [← hu,h1]; rfl⟩
  · rw [← show j=j / 3*3+1 by omega] at h2;exact ⟨j / 3,1,by omega,by omega,by omega,by rw [← hu,h2]; rfl⟩
  · rw [← show j=j / 3*3+2 by omega] at h3;exact ⟨j / 3,2,by omega,by omega,by omega,by rw [← hu,h3]; rfl⟩
theorem nds_of {held:Bool} {fuel:Nat} {tt t ti ts tj:TypeId} {f0 f1 f2:Field} {v:Value} {x:DataW H × List MemPlace} (utt:P.underlying tt=some (.slice t)) (ut:P.underlying t=some (.struct #[f0,f1,f2])) (ct:P.cellsOf t=3) (h0:f0.type=ti) (o0:f0.offset=0) (h1:f1.type=ts) (o1:f1.offset=1) (h2:f2.type=tj) (o2:f2.offset=2)
    (ui:P.underlying ti=some (.int .i64)) (ci:P.cellsOf ti=1) (us:P.underlying ts=some .string) (cs1:P.cellsOf ts=1) (uj:P.underlying tj=some (.int .i64)) (cj:P.cellsOf tj=1)
    (h:DataW.trod enc P w 0 (fun _=>true) held fuel tt [v]=some x):∃ l:List Nd,Nds w v l∧nodesD l x.1:=by
  rcases Deep.open_slice utt h with ⟨hcs,rfl⟩ | ⟨a,len,cap,m,n,D,Pl,hcs,_,hl,hm,hmm,rfl,hel⟩
  · cases hcs
    exact ⟨[],⟨rfl,none,0,rfl,Nat.le_refl _,fun _=>⟨rfl,rfl⟩,fun h=>absurd h (by simp)⟩,.inl ⟨rfl,rfl⟩⟩
  · cases hcs
    have hm':m=cap:=by simpa using hmm
    subst hm';rw [ct] at hel
    obtain ⟨F,hF⟩:∃ F:Nat→Nd,∀ i,i<len→w.cells? 0 (a.add (i*3)) 3=some (cl (F i))∧D i=nodeD (F i):=by
      haveI:Inhabited Nd:=⟨⟨0,⟨#[]⟩,0⟩⟩
      refine Deep.choose_lt (α:=Nd) (p:=fun i z=>w.cells? 0 (a.add (i*3)) 3=some (cl z)∧D i=nodeD z) fun i hi=>?_
      obtain ⟨cs',hc,ht⟩:=hel i (by omega);obtain ⟨z,rfl,hz⟩:=nd_of ut ct h0 o0 h1 o1 h2 o2 ui ci us cs1 uj cj ht;exact ⟨z,hc,hz⟩
    have hlen:((List.range len).map F).length=len:=by simp
    refine ⟨(List.range len).map F,⟨z2h _,some a,m,by rw [hlen],by omega,fun h=>(by cases h),fun hp=>?_⟩,.inr ⟨(List.range (m-len)).map fun j=>D (len+j),?_⟩⟩
    · rw [hlen] at hp;obtain ⟨b,off,spot⟩:=a;have hc0:=(World.cells?_some (hF 0 hp).1).2.2 0 (by omega)
      have hspot:spot=none:=by
        have:=hc0;simp [Addr.add,cl] at this;exact World.cell?_spot this
      subst hspot;refine ⟨b,off,rfl,fun j u hu=>?_⟩;obtain ⟨i,k,hi,hk,rfl,hu'⟩:=trip_at F len j u hu;have hc:=(World.cells?_some (hF i hi).1).2.2 k hk;rw [hu'] at hc
      simpa [Addr.add_lit,Nat.add_assoc] using hc
    · have e:(List.range len).map D=((List.range len).map F).map nodeD:=by
        rw [List.map_map];exact List.map_congr_left fun i hi=>(hF i (List.mem_range.1 hi)).2
      simp only [e]
theorem x2b {e:TypeId} {q:Nat→Bool}:∀ {l:List (DataW H)},(DataW.weightsAll P e l).all q=true→∀ d∈l,(d.weights P e).all q=true
  | [],_,d,hd=>by cases hd
  | x::l,h,d,hd=>by
    have h':(DataW.weights P e x++DataW.weightsAll P e l).all q=true:=h;rw [List.all_append,Bool.and_eq_true] at h'
    rcases List.mem_cons.1 hd with rfl | hd
    · exact h'.1
    · exact x2b h'.2 d hd
theorem nd_reach {t:TypeId} {f0 f1 f2:Field} (ut:P.underlying t=some (.struct #[f0,f1,f2])) {x:Nd} (h:((nodeD x:DataW H).weights P t).all (·≤reachBytes)=true):x.n.size≤140737488355328:=by
  unfold nodeD at h;rw [DataW.weights,ut] at h;have h':(DataW.weights P f0.type (.lit (.int .i64 x.k):DataW H)++(DataW.weights P f1.type (.lit (.string x.n.data.toList):DataW H)++DataW.weightsEach P [f2.type] [.lit (.int .i64 x.s)])).all (·≤reachBytes)=true:=h;rw [List.all_append,List.all_append,Bool.and_eq_true,Bool.and_eq_true] at h';have h1:([x.n.data.toList.length].all (·≤reachBytes))=true:=h'.2.1;have h2:x.n.data.toList.length=x.n.size:=by simp
  rw [h2] at h1;have h3:x.n.size≤reachBytes:=by simpa using h1
  unfold reachBytes at h3;omega
theorem x7r {tt t:TypeId} {f0 f1 f2:Field} (utt:P.underlying tt=some (.slice t)) (ut:P.underlying t=some (.struct #[f0,f1,f2])) {l:List Nd} {d:DataW H} (hd:nodesD l d) (h:(d.weights P tt).all (·≤reachBytes)=true):Nms l:=by
  rcases hd with ⟨rfl,_⟩ | ⟨sp,rfl⟩
  · intro p hp; cases hp
  · rw [DataW.weights,utt] at h;simp only [List.all_cons,List.all_append,Bool.and_eq_true] at h;intro x hx;exact nd_reach ut (x2b h.2.1 _ (List.mem_map.2 ⟨x,hx,rfl⟩))
theorem x2v {t:TypeId} {ts:List TypeId} {d:DataW H} {ds:List (DataW H)} (h:(DataW.weightsEach P (t::ts) (d::ds)).all (·≤reachBytes)=true):(d.weights P t).all (·≤reachBytes)=true∧(DataW.weightsEach P ts ds).all (·≤reachBytes)=true:=by
  have h':(DataW.weights P t d++DataW.weightsEach P ts ds).all (·≤reachBytes)=true:=h
  rwa [List.all_append,Bool.and_eq_true] at h'
end
theorem own:ownKnob Tryz.prog.godebug=none:=by kernel_rfl
theorem laidOut:laidOutB Tryz.prog=true:=by kernel_rfl
theorem cN:Tryz.prog.cellsOf 36=3:=by kernel_rfl
theorem cStr:Tryz.prog.cellsOf 9=1:=by kernel_rfl
theorem cInt:Tryz.prog.cellsOf 3=1:=by kernel_rfl
section
variable {H:Type} {enc:TypeId × Value→H} {W:World} {base:Nat} {v:Value} {d:DataW H} {p:List MemPlace}
theorem nds_arg (hok:Value.okWide Tryz.prog W .any base 22 v) (h:DataW.Trod enc Tryz.prog W 0 (fun _=>true) true 22 v d p) :
    ∃ l:List Nd,Nds W v l∧nodesD l d:=by
  obtain ⟨a,len,cap,rfl⟩:=okWide_slice Tryz.underlying22 hok;obtain ⟨fuel,hf⟩:=h;exact nds_of Tryz.underlying22 Tryz.underlying36 cN rfl rfl rfl rfl rfl rfl Tryz.underlying3 cInt Tryz.underlying9 cStr Tryz.underlying3 cInt hf
theorem nds_in {l:List Nd} (hd:nodesD l d) (h:(d.weights Tryz.prog 22).all (·≤reachBytes)=true):Nms l:=x7r Tryz.underlying22 Tryz.underlying36 hd h
end
end Go.Proofs.YtaapnkoooofalaaGreat.Rw
namespace Go.Proofs.YtaapnkoooofalaaGreat
namespace Rw
open Go Go.RowKit
theorem infoN:(Tryz.prog.info? 36).map (fun i=>(i.zero,i.size,i.bytes))=some (some (.agg #[.int .i64 0,.string ⟨#[]⟩,.int .i64 0]),3,32):=by kernel_rfl
theorem v0s {l:List Nd}:∀ u∈cls l,u.oneCell'=true:=by
  induction l with
  | nil=>intro u hu; cases hu
  | cons x l ih=>
    intro u hu;rw [cls,List.mem_append] at hu
    rcases hu with hu | hu
    · simp [cl] at hu
      rcases hu with rfl | rfl | rfl <;> rfl
    · exact ih u hu
theorem z5m {w:World} {base:Nat} {v x:Value} {l m:List Nd} (hown:w.ownsRow base 36 3 v l.length (cls l)) (hbase:base≤w.heap.size) (hx:Nds w x m) (hlen:l.length+m.length≤2000000) :
    ∃ v' w',(Builtin.append_ #[22,22] 22 #[v,x]).run Tryz.prog w=.ok v' w'∧w'.ownsRow base 36 3 v' (l++m).length (cls (l++m))∧w.grownBy w' v.ownBlock∧Below base w w'∧Ap.Fresh w v v':=by
  obtain ⟨i0,hi,hz,hs1,hb8⟩:=info_parts infoN
  obtain ⟨v',w',h1,h2,h3,h4,h5⟩:=Ap.z0t (P:=Tryz.prog) (ty:=22) Tryz.underlying22 hi hz hs1 hb8 (by rfl) (by omega) hown hbase hx
    v0s (by unfold maxLen; omega) (by omega)
  exact ⟨v',w',h1,by rw [z5i]; simpa using h2,h3,h4,h5⟩
abbrev nb (x:Nd):Obj:=.cells #[.int .i64 x.k,.string x.n,.int .i64 x.s] 36
theorem z0f (w:World) (x:Obj):Below w.heap.size w (w.alloc x):=(Below.refl _ _).alloc (Nat.le_refl _) _
def RwC (w:World):List Value→List (List Nd)→Prop
  | [],[]=>True
  | a::cs,r::rs=>Nds w a r∧RwC w cs rs
  | _,_=>False
theorem RwC.below {w w':World} (hb:Below w.heap.size w w'):∀ {cs:List Value} {ls:List (List Nd)},RwC w cs ls→RwC w' cs ls
  | [],[],_=>trivial
  | _::_,_::_,h=>⟨h.1.below hb,RwC.below hb h.2⟩
  | [],_::_,h=>h.elim
  | _::_,[],h=>h.elim
def Rws (w:World) (v:Value) (ls:List (List Nd)):Prop:=∃ cs,Ap.Rd w 1 v ls.length cs∧RwC w cs ls
theorem Rws.below {w w':World} {v:Value} {ls:List (List Nd)} (h:Rws w v ls) (hb:Below w.heap.size w w'):Rws w' v ls:=by
  obtain ⟨cs,h1,h2⟩:=h;exact ⟨cs,h1.below hb,h2.below hb⟩
theorem infoR:(Tryz.prog.info? 22).map (fun i=>(i.zero,i.size,i.bytes))=some (some (.slice none 0 0),1,24):=by kernel_rfl
theorem z3x {w:World} {b off:Nat} {l:List Nd} (h:At w b off l) (p n c:Nat) (hp:p+n≤l.length) (hn:n≤c):Nds w (.slice (some ⟨b,off+p*3,none⟩) n c) ((l.drop p).take n):=by
  have hlen:((l.drop p).take n).length=n:=by rw [List.length_take,List.length_drop]; omega
  unfold Nds;rw [hlen];refine ⟨by rw [z2h,hlen],_,c,rfl,hn,fun e=>(by cases e),fun _=>⟨b,off+p*3,rfl,fun j u hu=>?_⟩⟩
  have hj:j<n*3:=by
    have:=(List.getElem?_eq_some_iff.1 hu).1;rw [z2h,hlen] at this;exact this
  have hk:j / 3<((l.drop p).take n).length:=by rw [hlen]; omega
  obtain ⟨h1,h2,h3⟩:=x1r _ (j / 3) hk;have hkl:p+j / 3<l.length:=by omega
  have hx:((l.drop p).take n)[j / 3]=l[p+j / 3]:=by simp
  rw [hx] at h1 h2 h3;obtain ⟨g1,g2,g3⟩:=h (p+j / 3) hkl;have hr:j % 3=0∨j % 3=1∨j % 3=2:=by omega
  rcases hr with hr | hr | hr
  · have:j=j / 3*3:=by omega
    rw [← this,hu] at h1;rw [Option.some.inj h1,show off+p*3+j=off+(p+j / 3)*3 by omega];exact g1
  · have:j=j / 3*3+1:=by omega
    rw [← this,hu] at h2;rw [Option.some.inj h2,show off+p*3+j=off+(p+j / 3)*3+1 by omega];exact g2
  · have:j=j / 3*3+2:=by omega
    rw [← this,hu] at h3;rw [Option.some.inj h3,show off+p*3+j=off+(p+j / 3)*3+2 by omega];exact g3
theorem x8n {l:List Nd} {k p d c' d':Nat} (h:Far l 0 k p d) (ht:T (l.drop p)=some (c',d')):kidsN (k+1) (l.drop 1)=kidsN k (l.drop 1)++[(l.drop p).take c']:=by
  obtain ⟨c,hs,rfl⟩:=h;rw [Nat.zero_add] at hs ht;rw [kidsN,hs];simp only [Option.getD_some,List.drop_drop,Nat.zero_add];have:size (l.drop (1+c))=c':=by unfold size; rw [ht]
  rw [this]
theorem y5o {l:List Nd} {k p d:Nat} (h0:0<l.length) (hs:size l≠0) (h:Far l 0 k p d) (hk:(k:Int)<ar l[0].k):∃ c' d',T (l.drop p)=some (c',d'):=by
  cases ht:T (l.drop p) with
  | some x=>exact ⟨x.1,x.2,rfl⟩
  | none=>
    exfalso
    have h1:=h.stop ht;have hn:¬ ar l[0].k<0:=by omega
    have:=y4k (l:=l) (i:=0) h0 hn hk h1;rw [List.drop_zero] at this;exact hs (y9y.2 this)
theorem x8m {l:List Nd} (h0:0<l.length) (hs:size l≠0):kids l=kidsN (ar l[0].k).toNat (l.drop 1):=by
  cases l with
  | nil=>simp at h0
  | cons n r=>
    unfold kids;rw [if_neg hs]
    rfl
theorem z9k {x y:Nd}:x=y↔x.k=y.k∧x.n=y.n∧x.s=y.s:=by
  cases x; cases y; simp
theorem x9r (d:Nat) (x y:Nd) (w:World):(Op.equalIn (d+2) 36 (.agg #[.int .i64 x.k,.string x.n,.int .i64 x.s]) (.agg #[.int .i64 y.k,.string y.n,.int .i64 y.s])).run Tryz.prog w=.ok (decide (x=y)) w:=by
  rw [run_equalIn_struct w (d+1) _ _ _ (by kernel_rfl) (by kernel_rfl)];simp only [Program.fieldsOf,Tryz.underlying36]
  by_cases h1:x.k=y.k
  · by_cases h2:x.n=y.n
    · by_cases h3:x.s=y.s
      · rw [decide_eq_true (z9k.2 ⟨h1,h2,h3⟩),h1,h2,h3];simp [go_sem,Op.eqFields]
      · rw [decide_eq_false (fun e=>h3 (z9k.1 e).2.2),h1,h2];simp [go_sem,Op.eqFields,h3]
    · have e2:(x.n.toList==y.n.toList)=false:=by
        rw [ByteArray.toList_eq y.n];exact z4m fun e=>h2 (by rw [e])
      rw [decide_eq_false (fun e=>h2 (z9k.1 e).2.1),h1];simp [go_sem,Op.eqFields,e2]
  · rw [decide_eq_false (fun e=>h1 (z9k.1 e).1)];simp [go_sem,Op.eqFields,h1]
theorem neq_nd (x y:Nd) (w:World):(binOp .neq 36 (.agg #[.int .i64 x.k,.string x.n,.int .i64 x.s]) (.agg #[.int .i64 y.k,.string y.n,.int .i64 y.s])).run Tryz.prog w=.ok (.bool (!decide (x=y))) w:=by
  rw [run_neq_struct,show (10000:Nat)=9998+2 from rfl,x9r]
  rfl
theorem cnt_yes (l:List Nd) (ks:List Int) (k:Nat) (h:k<l.length) (hm:l[k].k∈ks):cnt (l.take (k+1)) ks=cnt (l.take k) ks+1:=by
  unfold cnt;rw [List.take_succ_eq_append_getElem h,List.countP_append];simp [hm]
theorem cnt_no (l:List Nd) (ks:List Int) (k:Nat) (h:k<l.length) (hm:¬ l[k].k∈ks):cnt (l.take (k+1)) ks=cnt (l.take k) ks:=by
  unfold cnt;rw [List.take_succ_eq_append_getElem h,List.countP_append];simp [hm]
end Rw
namespace So
open Rw
def k0 (l:List Nd):List Nd:=(kids l).getD 0 []
def k1 (l:List Nd):List Nd:=(kids l).getD 1 []
def hd (l:List Nd):Int:=match l with | []=>0 | n::_=>n.k
def plainB (t:Nat→List Nd→Bool) (l:List Nd):Bool:=
  if hd l=1∨hd l=2∨hd l=3∨hd l=4 then true
  else if hd l=5∨hd l=6∨hd l=7∨hd l=8 then t 1 (k0 l)&&t 1 (k1 l)
  else if hd l=9 then t 2 (k0 l) else false
def pairedB (t:Nat→List Nd→Bool) (l:List Nd):Bool:=
  if hd l=10 then t 1 (k0 l)&&t 1 (k1 l)
  else if hd l=5∨hd l=6∨hd l=7 then t 2 (k0 l)&&t 2 (k1 l) else false
def plainOnB (t:Nat→List Nd→Bool) (l:List Nd):Bool:=
  if hd l=11 then true
  else if hd l=5∨hd l=8 then t 3 (k0 l)&&t 1 (k1 l)
  else if hd l=7 then t 3 (k0 l)&&t 3 (k1 l)
  else if hd l=9 then t 4 (k0 l) else false
def pairedOnB (t:Nat→List Nd→Bool) (l:List Nd):Bool:=
  if hd l=12 then t 3 (k0 l)&&t 1 (k1 l)
  else if hd l=5 then t 4 (k0 l)&&t 2 (k1 l)
  else if hd l=7 then t 4 (k0 l)&&t 4 (k1 l)
  else if hd l=13 then t 4 (k0 l)&&t 1 (k1 l)
  else if hd l=14 then t 1 (k0 l) else false
def stepB (t:Nat→List Nd→Bool) (s:Nat) (l:List Nd):Bool:=
  if s=1 then plainB t l else if s=2 then pairedB t l else if s=3 then plainB t l||plainOnB t l else pairedB t l||pairedOnB t l
def isF:Nat→Nat→List Nd→Bool
  | 0,_,_=>false
  | f+1,s,l=>stepB (isF f) s l
theorem z5g {l r:List Nd} (hr:r∈kids l):r.length<l.length:=by
  have hs:size l≠0:=fun e=>by
    unfold kids at hr;rw [if_pos e] at hr
    cases hr
  have h0:0<l.length:=by have:=size_le l; omega
  cases l with
  | nil=>simp at h0
  | cons n rs=>
    have:=z6l hs
    have h1:r.length≤(kids (n::rs)).flatten.length:=by
      obtain ⟨s,t,hst⟩:=List.append_of_mem hr;rw [hst];simp;omega
    have h2:(kids (n::rs)).flatten.length+1=((n::rs).take (size (n::rs))).length:=by rw [← this]; simp
    rw [List.length_take] at h2;omega
theorem z3r (l:List Nd) (i:Nat) (h:0<l.length):((kids l).getD i []).length<l.length:=by
  rw [List.getD_eq_getElem?_getD]
  cases hx:(kids l)[i]? with
  | none=>simpa using h
  | some r=>exact z5g (List.mem_of_getElem? hx)
theorem z8p {t t':Nat→List Nd→Bool} (s:Nat) (l:List Nd) (h:∀ s i,t s ((kids l).getD i [])=t' s ((kids l).getD i [])):stepB t s l=stepB t' s l:=by
  unfold stepB plainB pairedB plainOnB pairedOnB k0 k1;simp only [h]
theorem z6c (t:Nat→List Nd→Bool) (s:Nat):stepB t s []=false:=by
  unfold stepB plainB pairedB plainOnB pairedOnB;simp [hd]
theorem y3q:∀ (f s:Nat),isF f s []=false
  | 0,_=>rfl
  | _+1,s=>z6c _ s
theorem x1a:∀ (f:Nat) (s:Nat) (l:List Nd),l.length≤f→isF (f+1) s l=isF f s l
  | 0,s,l,h=>by
    have:l=[]:=List.eq_nil_of_length_eq_zero (by omega);subst this;rw [y3q,y3q]
  | f+1,s,l,h=>by
    by_cases h0:0<l.length
    · exact z8p s l fun s' i=>x1a f s' _ (by have:=z3r l i h0; omega)
    · have:l=[]:=List.eq_nil_of_length_eq_zero (by omega);subst this;rw [y3q,y3q]
def Is (s:Nat) (l:List Nd):Bool:=isF l.length s l
theorem isF_Is (f s:Nat) (l:List Nd) (h:l.length≤f):isF f s l=Is s l:=by
  have:∀ g,isF (l.length+g) s l=isF l.length s l:=by
    intro g
    induction g with
    | zero=>rfl
    | succ g ih=>rw [← Nat.add_assoc,x1a _ _ _ (by omega),ih]
  have h':=this (f-l.length);rw [show l.length+(f-l.length)=f by omega] at h';exact h'
theorem x4x (s:Nat) (l:List Nd):Is s l=stepB Is s l:=by
  cases hl:l.length with
  | zero=>
    have:l=[]:=List.eq_nil_of_length_eq_zero hl;subst this;rw [z6c]
    rfl
  | succ n=>
    unfold Is;rw [hl];exact z8p s l fun s' i=>isF_Is n s' _ (by have:=z3r l i (by omega); omega)
theorem z2n (l:List Nd):Is 1 l=plainB Is l:=x4x 1 l
theorem z2m (l:List Nd):Is 2 l=pairedB Is l:=x4x 2 l
theorem z0z (l:List Nd):Is 3 l=(plainB Is l||plainOnB Is l):=x4x 3 l
theorem z1o (l:List Nd):Is 4 l=(pairedB Is l||pairedOnB Is l):=x4x 4 l
theorem z0j {l:List Nd} (h:Is 1 l=true):Is 3 l=true:=by rw [z0z,← z2n,h]; rfl
theorem z1p {l:List Nd} (h:Is 2 l=true):Is 4 l=true:=by rw [z1o,← z2m,h]; rfl
def first (l:List Nd):Nat:=if Is 1 l then 1 else if Is 2 l then 2 else if Is 3 l then 3 else if Is 4 l then 4 else 0
def of (l:List Nd):Nat:=if whole l then first l else 0
theorem of_le (l:List Nd):of l≤4:=by
  unfold of first
  repeat' split
  all_goals omega
theorem apart:∀ (m:Nat) (l:List Nd),l.length≤m→¬ (Is 3 l=true∧Is 4 l=true)
  | 0,l,h,hh=>by
    have:l=[]:=List.eq_nil_of_length_eq_zero (by omega);subst this;rw [x4x,z6c] at hh
    cases hh.1
  | m+1,l,h,hh=>by
    by_cases h0:0<l.length
    case neg=>
      have:l=[]:=List.eq_nil_of_length_eq_zero (by omega);subst this;rw [x4x,z6c] at hh
      cases hh.1
    have i0:=apart m (k0 l) (by have:=z3r l 0 h0; unfold k0; omega);obtain ⟨h3,h4⟩:=hh
    have key:∀ r,(Is 1 r=true∨Is 3 r=true)→(Is 2 r=true∨Is 4 r=true)→Is 3 r=true∧Is 4 r=true:=fun r a b=>
      ⟨a.elim z0j id,b.elim z1p id⟩
    rw [z0z,Bool.or_eq_true] at h3;rw [z1o,Bool.or_eq_true] at h4;unfold plainB plainOnB at h3;unfold pairedB pairedOnB at h4;generalize hd l=k at h3 h4
    apply i0
    apply key
    · rcases h3 with h3 | h3
      all_goals
        repeat' split at h3
        all_goals (first | (simp only [Bool.and_eq_true] at h3; exact Or.inl h3.1) | (simp only [Bool.and_eq_true] at h3; exact Or.inr h3.1) | skip)
        all_goals (exfalso; rcases h4 with h4 | h4 <;> (repeat' split at h4) <;> first | omega | (cases h4; done) | (cases h3; done))
    · rcases h4 with h4 | h4
      all_goals
        repeat' split at h4
        all_goals (first | (simp only [Bool.and_eq_true] at h4; exact Or.inl h4.1) | (simp only [Bool.and_eq_true] at h4; exact Or.inr h4.1) | skip)
        all_goals (exfalso; rcases h3 with h3 | h3 <;> (repeat' split at h3) <;> first | omega | (cases h4; done) | (cases h3; done))
end So
end Go.Proofs.YtaapnkoooofalaaGreat
