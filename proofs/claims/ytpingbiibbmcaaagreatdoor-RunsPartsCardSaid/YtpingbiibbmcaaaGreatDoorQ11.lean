/- Laws that the last text leans on. -/
import Derived.IntWalk
import Derived.Test.YtpingbiibbmcaaaGreatDoorQ09
import Derived.Test.YtpingbiibbmcaaaGreatDoorQ10

set_option maxRecDepth 20000
set_option maxHeartbeats 4000000
namespace Go.Proofs.YtpingbiibbmcaaaGreatDoor
namespace Sx
open Rw YtpingbiibbmcaaaGreatDoor.So
def pl (s:Nat):Bool:=s==1||s==3
def pd (s:Nat):Bool:=s==2||s==4
def on (s:Nat):Bool:=s==3||s==4
def fit (k:Int) (a b:Nat):Bool:=
  if k=9 then pd a else if k=14 then a==1 else if k=13 then pd a&&b==1
  else if k=10 then !on a&&(pl a&&b==1) else if k=8∨k=12 then pl a&&b==1
  else if k=6 then !on a&&(!on b&&(pl a&&pl b||pd a&&pd b)) else if k=5 then !on b&&(pl a&&pl b||pd a&&pd b)
  else if k=7 then pl a&&pl b||pd a&&pd b else true
def made (k:Int) (a b:Nat):Nat:=
  if k=5∨k=6∨k=7∨k=8 then max a b else if k=9 then (if a=4 then 3 else 1) else if k=11 then 3
  else if k=10 then 2 else if k=12∨k=13∨k=14 then 4 else 1
def comb (k:Int) (a b:Nat):Nat:=if fit k a b then made k a b else 0
theorem z6k (l:List Nd):first l≤4:=by
  unfold first
  repeat' split
  all_goals omega
theorem apart_of (l:List Nd):¬ (Is 3 l=true∧Is 4 l=true):=apart l.length l (Nat.le_refl _)
theorem x2s (l:List Nd):Is 1 l=(first l==1)∧Is 2 l=(first l==2)∧Is 3 l=pl (first l)∧Is 4 l=pd (first l):=by
  have h:=apart_of l;have h1:=@z0n l;have h2:=@z1k l;unfold first
  cases e1:Is 1 l <;> cases e2:Is 2 l <;> cases e3:Is 3 l <;> cases e4:Is 4 l <;> simp [e1,e2,e3,e4,pl,pd] at h h1 h2 ⊢
def p1 (k:Int) (a b:Nat):Bool:=if k=1∨k=2∨k=3∨k=4 then true else if k=5∨k=6∨k=7∨k=8 then a==1&&b==1 else if k=9 then a==2 else false
def p2 (k:Int) (a b:Nat):Bool:=if k=10 then a==1&&b==1 else if k=5∨k=6∨k=7 then a==2&&b==2 else false
def p3 (k:Int) (a b:Nat):Bool:=if k=11 then true else if k=5∨k=8 then pl a&&b==1 else if k=7 then pl a&&pl b else if k=9 then pd a else false
def p4 (k:Int) (a b:Nat):Bool:=if k=12 then pl a&&b==1 else if k=5 then pd a&&b==2 else if k=7 then pd a&&pd b else if k=13 then pd a&&b==1 else if k=14 then a==1 else false
def step (k:Int) (a b:Nat):Nat:=if p1 k a b then 1 else if p2 k a b then 2 else if p1 k a b||p3 k a b then 3 else if p2 k a b||p4 k a b then 4 else 0
theorem x6g (l:List Nd):first l=step (hd l) (first (k0 l)) (first (k1 l)):=by
  obtain ⟨a1,a2,a3,a4⟩:=x2s (k0 l);obtain ⟨b1,b2,b3,b4⟩:=x2s (k1 l)
  have h1:Is 1 l=p1 (hd l) (first (k0 l)) (first (k1 l)):=by
    rw [z1y]; unfold plainB p1; rw [a1,a2,b1]
  have h2:Is 2 l=p2 (hd l) (first (k0 l)) (first (k1 l)):=by
    rw [z1x]; unfold pairedB p2; rw [a1,a2,b1,b2]
  have h3:Is 3 l=(p1 (hd l) (first (k0 l)) (first (k1 l))||p3 (hd l) (first (k0 l)) (first (k1 l))):=by
    rw [z0x,← z1y,h1]; unfold plainOnB p3; rw [a3,a4,b1,b3]
  have h4:Is 4 l=(p2 (hd l) (first (k0 l)) (first (k1 l))||p4 (hd l) (first (k0 l)) (first (k1 l))):=by
    rw [z1i,← z1x,h2]; unfold pairedOnB p4; rw [a1,a3,a4,b1,b2,b4]
  rw [first,h1,h2,h3,h4]
  rfl
theorem steps:∀ k∈([1,2,3,4,5,6,7,8,9,10,11,12,13,14]:List Int),∀ a∈([0,1,2,3,4]:List Nat),∀ b∈([0,1,2,3,4]:List Nat),step k a b=comb k a b:=by decide +kernel
theorem mem5 {a:Nat} (h:a≤4):a∈([0,1,2,3,4]:List Nat):=by
  simp only [List.mem_cons,List.not_mem_nil,or_false];omega
theorem z7b {l:List Nd} (h:0≤Rw.ar (hd l)):first l=comb (hd l) (first (k0 l)) (first (k1 l)):=by
  rw [x6g];refine steps _ ?_ _ (mem5 (z6k _)) _ (mem5 (z6k _));simp only [List.mem_cons,List.not_mem_nil,or_false];exact kinds h
theorem y6s:first []=0:=by decide +kernel
theorem parts {l:List Nd} (h:Tre l):∃ n,hd l=n.k∧l=n::(kids l).flatten:=by
  have hs:Rw.size l≠0:=by rw [h.size]; have:=h.pos; omega
  cases l with
  | nil=>exact absurd h.pos (Nat.lt_irrefl 0)
  | cons n r=>
    have:=z6e hs;rw [h.size,List.take_length] at this;exact ⟨n,rfl,this.symm⟩
theorem parts0 {l:List Nd} (h:Tre l) (h0:Rw.ar (hd l)=0):∃ n,hd l=n.k∧l=[n]∧first l=comb n.k 0 0:=by
  obtain ⟨n,hn,hl⟩:=parts h
  have hk:kids l=[]:=by
    have:=h.kids.1;rw [h0] at this;exact List.eq_nil_of_length_eq_zero this
  refine ⟨n,hn,by rw [hl,hk]; rfl,?_⟩;rw [z7b (by omega),hn,show k0 l=[] by unfold k0; rw [hk]; rfl,show k1 l=[] by unfold k1; rw [hk]; rfl,y6s]
theorem parts1 {l:List Nd} (h:Tre l) (h0:Rw.ar (hd l)=1):∃ n a,hd l=n.k∧l=n::a∧Tre a∧first l=comb n.k (first a) 0:=by
  obtain ⟨n,hn,hl⟩:=parts h;obtain ⟨a,hk,ha,_⟩:=h.one h0;refine ⟨n,a,hn,by rw [hl,hk]; simp,ha,?_⟩;rw [z7b (by omega),hn,show k0 l=a by unfold k0; rw [hk]; rfl,show k1 l=[] by unfold k1; rw [hk]; rfl,y6s]
theorem parts2 {l:List Nd} (h:Tre l) (h0:Rw.ar (hd l)=2):∃ n a b,hd l=n.k∧l=n::(a++b)∧Tre a∧Tre b∧first l=comb n.k (first a) (first b):=by
  obtain ⟨n,hn,hl⟩:=parts h;obtain ⟨a,b,hk,ha,hb,_⟩:=h.two h0;refine ⟨n,a,b,hn,by rw [hl,hk]; simp,ha,hb,?_⟩;rw [z7b (by omega),hn,show k0 l=a by unfold k0; rw [hk]; rfl,show k1 l=b by unfold k1; rw [hk]; rfl]
end Sx
namespace Tr
open Go Go.RowKit
theorem norm_short {l:List Tr} (h:l.length<2):norm l=l:=by
  match l,h with
  | [],_=>rfl
  | [t],_=>rfl
theorem v1s:(Tryz.prog.info? 33).map (fun i=>(i.zero,i.size,i.bytes))=some (some (.agg #[.slice none 0 0,.int .i64 0]),2,32):=by kernel_rfl
theorem z9c {wk wr:World} {base:Nat} {v a:Value} {o:List Tr} {t:Tr} {cs:List Value} (hown:wr.ownsRow base 33 2 v o.length cs) (hbase:base≤wr.heap.size) (ha:Strs wk a t.a) (hlen:o.length≤2000000000000) :
    ∃ v' w',(Builtin.append_ #[43,43] 43 #[v,.slice (some ⟨wr.heap.size,0,none⟩) 1 1]).run Tryz.prog (wr.alloc (.cells #[a,.int .i64 t.e] 33))=.ok v' w'∧
      w'.ownsRow base 33 2 v' (o++[t]).length (cs++[a,.int .i64 t.e])∧wr.grownBy w' v.ownBlock∧Below base wr w'∧Ap.Fresh wr v v':=by
  obtain ⟨i0,hi,hz,hs1,hb8⟩:=info_parts v1s
  obtain ⟨v',w',h1,h2,h3,h4,h5⟩:=Ap.z1f (P:=Tryz.prog) (ty:=43) Tryz.underlying43 hi hz hs1 hb8 (by rfl) (by omega) hown hbase #[a,.int .i64 t.e] rfl
    (fun u hu=>by
      simp at hu
      rcases hu with rfl | rfl
      · exact ha.one
      · rfl) (by unfold maxLen; omega) (by omega)
  exact ⟨v',w',h1,by simpa using h2,h3,h4,h5⟩


end Tr
namespace Pl
open Go Rw YtpingbiibbmcaaaGreatDoor.So
theorem zz_zero {l:List Nd} (h:Tre l):zz l 0=l.length:=by
  unfold zz;rw [List.drop_zero];exact h.size
/-! ### Below one node more,and beside one another -/
def one (l:List Nd):Bool:=decide (0<l.length)&&decide (Rw.size l=l.length)
theorem y9a {l:List Nd}:one l=true↔Tre l:=by
  unfold one;rw [Bool.and_eq_true,decide_eq_true_eq,decide_eq_true_eq]
  constructor
  · rintro ⟨h1,h2⟩;exact Tre.of_size h2 (fun e=>by rw [e] at h1; exact absurd h1 (Nat.lt_irrefl 0))
  · intro h;exact ⟨h.pos,h.size⟩
end Pl
namespace Rw
open Go Go.RowKit
structure Kp (w0:World) (v:Value) (l:List Nd) (w:World):Prop where
  bel:Below w0.heap.size w0 w
  nds:Nds w v l
end Rw
namespace So
open Go Go.RowKit Rw
theorem is_1 (l:List Nd) (v:Value) (w:World) (ht:Tre l) (hv:Nds w v l) (hl:l.length≤1000000) (ih:IsC l.length):Calls Tryz.prog 184 #[v,.int .i64 1] w fun e w'=>e=.returned (.bool (Is 1 l))∧Below w.heap.size w w':=by
  have HR:=Lib.hid (z1y l);have HV:=Lib.hid hv;obtain ⟨_,a,cap,rfl,-⟩:=hv
  go_enter Tryz.func184,Tryz.ntmps184
  go_wp2_with fail;refine (z0r _ l _ HV.out hl).mono ?_;rintro e w1 ⟨y,rfl,hy,hb⟩;have HY:=Lib.hid hy;have HB:=Lib.hid hb;replace HV:=Lib.hid (HV.out.below hb);clear hy hb;go_wp2_with fail;refine (y5x l _ _ _ ht HV.out HY.out ih).mono ?_;rintro e w2 ⟨rfl,hb⟩;go_wp2_with fail;go_ret;exact ⟨ret_bool HR.out.symm,HB.out.trans (hb.mono HB.out.size)⟩
theorem is_2 (l:List Nd) (v:Value) (w:World) (ht:Tre l) (hv:Nds w v l) (hl:l.length≤1000000) (ih:IsC l.length):Calls Tryz.prog 184 #[v,.int .i64 2] w fun e w'=>e=.returned (.bool (Is 2 l))∧Below w.heap.size w w':=by
  have HR:=Lib.hid (z1x l);have HV:=Lib.hid hv;obtain ⟨_,a,cap,rfl,-⟩:=hv
  go_enter Tryz.func184,Tryz.ntmps184
  go_wp2_with fail;refine (z0r _ l _ HV.out hl).mono ?_;rintro e w1 ⟨y,rfl,hy,hb⟩;have HY:=Lib.hid hy;have HB:=Lib.hid hb;replace HV:=Lib.hid (HV.out.below hb);clear hy hb;go_wp2_with fail;refine (y1m l _ _ _ ht HV.out HY.out ih).mono ?_;rintro e w2 ⟨rfl,hb⟩;go_wp2_with fail;go_ret;exact ⟨ret_bool HR.out.symm,HB.out.trans (hb.mono HB.out.size)⟩
theorem is_3 (l:List Nd) (v:Value) (w:World) (ht:Tre l) (hv:Nds w v l) (hl:l.length≤1000000) (ih:IsC l.length):Calls Tryz.prog 184 #[v,.int .i64 3] w fun e w'=>e=.returned (.bool (Is 3 l))∧Below w.heap.size w w':=by
  have HR:=Lib.hid (z0x l);have HV:=Lib.hid hv;obtain ⟨_,a,cap,rfl,-⟩:=hv
  go_enter Tryz.func184,Tryz.ntmps184
  go_wp2_with fail;refine (z0r _ l _ HV.out hl).mono ?_;rintro e w1 ⟨y,rfl,hy,hb⟩;have HY:=Lib.hid hy;have HB:=Lib.hid hb;replace HV:=Lib.hid (HV.out.below hb);clear hy hb;go_wp2_with fail;refine (y5x l _ _ _ ht HV.out HY.out ih).mono ?_
  cases h0:plainB Is l with
  | true=>
    rw [h0,Bool.true_or] at HR;rintro e w2 ⟨rfl,hb⟩;go_wp2_with fail;go_ret;exact ⟨ret_bool HR.out.symm,HB.out.trans (hb.mono HB.out.size)⟩
  | false=>
    rw [h0,Bool.false_or] at HR;rintro e w2 ⟨rfl,hb⟩;replace HB:=Lib.hid (HB.out.trans (hb.mono HB.out.size));replace HV:=Lib.hid (HV.out.below hb);replace HY:=Lib.hid (HY.out.below hb);clear hb h0;go_wp2_with fail;refine (y8r l _ _ _ ht HV.out HY.out ih).mono ?_;rintro e w3 ⟨rfl,hb⟩;go_wp2_with fail;go_ret;exact ⟨ret_bool HR.out.symm,HB.out.trans (hb.mono HB.out.size)⟩
theorem is_4 (l:List Nd) (v:Value) (w:World) (ht:Tre l) (hv:Nds w v l) (hl:l.length≤1000000) (ih:IsC l.length):Calls Tryz.prog 184 #[v,.int .i64 4] w fun e w'=>e=.returned (.bool (Is 4 l))∧Below w.heap.size w w':=by
  have HR:=Lib.hid (z1i l);have HV:=Lib.hid hv;obtain ⟨_,a,cap,rfl,-⟩:=hv
  go_enter Tryz.func184,Tryz.ntmps184
  go_wp2_with fail;refine (z0r _ l _ HV.out hl).mono ?_;rintro e w1 ⟨y,rfl,hy,hb⟩;have HY:=Lib.hid hy;have HB:=Lib.hid hb;replace HV:=Lib.hid (HV.out.below hb);clear hy hb;go_wp2_with fail;refine (y1m l _ _ _ ht HV.out HY.out ih).mono ?_
  cases h0:pairedB Is l with
  | true=>
    rw [h0,Bool.true_or] at HR;rintro e w2 ⟨rfl,hb⟩;go_wp2_with fail;go_ret;exact ⟨ret_bool HR.out.symm,HB.out.trans (hb.mono HB.out.size)⟩
  | false=>
    rw [h0,Bool.false_or] at HR;rintro e w2 ⟨rfl,hb⟩;replace HB:=Lib.hid (HB.out.trans (hb.mono HB.out.size));replace HV:=Lib.hid (HV.out.below hb);replace HY:=Lib.hid (HY.out.below hb);clear hb h0;go_wp2_with fail;refine (y5z l _ _ _ ht HV.out HY.out ih).mono ?_;rintro e w3 ⟨rfl,hb⟩;go_wp2_with fail;go_ret;exact ⟨ret_bool HR.out.symm,HB.out.trans (hb.mono HB.out.size)⟩
theorem v1n:∀ n,n≤1000000→IsC n
  | 0,_=>fun r _ _ _ h=>absurd h (Nat.not_lt_zero _)
  | n+1,hn=>by
    intro r s w v hr ht hv h1 h4
    have ih:IsC r.length:=by
      rcases Nat.lt_or_ge r.length n with h | h
      · intro r' s' w' v' hr';exact v1n n (by omega) r' s' w' v' (by omega)
      · have:r.length=n:=by omega
        rw [this];exact v1n n (by omega)
    have hl:r.length≤1000000:=by omega
    have hs:s=1∨s=2∨s=3∨s=4:=by omega
    rcases hs with rfl | rfl | rfl | rfl
    · exact is_1 r v w ht hv hl ih
    · exact is_2 r v w ht hv hl ih
    · exact is_3 r v w ht hv hl ih
    · exact is_4 r v w ht hv hl ih
theorem isR_any (l:List Nd) (s:Nat) (v:Value) (w:World) (ht:Tre l) (hv:Nds w v l) (hl:l.length≤999999) (h1:1≤s) (h4:s≤4):Calls Tryz.prog 184 #[v,.int .i64 s] w fun e w'=>e=.returned (.bool (Is s l))∧Below w.heap.size w w':=
  v1n (l.length+1) (by omega) l s w v (by omega) ht hv h1 h4
theorem whole_tre {l:List Nd} (h:whole l=true):Tre l:=by
  unfold whole at h;simp only [Bool.and_eq_true,decide_eq_true_eq] at h;exact Tre.of_size h.2 (fun e=>by rw [e] at h; exact absurd h.1.2.1 (by decide))
def Not (l:List Nd) (s:Nat):Prop:=∀ i,1≤i→i<s→Is i l=false
theorem v2n {l:List Nd} {s:Nat} (h:Not l s) (h1:1≤s) (h4:s≤4) (hs:Is s l=true):first l=s:=by
  have n1:1<s→Is 1 l=false:=fun h'=>h 1 (by omega) h'
  have n2:2<s→Is 2 l=false:=fun h'=>h 2 (by omega) h'
  have n3:3<s→Is 3 l=false:=fun h'=>h 3 (by omega) h'
  unfold first
  have hc:s=1∨s=2∨s=3∨s=4:=by omega
  rcases hc with rfl | rfl | rfl | rfl
  · simp [hs]
  · simp [n1 (by omega),hs]
  · simp [n1 (by omega),n2 (by omega),hs]
  · simp [n1 (by omega),n2 (by omega),n3 (by omega),hs]
theorem first_no {l:List Nd} (h:Not l 5):first l=0:=by
  unfold first
  simp [h 1 (by omega) (by omega),h 2 (by omega) (by omega),h 3 (by omega) (by omega),h 4 (by omega) (by omega)]
theorem Not.next {l:List Nd} {s:Nat} (h:Not l s) (hs:Is s l=false):Not l (s+1):=fun i h1 h2=>by
  rcases Nat.lt_or_ge i s with h' | h'
  · exact h i h1 h'
  · rw [show i=s by omega];exact hs
theorem y9c (l:List Nd) (v:Value) (w:World) (hv:Nds w v l) (hl:l.length≤1000) (hm:Nms l):Calls Tryz.prog 116 #[v] w fun e w'=>e=.returned (.int .i64 (of l))∧Below w.heap.size w w':=by
  have HV:=Lib.hid hv;have HM:=Lib.hid hm;obtain ⟨_,a,cap,rfl,-⟩:=hv;clear hm
  go_enter Tryz.func116,Tryz.ntmps116
  go_wp2_with fail;refine (x3w _ l _ HV.out (by omega) HM.out).mono ?_
  cases hw:whole l with
  | false=>
    have HR:Hid (of l=0):=by
      show _=_
      unfold of;rw [hw]
      rfl
    clear hw;rintro e w1 ⟨rfl,hb⟩;go_wp2_with fail;go_ret;exact ⟨ret_int (by rw [HR.out]; rfl),hb⟩
  | true=>
    have HT:=Lib.hid (whole_tre hw)
    have HR:Hid (of l=first l):=by
      show _=_
      unfold of;rw [hw]
      rfl
    clear hw;rintro e w1 ⟨rfl,hb⟩;replace HV:=Lib.hid (HV.out.below hb);have HB:=Lib.hid hb;clear hb;go_wp2_with fail
    go_loopw [3] (fun i wr=>∃ s:Nat,1≤s∧s≤5∧i=.int .i64 s∧Hid (Not l s)∧Hid (Nds wr (.slice a l.length cap) l)∧Hid (Below w.heap.size w wr)) (fun i _=>(5-intOf i).toNat)
    case atStart=>exact ⟨1,by omega,by omega,rfl,Lib.hid (fun i h1 h2=>by omega),HV,HB⟩
    case round=>
      clear HV HB;obtain ⟨s,h1,h5,rfl,HN,HV,HB⟩:=hrel
      by_cases h4:s≤4
      · have IH:=Lib.hid (isR_any l s _ _ HT.out HV.out (by omega) h1 h4)
        cases hs:Is s l with
        | true=>
          have HF:=Lib.hid (HR.out.trans (v2n HN.out h1 h4 hs));rw [hs] at IH;clear hs;go_wp2_with fail;refine IH.out.mono ?_;rintro e w2 ⟨rfl,hb⟩;go_wp2_with fail;go_ret;exact ⟨ret_int (by rw [HF.out]),HB.out.trans (hb.mono HB.out.size)⟩
        | false=>
          have HN':=Lib.hid (HN.out.next hs);rw [hs] at IH;clear hs;go_wp2_with fail;refine IH.out.mono ?_;rintro e w2 ⟨rfl,hb⟩;replace HV:=Lib.hid (HV.out.below hb);replace HB:=Lib.hid (HB.out.trans (hb.mono HB.out.size));clear hb;go_wp2_with fail
          go_roundw
          case rel=>exact ⟨s+1,by omega,by omega,by go_num,HN',HV,HB⟩
          case measure=>simp [intOf]; omega
      · obtain rfl:s=5:=by omega
        have HF:=Lib.hid (HR.out.trans (first_no HN.out));go_wp2_with fail;go_ret;exact ⟨ret_int (by rw [HF.out]; rfl),HB.out⟩
end So
namespace St
open Go Go.RowKit Rw
theorem z8e (w:World) (ad:Addr) (c:Nat):Nds w (.slice (some ad) 0 c) []:=by
  refine ⟨rfl,some ad,c,rfl,Nat.zero_le _,fun h=>(by cases h),fun h=>absurd h (Nat.lt_irrefl 0)⟩
theorem hszN:(Tryz.prog.info? 68).map (·.size)=some 3:=by kernel_rfl
theorem y4j {w:World} (g off:Nat) (X:List Nd) (hX:∃ sv,Nds w sv X) (cur:List Value) (hg:w.heap[g]?=some (.cells cur.toArray 68 (0,0)))
    (hfit:off+X.length*3≤cur.length) (B:Nat) (w0:World) (hb:Below B w0 w) (hBg:B≤g) (ty:TypeId) :
    ∃ w',(∀ (dp:Option Addr) (N cap:Nat) (sv:Value),Nds w sv X→X.length≤N→(0<X.length→dp=some ⟨g,off,none⟩)→(Builtin.copy_ #[22,22] ty #[.slice dp N cap,sv]).run Tryz.prog w=.ok (goInt X.length) w')∧
      w'.heap[g]?=some (.cells (splice cur off (cls X)).toArray 68 (0,0))∧Below B w0 w':=by
  by_cases h0:X.length=0
  · obtain rfl:X=[]:=List.eq_nil_of_length_eq_zero h0;refine ⟨w,fun dp N cap sv hx _ _=>?_,by simpa [splice,cls] using hg,hb⟩;obtain ⟨_,a,c,rfl,_⟩:=hx;exact Cy.run_copy_none w _ _ ty 68 3 dp a N cap 0 c Tryz.underlying22 hszN (Nat.zero_min N)
  · obtain ⟨sv0,hx0⟩:=hX;obtain ⟨hl0,a0,c0,rfl,hc0,hn0,hcell0⟩:=hx0;obtain ⟨b0,o0,rfl,hj0⟩:=hcell0 (by omega)
    have hsrc:∀ (a:Addr),(∀ j v,(cls X)[j]?=some v→w.cell? (a.add j)=some v)→∀ (N cap c:Nat),X.length≤N→(Builtin.copy_ #[22,22] ty #[.slice (some ⟨g,off,none⟩) N cap,.slice (some a) X.length c]).run Tryz.prog w=.ok (goInt X.length) (w.setRow g (cur.toArray.toList.take off++cls X++cur.toArray.toList.drop (off+(cls X).length)).toArray):=fun a ha N cap c hN=>
      Cy.run_copy_row w _ _ ty 68 3 X.length g off N cap a X.length c cur.toArray 68 (cls X) Tryz.underlying22 hszN hg (by show _=min _ _; omega) hl0 ha (by rw [z2a]; simpa using hfit) (fun v hv=>v3q v hv)
    refine ⟨w.setRow g (cur.toArray.toList.take off++cls X++cur.toArray.toList.drop (off+(cls X).length)).toArray,fun dp N cap sv hx hN hdp=>?_,?_,below_setRow hb hBg _⟩
    · obtain ⟨_,a,c,rfl,_,_,hcell⟩:=hx;obtain ⟨b,o,rfl,hj⟩:=hcell (by omega);rw [hdp (by omega)];exact hsrc _ (fun j v hv=>by rw [Addr.add_lit]; exact hj j v hv) N cap c hN
    · simpa [splice] using setRow_heap w g _ _ _ _ hg
theorem x5t {w1 w2:World} {N:Nat} {cs:List Value} (ho:w2.ownsRow w1.heap.size 68 3 (.slice (some ⟨w1.heap.size,0,none⟩) N N) N cs) :
    ∃ cur:List Value,cur.length=N*3∧w2.heap[w1.heap.size]?=some (.cells cur.toArray 68 (0,0)):=by
  obtain ⟨_,⟨h0,_⟩ | ⟨g,cap,cur,hv,_,hh,h1,h2,h3,h4⟩⟩:=ho
  · cases h0
  · cases hv
    exact ⟨cur.toList,by simpa using h3,by simpa using hh⟩
theorem x5m {w:World} {g base N:Nat} {cur:List Value} (L1 x L2:List Nd) (hN:N=L1.length+x.length+L2.length) (hc:cur.length=N*3) (hm:N≤maxLen) (hb:base≤g)
    (hg:w.heap[g]?=some (.cells (splice (splice (splice cur 0 (cls L1)) (L1.length*3) (cls x)) ((L1.length+x.length)*3) (cls L2)).toArray 68 (0,0))) :
    w.ownsRow base 68 3 (.slice (some ⟨g,0,none⟩) N N) (L1++x++L2).length (cls (L1++x++L2)):=by
  rw [Nat.add_mul,splice_splice_splice cur (cls L1) (cls x) (cls L2) _ _ (z2a _) (z2a _) (by rw [z2a,hc,hN]; omega)] at hg;have hl:(L1++x++L2).length=N:=by rw [List.length_append,List.length_append,hN]
  have e:cls L1++(cls x++cls L2)=cls (L1++x++L2):=by rw [z3r,z3r,List.append_assoc]
  rw [e] at hg;have hcl:(cls (L1++x++L2)).length=N*3:=by rw [z2a,hl]
  rw [hl];refine ⟨hcl,.inr ⟨g,N,_,rfl,hb,hg,Nat.le_refl _,hm,hcl,?_⟩⟩;exact List.take_of_length_le (Nat.le_of_eq hcl)
def szA (l:List Nd) (z:Int):Nat:=if z<0∨z≥l.length then 0 else size (l.drop z.toNat)
theorem y1j (v:Value) (l:List Nd) (z:Int) (w:World) (hv:Nds w v l) (hl:l.length≤1000) :
    Calls Tryz.prog 252 #[v,.int .i64 z] w fun e w'=>e=.returned (.int .i64 (szA l z))∧Below w.heap.size w w':=by
  unfold szA
  by_cases h1:z<0
  · rw [if_pos (.inl h1)];obtain ⟨_,a,c,rfl,-⟩:=id hv;clear hv
    go_enter Tryz.func252,Tryz.ntmps252
    go_wp2_with fail;go_ret;exact ⟨rfl,Below.refl _ _⟩
  by_cases h2:z≥l.length
  · rw [if_pos (.inr h2)];obtain ⟨_,a,c,rfl,-⟩:=id hv;clear hv
    go_enter Tryz.func252,Tryz.ntmps252
    go_wp2_with fail;go_ret;exact ⟨rfl,Below.refl _ _⟩
  rw [if_neg (by omega)];obtain ⟨q,rfl⟩:∃ q:Nat,z=(q:Int):=⟨z.toNat,by omega⟩
  have hql:q<l.length:=by omega
  rw [show ((q:Int)).toNat=q from rfl]
  rcases hv.form with ⟨h0,_⟩ | ⟨b,o,c,rfl,hc,hat⟩
  · rw [h0] at hql; simp at hql
  have HS:=Lib.hid (Rx.z2e _ (l.drop q) w (y4g rfl hat q (by omega) hc) (by simp; omega));obtain ⟨n,hn⟩:∃ n,l.length=n:=⟨_,rfl⟩
  rw [hn] at HS hc hql h2 ⊢;have hcap:q<c:=by omega
  generalize size (l.drop q)=s at HS ⊢;clear hv hat hn hl
  go_enter Tryz.func252,Tryz.ntmps252
  go_wp2_with fail;refine HS.out.mono ?_;rintro e w1 ⟨rfl,hb⟩;have D:=Lib.hid hb;clear hb;go_wp2_with fail;go_ret;exact ⟨rfl,D.out⟩
end St
namespace Sx
open Go Go.RowKit Rw YtpingbiibbmcaaaGreatDoor.So
theorem five {a:Nat} (h:a≤4):a=0∨a=1∨a=2∨a=3∨a=4:=by omega
theorem plP (a:Nat) (w:World) (h:a≤4):Calls Tryz.prog 137 #[.int .i64 a] w fun e w'=>e=.returned (.bool (pl a))∧w=w':=by
  rcases five h with rfl | rfl | rfl | rfl | rfl
  all_goals
    go_enter Tryz.func137,Tryz.ntmps137
    go_wp2_with fail;go_ret;exact ⟨rfl,rfl⟩
theorem pdP (a:Nat) (w:World) (h:a≤4):Calls Tryz.prog 135 #[.int .i64 a] w fun e w'=>e=.returned (.bool (pd a))∧w=w':=by
  rcases five h with rfl | rfl | rfl | rfl | rfl
  all_goals
    go_enter Tryz.func135,Tryz.ntmps135
    go_wp2_with fail;go_ret;exact ⟨rfl,rfl⟩
theorem onP (a:Nat) (w:World) (h:a≤4):Calls Tryz.prog 291 #[.int .i64 a] w fun e w'=>e=.returned (.bool (on a))∧w=w':=by
  rcases five h with rfl | rfl | rfl | rfl | rfl
  all_goals
    go_enter Tryz.func291,Tryz.ntmps291
    go_wp2_with fail;go_ret;exact ⟨rfl,rfl⟩
theorem fit_leaf (k:Int) (w:World) (h:k=1∨k=2∨k=3∨k=4∨k=11):Calls Tryz.prog 258 #[.int .i64 k,.int .i64 0,.int .i64 0] w fun e w'=>e=.returned (.bool (fit k 0 0))∧w=w':=by
  rcases h with rfl | rfl | rfl | rfl | rfl
  all_goals
    go_enter Tryz.func258,Tryz.ntmps258
    go_wp2_with fail;go_ret;exact ⟨rfl,rfl⟩
theorem fit_9 (a:Nat) (w:World) (ha:a≤4):Calls Tryz.prog 258 #[.int .i64 9,.int .i64 a,.int .i64 0] w fun e w'=>e=.returned (.bool (fit 9 a 0))∧w=w':=by
  go_enter Tryz.func258,Tryz.ntmps258
  go_wp2_with fail;refine (pdP a _ ha).mono ?_;rintro e w' ⟨rfl,rfl⟩;go_wp2_with fail;go_ret;exact ⟨rfl,rfl⟩
theorem fit_14 (a:Nat) (w:World) (ha:a≤4):Calls Tryz.prog 258 #[.int .i64 14,.int .i64 a,.int .i64 0] w fun e w'=>e=.returned (.bool (fit 14 a 0))∧w=w':=by
  rcases five ha with rfl | rfl | rfl | rfl | rfl
  all_goals
    go_enter Tryz.func258,Tryz.ntmps258
    go_wp2_with fail;go_ret;exact ⟨rfl,rfl⟩
theorem fit_5 (a b:Nat) (w:World) (ha:a≤4) (hb:b≤4):Calls Tryz.prog 258 #[.int .i64 5,.int .i64 a,.int .i64 b] w fun e w'=>e=.returned (.bool (fit 5 a b))∧w=w':=by
  have c_onb:=fun w=>onP b w hb
  have c_pla:=fun w=>plP a w ha
  have c_pda:=fun w=>pdP a w ha
  have c_pdb:=fun w=>pdP b w hb
  have c_plb:=fun w=>plP b w hb
  have hr:fit 5 a b=(!on b&&(pl a&&pl b||pd a&&pd b)):=rfl;rw [hr];clear hr;generalize on b=x_onb at *;generalize pl a=x_pla at *;generalize pd a=x_pda at *;generalize pd b=x_pdb at *;generalize pl b=x_plb at *
  go_enter Tryz.func258,Tryz.ntmps258
  go_wp2_with fail;refine (c_onb _).mono ?_;rintro e w' ⟨rfl,rfl⟩
  cases x_onb
  · go_wp2_with fail;refine (c_pla _).mono ?_;rintro e w' ⟨rfl,rfl⟩
    cases x_pla
    · go_wp2_with fail;refine (c_pda _).mono ?_;rintro e w' ⟨rfl,rfl⟩
      cases x_pda
      · go_wp2_with fail;go_ret;exact ⟨rfl,rfl⟩
      · go_wp2_with fail;refine (c_pdb _).mono ?_;rintro e w' ⟨rfl,rfl⟩
        cases x_pdb
        · go_wp2_with fail;go_ret;exact ⟨rfl,rfl⟩
        · go_wp2_with fail;go_ret;exact ⟨rfl,rfl⟩
    · go_wp2_with fail;refine (c_plb _).mono ?_;rintro e w' ⟨rfl,rfl⟩
      cases x_plb
      · go_wp2_with fail;refine (c_pda _).mono ?_;rintro e w' ⟨rfl,rfl⟩
        cases x_pda
        · go_wp2_with fail;go_ret;exact ⟨rfl,rfl⟩
        · go_wp2_with fail;refine (c_pdb _).mono ?_;rintro e w' ⟨rfl,rfl⟩
          cases x_pdb
          · go_wp2_with fail;go_ret;exact ⟨rfl,rfl⟩
          · go_wp2_with fail;go_ret;exact ⟨rfl,rfl⟩
      · go_wp2_with fail;go_ret;exact ⟨rfl,rfl⟩
  · go_wp2_with fail;go_ret;exact ⟨rfl,rfl⟩
theorem fit_6 (a b:Nat) (w:World) (ha:a≤4) (hb:b≤4):Calls Tryz.prog 258 #[.int .i64 6,.int .i64 a,.int .i64 b] w fun e w'=>e=.returned (.bool (fit 6 a b))∧w=w':=by
  have c_ona:=fun w=>onP a w ha
  have c_onb:=fun w=>onP b w hb
  have c_pla:=fun w=>plP a w ha
  have c_pda:=fun w=>pdP a w ha
  have c_pdb:=fun w=>pdP b w hb
  have c_plb:=fun w=>plP b w hb
  have hr:fit 6 a b=(!on a&&(!on b&&(pl a&&pl b||pd a&&pd b))):=rfl;rw [hr];clear hr;generalize on a=x_ona at *;generalize on b=x_onb at *;generalize pl a=x_pla at *;generalize pd a=x_pda at *;generalize pd b=x_pdb at *;generalize pl b=x_plb at *
  go_enter Tryz.func258,Tryz.ntmps258
  go_wp2_with fail;refine (c_ona _).mono ?_;rintro e w' ⟨rfl,rfl⟩
  cases x_ona
  · go_wp2_with fail;refine (c_onb _).mono ?_;rintro e w' ⟨rfl,rfl⟩
    cases x_onb
    · go_wp2_with fail;refine (c_pla _).mono ?_;rintro e w' ⟨rfl,rfl⟩
      cases x_pla
      · go_wp2_with fail;refine (c_pda _).mono ?_;rintro e w' ⟨rfl,rfl⟩
        cases x_pda
        · go_wp2_with fail;go_ret;exact ⟨rfl,rfl⟩
        · go_wp2_with fail;refine (c_pdb _).mono ?_;rintro e w' ⟨rfl,rfl⟩
          cases x_pdb
          · go_wp2_with fail;go_ret;exact ⟨rfl,rfl⟩
          · go_wp2_with fail;go_ret;exact ⟨rfl,rfl⟩
      · go_wp2_with fail;refine (c_plb _).mono ?_;rintro e w' ⟨rfl,rfl⟩
        cases x_plb
        · go_wp2_with fail;refine (c_pda _).mono ?_;rintro e w' ⟨rfl,rfl⟩
          cases x_pda
          · go_wp2_with fail;go_ret;exact ⟨rfl,rfl⟩
          · go_wp2_with fail;refine (c_pdb _).mono ?_;rintro e w' ⟨rfl,rfl⟩
            cases x_pdb
            · go_wp2_with fail;go_ret;exact ⟨rfl,rfl⟩
            · go_wp2_with fail;go_ret;exact ⟨rfl,rfl⟩
        · go_wp2_with fail;go_ret;exact ⟨rfl,rfl⟩
    · go_wp2_with fail;go_ret;exact ⟨rfl,rfl⟩
  · go_wp2_with fail;go_ret;exact ⟨rfl,rfl⟩
theorem fit_7 (a b:Nat) (w:World) (ha:a≤4) (hb:b≤4):Calls Tryz.prog 258 #[.int .i64 7,.int .i64 a,.int .i64 b] w fun e w'=>e=.returned (.bool (fit 7 a b))∧w=w':=by
  have c_pla:=fun w=>plP a w ha
  have c_pda:=fun w=>pdP a w ha
  have c_pdb:=fun w=>pdP b w hb
  have c_plb:=fun w=>plP b w hb
  have hr:fit 7 a b=(pl a&&pl b||pd a&&pd b):=rfl;rw [hr];clear hr;generalize pl a=x_pla at *;generalize pd a=x_pda at *;generalize pd b=x_pdb at *;generalize pl b=x_plb at *
  go_enter Tryz.func258,Tryz.ntmps258
  go_wp2_with fail;refine (c_pla _).mono ?_;rintro e w' ⟨rfl,rfl⟩
  cases x_pla
  · go_wp2_with fail;refine (c_pda _).mono ?_;rintro e w' ⟨rfl,rfl⟩
    cases x_pda
    · go_wp2_with fail;go_ret;exact ⟨rfl,rfl⟩
    · go_wp2_with fail;refine (c_pdb _).mono ?_;rintro e w' ⟨rfl,rfl⟩
      cases x_pdb
      · go_wp2_with fail;go_ret;exact ⟨rfl,rfl⟩
      · go_wp2_with fail;go_ret;exact ⟨rfl,rfl⟩
  · go_wp2_with fail;refine (c_plb _).mono ?_;rintro e w' ⟨rfl,rfl⟩
    cases x_plb
    · go_wp2_with fail;refine (c_pda _).mono ?_;rintro e w' ⟨rfl,rfl⟩
      cases x_pda
      · go_wp2_with fail;go_ret;exact ⟨rfl,rfl⟩
      · go_wp2_with fail;refine (c_pdb _).mono ?_;rintro e w' ⟨rfl,rfl⟩
        cases x_pdb
        · go_wp2_with fail;go_ret;exact ⟨rfl,rfl⟩
        · go_wp2_with fail;go_ret;exact ⟨rfl,rfl⟩
    · go_wp2_with fail;go_ret;exact ⟨rfl,rfl⟩
theorem fit_8 (a b:Nat) (w:World) (ha:a≤4):Calls Tryz.prog 258 #[.int .i64 8,.int .i64 a,.int .i64 b] w fun e w'=>e=.returned (.bool (fit 8 a b))∧w=w':=by
  have c_pla:=fun w=>plP a w ha
  have hr:fit 8 a b=(pl a&&(b==1)):=rfl;rw [hr];clear hr;generalize pl a=x_pla at *;have hi:((b:Int)==1)=(b==1):=by rw [Bool.eq_iff_iff,beq_iff_eq,beq_iff_eq]; omega
  generalize (b==1)=q at *
  cases q
  all_goals
    go_enter Tryz.func258,Tryz.ntmps258
    go_wp2_with fail;refine (c_pla _).mono ?_;rintro e w' ⟨rfl,rfl⟩
    cases x_pla
    · go_wp2_with fail;go_ret;exact ⟨rfl,rfl⟩
    · go_wp2_with fail;go_ret;exact ⟨rfl,rfl⟩
theorem fit_10 (a b:Nat) (w:World) (ha:a≤4):Calls Tryz.prog 258 #[.int .i64 10,.int .i64 a,.int .i64 b] w fun e w'=>e=.returned (.bool (fit 10 a b))∧w=w':=by
  have c_ona:=fun w=>onP a w ha
  have c_pla:=fun w=>plP a w ha
  have hr:fit 10 a b=(!on a&&(pl a&&(b==1))):=rfl;rw [hr];clear hr;generalize on a=x_ona at *;generalize pl a=x_pla at *;have hi:((b:Int)==1)=(b==1):=by rw [Bool.eq_iff_iff,beq_iff_eq,beq_iff_eq]; omega
  generalize (b==1)=q at *
  cases q
  all_goals
    go_enter Tryz.func258,Tryz.ntmps258
    go_wp2_with fail;refine (c_ona _).mono ?_;rintro e w' ⟨rfl,rfl⟩
    cases x_ona
    · go_wp2_with fail;refine (c_pla _).mono ?_;rintro e w' ⟨rfl,rfl⟩
      cases x_pla
      · go_wp2_with fail;go_ret;exact ⟨rfl,rfl⟩
      · go_wp2_with fail;go_ret;exact ⟨rfl,rfl⟩
    · go_wp2_with fail;go_ret;exact ⟨rfl,rfl⟩
theorem fit_12 (a b:Nat) (w:World) (ha:a≤4):Calls Tryz.prog 258 #[.int .i64 12,.int .i64 a,.int .i64 b] w fun e w'=>e=.returned (.bool (fit 12 a b))∧w=w':=by
  have c_pla:=fun w=>plP a w ha
  have hr:fit 12 a b=(pl a&&(b==1)):=rfl;rw [hr];clear hr;generalize pl a=x_pla at *;have hi:((b:Int)==1)=(b==1):=by rw [Bool.eq_iff_iff,beq_iff_eq,beq_iff_eq]; omega
  generalize (b==1)=q at *
  cases q
  all_goals
    go_enter Tryz.func258,Tryz.ntmps258
    go_wp2_with fail;refine (c_pla _).mono ?_;rintro e w' ⟨rfl,rfl⟩
    cases x_pla
    · go_wp2_with fail;go_ret;exact ⟨rfl,rfl⟩
    · go_wp2_with fail;go_ret;exact ⟨rfl,rfl⟩
theorem fit_13 (a b:Nat) (w:World) (ha:a≤4):Calls Tryz.prog 258 #[.int .i64 13,.int .i64 a,.int .i64 b] w fun e w'=>e=.returned (.bool (fit 13 a b))∧w=w':=by
  have c_pda:=fun w=>pdP a w ha
  have hr:fit 13 a b=(pd a&&(b==1)):=rfl;rw [hr];clear hr;generalize pd a=x_pda at *;have hi:((b:Int)==1)=(b==1):=by rw [Bool.eq_iff_iff,beq_iff_eq,beq_iff_eq]; omega
  generalize (b==1)=q at *
  cases q
  all_goals
    go_enter Tryz.func258,Tryz.ntmps258
    go_wp2_with fail;refine (c_pda _).mono ?_;rintro e w' ⟨rfl,rfl⟩
    cases x_pda
    · go_wp2_with fail;go_ret;exact ⟨rfl,rfl⟩
    · go_wp2_with fail;go_ret;exact ⟨rfl,rfl⟩
theorem x0a (k:Int) (a b:Nat) (w:World) (hk:0≤Rw.ar k) (ha:a≤4) (hb:b≤4) (h0:Rw.ar k=0→a=0) (h1:Rw.ar k≤1→b=0):Calls Tryz.prog 258 #[.int .i64 k,.int .i64 a,.int .i64 b] w fun e w'=>e=.returned (.bool (fit k a b))∧w=w':=by
  rcases kinds hk with rfl | rfl | rfl | rfl | rfl | rfl | rfl | rfl | rfl | rfl | rfl | rfl | rfl | rfl
  case inr.inr.inr.inr.inl=>exact fit_5 a b w ha hb
  case inr.inr.inr.inr.inr.inl=>exact fit_6 a b w ha hb
  case inr.inr.inr.inr.inr.inr.inl=>exact fit_7 a b w ha hb
  case inr.inr.inr.inr.inr.inr.inr.inl=>exact fit_8 a b w ha
  case inr.inr.inr.inr.inr.inr.inr.inr.inl=>obtain rfl:=h1 (by decide); exact fit_9 a w ha
  case inr.inr.inr.inr.inr.inr.inr.inr.inr.inl=>exact fit_10 a b w ha
  case inr.inr.inr.inr.inr.inr.inr.inr.inr.inr.inr.inl=>exact fit_12 a b w ha
  case inr.inr.inr.inr.inr.inr.inr.inr.inr.inr.inr.inr.inl=>exact fit_13 a b w ha
  case inr.inr.inr.inr.inr.inr.inr.inr.inr.inr.inr.inr.inr=>obtain rfl:=h1 (by decide); exact fit_14 a w ha
  all_goals
    obtain rfl:=h0 (by decide);obtain rfl:=h1 (by decide);exact fit_leaf _ w (by decide)
theorem made_two (k:Int) (a b:Nat) (w:World) (h:k=5∨k=6∨k=7∨k=8):Calls Tryz.prog 259 #[.int .i64 k,.int .i64 a,.int .i64 b] w fun e w'=>e=.returned (.int .i64 (made k a b))∧w=w':=by
  have hm:made k a b=max a b:=by unfold made; rw [if_pos h]
  have HM:Hid (((max a b:Nat):Int)=(made k a b:Nat)):=by show _=_; rw [hm]
  clear hm
  rcases h with rfl | rfl | rfl | rfl
  all_goals
    go_enter Tryz.func259,Tryz.ntmps259
    go_wp2_with fail
  all_goals
    go_ret;exact ⟨ret_int (by rw [← HM.out]; omega),rfl⟩
theorem made_9 (a b:Nat) (w:World) (ha:a≤4):Calls Tryz.prog 259 #[.int .i64 9,.int .i64 a,.int .i64 b] w fun e w'=>e=.returned (.int .i64 (made 9 a b))∧w=w':=by
  rcases five ha with rfl | rfl | rfl | rfl | rfl
  all_goals
    go_enter Tryz.func259,Tryz.ntmps259
    go_wp2_with fail;go_ret;exact ⟨rfl,rfl⟩
theorem x5s (k:Int) (a b:Nat) (w:World) (h:k=1∨k=2∨k=3∨k=4∨k=10∨k=11∨k=12∨k=13∨k=14):Calls Tryz.prog 259 #[.int .i64 k,.int .i64 a,.int .i64 b] w fun e w'=>e=.returned (.int .i64 (made k a b))∧w=w':=by
  rcases h with rfl | rfl | rfl | rfl | rfl | rfl | rfl | rfl | rfl
  all_goals
    go_enter Tryz.func259,Tryz.ntmps259
    go_wp2_with fail;go_ret;exact ⟨rfl,rfl⟩
theorem y3r (k:Int) (a b:Nat) (w:World) (hk:0≤Rw.ar k) (ha:a≤4):Calls Tryz.prog 259 #[.int .i64 k,.int .i64 a,.int .i64 b] w fun e w'=>e=.returned (.int .i64 (made k a b))∧w=w':=by
  by_cases h2:k=5∨k=6∨k=7∨k=8
  · exact made_two k a b w h2
  · by_cases h9:k=9
    · subst h9;exact made_9 a b w ha
    · exact x5s k a b w (by have:=kinds hk; omega)
end Sx
namespace Tr
open Go Go.RowKit
theorem infoS:(Tryz.prog.info? 9).map (fun i=>(i.zero,i.size,i.bytes))=some (some (.string ⟨#[]⟩),1,16):=by kernel_rfl
theorem z2q {w:World} {base:Nat} {v x:Value} {l m:List ByteArray} (hown:w.ownsRow base 9 1 v l.length (l.map .string)) (hbase:base≤w.heap.size) (hx:Strs w x m) (hlen:l.length+m.length≤2000000000000) :
    ∃ v' w',(Builtin.append_ #[26,26] 26 #[v,x]).run Tryz.prog w=.ok v' w'∧w'.ownsRow base 9 1 v' (l++m).length ((l++m).map .string)∧w.grownBy w' v.ownBlock∧Below base w w'∧Ap.Fresh w v v':=by
  obtain ⟨i0,hi,hz,hs1,hb8⟩:=info_parts infoS
  obtain ⟨v',w',h1,h2,h3,h4,h5⟩:=Ap.z0t (P:=Tryz.prog) (ty:=26) Tryz.underlying26 hi hz hs1 hb8 (by rfl) (by omega) hown hbase hx
    (fun u hu=>by obtain ⟨b,_,rfl⟩:=List.mem_map.1 hu; rfl) (by unfold maxLen; omega) (by omega)
  exact ⟨v',w',h1,by simpa using h2,h3,h4,h5⟩
theorem v3t (x y:Value) (l m:List ByteArray) (w:World) (hx:Strs w x l) (hy:Strs w y m) (hlen:l.length+m.length≤2000000000000) :
    Calls Tryz.prog 36 #[x,y] w fun e w'=>∃ v,e=.returned v∧w'.ownsRow w.heap.size 9 1 v (l++m).length ((l++m).map .string)∧Below w.heap.size w w':=by
  obtain ⟨v1,w1,hrun1,hown1,hg1,hb1,_⟩:=z2q (w:=w) (base:=w.heap.size) (v:=.slice none 0 0) (l:=[]) ⟨rfl,.inl ⟨rfl,rfl⟩⟩ (Nat.le_refl _) hx (by simp; omega);rw [List.nil_append] at hown1;obtain ⟨v2,w2,hrun2,hown2,hg2,hb2,_⟩:=z2q hown1 hb1.size (hy.below hb1) hlen;have R1:=Lib.hid hrun1;have R2:=Lib.hid hrun2;have O2:=Lib.hid hown2;have B2:=Lib.hid (hb1.trans hb2);clear hrun1 hrun2 hown1 hown2 hg1 hg2 hb1 hb2 hx hy
  go_enter Tryz.func36,Tryz.ntmps36
  go_wp2_with (first
    | (at_builtin; refine Ap.wpList_append_run (by rfl) (.tmp 6) (.tmp 7) _ _ rfl _ _ rfl rfl v1 w1 R1.out ?_)
    | (at_builtin; refine Ap.wpList_append_run (by rfl) (.tmp 9) (.tmp 10) _ _ rfl _ _ rfl rfl v2 w2 R2.out ?_))
  go_ret;exact ⟨_,rfl,O2.out,B2.out⟩
end Tr
end Go.Proofs.YtpingbiibbmcaaaGreatDoor
