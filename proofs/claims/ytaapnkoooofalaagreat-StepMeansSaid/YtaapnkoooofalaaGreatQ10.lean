/- Laws that the last text leans on. -/
import Derived.IntWalk
import Derived.Test.YtaapnkoooofalaaGreatQ09

set_option maxRecDepth 20000
set_option maxHeartbeats 4000000
namespace Go.Proofs.YtaapnkoooofalaaGreat
namespace Rx
open Go Go.RowKit Rw
theorem x7m (x:Nd) (w:World) (hn:x.n.size≤140737488355328):Calls Tryz.prog 93 #[.agg #[.int .i64 x.k,.string x.n,.int .i64 x.s]] w fun e w'=>e=.returned (.bool (!rgt x))∧Below w.heap.size w w':=by
  obtain ⟨r,hr⟩:∃ r,rgt x=r:=⟨_,rfl⟩
  have HR:=Lib.hid hr;rw [hr];clear hr
  go_enter Tryz.func93,Tryz.ntmps93
  go_wp2_with fail;refine (rgtP_any x _ hn).mono ?_;rw [HR.out];rintro e w' ⟨rfl,hb⟩;have HB:=Lib.hid hb;clear hb;go_wp2_with fail;go_ret;exact ⟨rfl,(z6w w _).trans (HB.out.mono (z6w w _).size)⟩
def badAt:List Nd→Nat→Int
  | [],_=>-1
  | x::l,k=>if rgt x then badAt l (k+1) else k
theorem v1h (l:List Nd) (k:Nat):decide (0≤badAt l k)=!l.all rgt:=by
  induction l generalizing k with
  | nil=>rfl
  | cons x l ih=>
    unfold badAt
    cases hr:rgt x with
    | true=>simp only [if_true,ih,List.all_cons,hr,Bool.true_and]
    | false=>simp only [List.all_cons,hr,Bool.false_and]; simp
theorem v1i {l:List Nd} {k:Nat} (h:¬ k<l.length):badAt (l.drop k) k=-1:=by rw [List.drop_eq_nil_of_le (by omega)]; rfl
theorem badAt_at {l:List Nd} {k:Nat} (h:k<l.length):badAt (l.drop k) k=if rgt l[k] then badAt (l.drop (k+1)) (k+1) else (k:Int):=by
  rw [List.drop_eq_getElem_cons h,badAt]
theorem index_empty (a:Option Addr) (cap:Nat) (w:World) :
    Calls Tryz.prog 136 #[.slice a 0 cap,.func (.func 93) #[] #[]] w fun e w'=>e=.returned (.int .i64 (-1))∧Below w.heap.size w w':=by
  go_enter Tryz.func136,Tryz.ntmps136
  go_wp2_with fail;refine Go.wp_loop_rounds 1 ?_;rw [rounds_succ];go_wp2_with fail;go_ret;exact ⟨rfl,Below.refl _ _⟩
theorem y8m (b off cap:Nat) (l:List Nd) (w:World) (hat:At w b off l) (hl:l.length≤1000000) (hm:Nms l) :
    Calls Tryz.prog 136 #[.slice (some ⟨b,off,none⟩) l.length cap,.func (.func 93) #[] #[]] w fun e w'=>e=.returned (.int .i64 (badAt l 0))∧Below w.heap.size w w':=by
  have HA:=Lib.hid hat;have HM:=Lib.hid hm;clear hat hm
  go_enter Tryz.func136,Tryz.ntmps136
  go_wp2_with fail
  go_loopw [8] (fun i wr=>∃ k:Nat,k≤l.length∧i=.int .i64 k∧Below w.heap.size w wr∧Hid (badAt l 0=badAt (l.drop k) k)) (fun i _=>l.length-(intOf i).toNat)
  case atStart=>exact ⟨0,Nat.zero_le _,rfl,Below.refl _ _,Lib.hid rfl⟩
  case round=>
    obtain ⟨k,hk,rfl,hb,HK⟩:=hrel;have HB:=Lib.hid hb;clear hb
    by_cases hlt:k<l.length
    · obtain ⟨e1,e2,e3⟩:=HA.out k hlt;have c1:wr.cell? ⟨b,off+k*3,none⟩=some (.int .i64 l[k].k):=by rw [HB.out.cell (Ap.z0a e1)]; exact e1
      have c2:wr.cell? ⟨b,off+k*3+1,none⟩=some (.string l[k].n):=by rw [HB.out.cell (Ap.z0a e2)]; exact e2
      have c3:wr.cell? ⟨b,off+k*3+2,none⟩=some (.int .i64 l[k].s):=by rw [HB.out.cell (Ap.z0a e3)]; exact e3
      have HX:=Lib.hid (HK.out.trans (badAt_at hlt));have hxm:(l[k]).n.size≤140737488355328:=HM.out _ (List.getElem_mem hlt);obtain ⟨x,hx⟩:∃ x,l[k]=x:=⟨_,rfl⟩
      rw [hx] at c1 c2 c3 HX hxm;have HXM:=Lib.hid hxm;clear hx e1 e2 e3 hxm
      cases hr:rgt x with
      | false=>
        rw [hr] at HX;have HR:=Lib.hid hr;clear hr;go_wp2_with fail;refine (x7m x _ HXM.out).mono ?_;rw [HR.out];rintro e w' ⟨rfl,hb'⟩;have HB':=Lib.hid hb';clear hb';go_wp2_with fail;go_ret;exact ⟨ret_int HX.out.symm,HB.out.trans (HB'.out.mono HB.out.size)⟩
      | true=>
        rw [hr] at HX;have HR:=Lib.hid hr;clear hr;go_wp2_with fail;refine (x7m x _ HXM.out).mono ?_;rw [HR.out];rintro e w' ⟨rfl,hb'⟩;have HB':=Lib.hid hb';clear hb';go_wp2_with fail
        go_roundw
        case rel=>exact ⟨k+1,by omega,by go_num,HB.out.trans (HB'.out.mono HB.out.size),HX⟩
        case measure=>simp [intOf]; omega
    · go_wp2_with fail;go_ret;exact ⟨ret_int (by rw [HK.out,v1i hlt]),HB.out⟩
theorem x8w (v:Value) (l:List Nd) (w:World) (h:Nds w v l) (hl:l.length≤1000000) (hm:Nms l) :
    Calls Tryz.prog 136 #[v,.func (.func 93) #[] #[]] w fun e w'=>e=.returned (.int .i64 (badAt l 0))∧Below w.heap.size w w':=by
  rcases h.form with ⟨rfl,a,cap,rfl⟩ | ⟨b,off,cap,rfl,_,hat⟩
  · exact index_empty a cap w
  · exact y8m b off cap l w hat hl hm
theorem y6l (v:Value) (l:List Nd) (w:World) (h:Nds w v l) (hl:l.length≤1000000) (hm:Nms l) :
    Calls Tryz.prog 92 #[v,.func (.func 93) #[] #[]] w fun e w'=>e=.returned (.bool (!l.all rgt))∧Below w.heap.size w w':=by
  have H:=Lib.hid h;have HM:=Lib.hid hm;have HQ:=Lib.hid (v1h l 0);obtain ⟨q,hq⟩:∃ q,badAt l 0=q:=⟨_,rfl⟩
  rw [hq] at HQ;have HC:=Lib.hid hq;clear h hm hq
  go_enter Tryz.func92,Tryz.ntmps92
  go_wp2_with fail;refine (x8w v l _ H.out hl HM.out).mono ?_;rw [HC.out];rintro e w' ⟨rfl,hb⟩;have HB:=Lib.hid hb;clear hb;go_wp2_with fail;go_ret;exact ⟨ret_bool HQ.out,HB.out⟩
theorem y0s (v:Value) (l:List Nd) (w:World) (h:Nds w v l) (hl:l.length≤1000) (hm:Nms l) :
    Calls Tryz.prog 61 #[v] w fun e w'=>e=.returned (.bool (whole l))∧Below w.heap.size w w':=by
  have H:=Lib.hid h;have HM:=Lib.hid hm;obtain ⟨_,a,cap,rfl,-⟩:=h;clear hm
  by_cases q1:1≤l.length
  · by_cases q2:l.length≤200
    · have hz:=size_le l;obtain ⟨z,hzz⟩:∃ z,size l=z:=⟨_,rfl⟩
      have HZ:=Lib.hid hzz;rw [hzz] at hz
      by_cases q3:z=l.length
      · have HW:Hid (whole l=l.all rgt):=by
          show _=_
          unfold whole;rw [decide_eq_true q1,decide_eq_true q2,hzz,decide_eq_true q3];simp
        have g0:((z:Int) != (l.length:Int))=false:=by rw [bne_eq_false_iff_eq]; omega
        have g1:((l.length:Int)==0)=false:=by rw [beq_eq_false_iff_ne]; omega
        obtain ⟨r,hr⟩:∃ r,l.all rgt=r:=⟨_,rfl⟩
        rw [hr] at HW;have HR:=Lib.hid hr;have HQ3:=Lib.hid q3;clear hzz hr q3
        go_enter Tryz.func61,Tryz.ntmps61
        go_wp2_with fail;refine (z2j _ l _ H.out (by omega)).mono ?_;rw [HZ.out];rintro e w' ⟨rfl,hb⟩;have HB:=Lib.hid hb;clear hb;go_wp2_with fail;refine (y6l _ l _ (H.out.below HB.out) (by omega) HM.out).mono ?_;rw [HR.out];rintro e w'' ⟨rfl,hb⟩;have HB2:=Lib.hid hb;clear hb;go_wp2_with fail;go_ret;exact ⟨ret_bool HW.out.symm,HB.out.trans (HB2.out.mono HB.out.size)⟩
      · have HW:Hid (whole l=false):=by
          show _=_
          unfold whole;rw [hzz,decide_eq_false q3,Bool.and_false]
        have g0:((z:Int) != (l.length:Int))=true:=by rw [bne_iff_ne]; omega
        have g1:((l.length:Int)==0)=false:=by rw [beq_eq_false_iff_ne]; omega
        clear hzz q3
        go_enter Tryz.func61,Tryz.ntmps61
        go_wp2_with fail;refine (z2j _ l _ H.out (by omega)).mono ?_;rw [HZ.out];rintro e w' ⟨rfl,hb⟩;have HB:=Lib.hid hb;clear hb;go_wp2_with fail;go_ret;exact ⟨ret_bool HW.out.symm,HB.out⟩
    · have HW:Hid (whole l=false):=by
        show _=_
        unfold whole;rw [decide_eq_false q2,Bool.and_false,Bool.and_false]
        rfl
      have g1:((l.length:Int)==0)=false:=by rw [beq_eq_false_iff_ne]; omega
      go_enter Tryz.func61,Tryz.ntmps61
      go_wp2_with fail;go_ret;exact ⟨ret_bool HW.out.symm,Below.refl _ _⟩
  · have HW:Hid (whole l=false):=by
      show _=_
      unfold whole;rw [decide_eq_false q1,Bool.false_and,Bool.and_false]
      rfl
    have g1:((l.length:Int)==0)=true:=by rw [beq_iff_eq]; omega
    go_enter Tryz.func61,Tryz.ntmps61
    go_wp2_with fail;go_ret;exact ⟨ret_bool HW.out.symm,Below.refl _ _⟩

end Rx
namespace So
open Go Go.RowKit Rw

end So
namespace Sx
open Rw So
def pl (s:Nat):Bool:=s==1||s==3
def pd (s:Nat):Bool:=s==2||s==4
def on (s:Nat):Bool:=s==3||s==4
def fit (k:Int) (a b:Nat):Bool:=
  if k=9 then pd a else if k=14 then a==1 else if k=13 then pd a&&b==1
  else if k=10 then !on a&&(pl a&&b==1) else if k=8∨k=12 then pl a&&b==1
  else if k=6 then !on a&&(!on b&&(pl a&&pl b||pd a&&pd b)) else if k=5 then !on b&&(pl a&&pl b||pd a&&pd b)
  else if k=7 then pl a&&pl b||pd a&&pd b else true
def made (k:Int) (a b:Nat):Nat:=
  if k=5∨k=6∨k=7∨k=8 then max a b else if k=9 then (if a=4 then 3 else 1) else if k=11 then 3
  else if k=10 then 2 else if k=12∨k=13∨k=14 then 4 else 1
def comb (k:Int) (a b:Nat):Nat:=if fit k a b then made k a b else 0
theorem z6s (l:List Nd):first l≤4:=by
  unfold first
  repeat' split
  all_goals omega
theorem apart_of (l:List Nd):¬ (Is 3 l=true∧Is 4 l=true):=apart l.length l (Nat.le_refl _)
theorem x0z (l:List Nd):Is 1 l=(first l==1)∧Is 2 l=(first l==2)∧Is 3 l=pl (first l)∧Is 4 l=pd (first l):=by
  have h:=apart_of l;have h1:=@z0j l;have h2:=@z1p l;unfold first
  cases e1:Is 1 l <;> cases e2:Is 2 l <;> cases e3:Is 3 l <;> cases e4:Is 4 l <;> simp [e1,e2,e3,e4,pl,pd] at h h1 h2 ⊢
def p1 (k:Int) (a b:Nat):Bool:=if k=1∨k=2∨k=3∨k=4 then true else if k=5∨k=6∨k=7∨k=8 then a==1&&b==1 else if k=9 then a==2 else false
def p2 (k:Int) (a b:Nat):Bool:=if k=10 then a==1&&b==1 else if k=5∨k=6∨k=7 then a==2&&b==2 else false
def p3 (k:Int) (a b:Nat):Bool:=if k=11 then true else if k=5∨k=8 then pl a&&b==1 else if k=7 then pl a&&pl b else if k=9 then pd a else false
def p4 (k:Int) (a b:Nat):Bool:=if k=12 then pl a&&b==1 else if k=5 then pd a&&b==2 else if k=7 then pd a&&pd b else if k=13 then pd a&&b==1 else if k=14 then a==1 else false
def step (k:Int) (a b:Nat):Nat:=if p1 k a b then 1 else if p2 k a b then 2 else if p1 k a b||p3 k a b then 3 else if p2 k a b||p4 k a b then 4 else 0
theorem x3x (l:List Nd):first l=step (hd l) (first (k0 l)) (first (k1 l)):=by
  obtain ⟨a1,a2,a3,a4⟩:=x0z (k0 l);obtain ⟨b1,b2,b3,b4⟩:=x0z (k1 l)
  have h1:Is 1 l=p1 (hd l) (first (k0 l)) (first (k1 l)):=by
    rw [z2n]; unfold plainB p1; rw [a1,a2,b1]
  have h2:Is 2 l=p2 (hd l) (first (k0 l)) (first (k1 l)):=by
    rw [z2m]; unfold pairedB p2; rw [a1,a2,b1,b2]
  have h3:Is 3 l=(p1 (hd l) (first (k0 l)) (first (k1 l))||p3 (hd l) (first (k0 l)) (first (k1 l))):=by
    rw [z0z,← z2n,h1]; unfold plainOnB p3; rw [a3,a4,b1,b3]
  have h4:Is 4 l=(p2 (hd l) (first (k0 l)) (first (k1 l))||p4 (hd l) (first (k0 l)) (first (k1 l))):=by
    rw [z1o,← z2m,h2]; unfold pairedOnB p4; rw [a1,a3,a4,b1,b2,b4]
  rw [first,h1,h2,h3,h4]
  rfl
theorem steps:∀ k∈([1,2,3,4,5,6,7,8,9,10,11,12,13,14]:List Int),∀ a∈([0,1,2,3,4]:List Nat),∀ b∈([0,1,2,3,4]:List Nat),step k a b=comb k a b:=by decide +kernel
theorem mem5 {a:Nat} (h:a≤4):a∈([0,1,2,3,4]:List Nat):=by
  simp only [List.mem_cons,List.not_mem_nil,or_false];omega
theorem z7f {l:List Nd} (h:0≤Rw.ar (hd l)):first l=comb (hd l) (first (k0 l)) (first (k1 l)):=by
  rw [x3x];refine steps _ ?_ _ (mem5 (z6s _)) _ (mem5 (z6s _));simp only [List.mem_cons,List.not_mem_nil,or_false];exact kinds h
theorem y6a:first []=0:=by decide +kernel
theorem parts {l:List Nd} (h:Tre l):∃ n,hd l=n.k∧l=n::(kids l).flatten:=by
  have hs:Rw.size l≠0:=by rw [h.size]; have:=h.pos; omega
  cases l with
  | nil=>exact absurd h.pos (Nat.lt_irrefl 0)
  | cons n r=>
    have:=z6l hs;rw [h.size,List.take_length] at this;exact ⟨n,rfl,this.symm⟩
theorem parts0 {l:List Nd} (h:Tre l) (h0:Rw.ar (hd l)=0):∃ n,hd l=n.k∧l=[n]∧first l=comb n.k 0 0:=by
  obtain ⟨n,hn,hl⟩:=parts h
  have hk:kids l=[]:=by
    have:=h.kids.1;rw [h0] at this;exact List.eq_nil_of_length_eq_zero this
  refine ⟨n,hn,by rw [hl,hk]; rfl,?_⟩;rw [z7f (by omega),hn,show k0 l=[] by unfold k0; rw [hk]; rfl,show k1 l=[] by unfold k1; rw [hk]; rfl,y6a]
theorem parts1 {l:List Nd} (h:Tre l) (h0:Rw.ar (hd l)=1):∃ n a,hd l=n.k∧l=n::a∧Tre a∧first l=comb n.k (first a) 0:=by
  obtain ⟨n,hn,hl⟩:=parts h;obtain ⟨a,hk,ha,_⟩:=h.one h0;refine ⟨n,a,hn,by rw [hl,hk]; simp,ha,?_⟩;rw [z7f (by omega),hn,show k0 l=a by unfold k0; rw [hk]; rfl,show k1 l=[] by unfold k1; rw [hk]; rfl,y6a]
theorem parts2 {l:List Nd} (h:Tre l) (h0:Rw.ar (hd l)=2):∃ n a b,hd l=n.k∧l=n::(a++b)∧Tre a∧Tre b∧first l=comb n.k (first a) (first b):=by
  obtain ⟨n,hn,hl⟩:=parts h;obtain ⟨a,b,hk,ha,hb,_⟩:=h.two h0;refine ⟨n,a,b,hn,by rw [hl,hk]; simp,ha,hb,?_⟩;rw [z7f (by omega),hn,show k0 l=a by unfold k0; rw [hk]; rfl,show k1 l=b by unfold k1; rw [hk]; rfl]
end Sx
namespace Tr
open Go Go.RowKit
theorem TrCells.take {w:World}:∀ {cs:List Value} {ts:List Tr},TrCells w cs ts→∀ k,TrCells w (cs.take (k*2)) (ts.take k)
  | [],[],_,k=>by simp [TrCells]
  | a::e::cs,t::ts,h,0=>by simp [TrCells]
  | a::e::cs,t::ts,h,k+1=>by
    rw [show (k+1)*2=k*2+1+1 by omega];exact ⟨h.1,h.2.1,TrCells.take h.2.2 k⟩
  | [],_::_,h,_=>h.elim
  | [_],[],h,_=>h.elim
  | [_],_::_,h,_=>h.elim
  | _::_::_,[],h,_=>h.elim
theorem TrCells.drop {w:World}:∀ {cs:List Value} {ts:List Tr},TrCells w cs ts→∀ k,TrCells w (cs.drop (k*2)) (ts.drop k)
  | [],[],_,k=>by simp [TrCells]
  | a::e::cs,t::ts,h,0=>by simpa using h
  | a::e::cs,t::ts,h,k+1=>by
    rw [show (k+1)*2=k*2+1+1 by omega];exact TrCells.drop h.2.2 k
  | [],_::_,h,_=>h.elim
  | [_],[],h,_=>h.elim
  | [_],_::_,h,_=>h.elim
  | _::_::_,[],h,_=>h.elim
theorem Trs.take {w:World} {b off cap:Nat} {ts:List Tr} (h:Trs w (.slice (some ⟨b,off,none⟩) ts.length cap) ts) (k:Nat) (hk:k≤ts.length):Trs w (.slice (some ⟨b,off,none⟩) k cap) (ts.take k):=by
  obtain ⟨cs,⟨hl,a,cap',hv,hc,hn,hcell⟩,ht⟩:=h
  cases hv
  refine ⟨cs.take (k*2),⟨?_,some ⟨b,off,none⟩,cap,?_,?_,fun h=>(by cases h),fun h0=>?_⟩,ht.take k⟩
  · simp; omega
  · rw [List.length_take,Nat.min_eq_left hk]
  · simp; omega
  · obtain ⟨b',off',ha,hj⟩:=hcell (by simp at h0; omega)
    cases ha
    exact ⟨b,off,rfl,fun j u hu=>hj j u (by rw [List.getElem?_take] at hu; split at hu; exact hu; cases hu)⟩
theorem Trs.drop {w:World} {b off cap:Nat} {ts:List Tr} (h:Trs w (.slice (some ⟨b,off,none⟩) ts.length cap) ts) (k:Nat) (hk:k<ts.length):Trs w (.slice (some ⟨b,off+k*2,none⟩) (ts.length-k) (cap-k)) (ts.drop k):=by
  obtain ⟨cs,⟨hl,a,cap',hv,hc,hn,hcell⟩,ht⟩:=h
  cases hv
  refine ⟨cs.drop (k*2),⟨?_,some ⟨b,off+k*2,none⟩,cap-k,?_,?_,fun h=>(by cases h),fun h0=>?_⟩,ht.drop k⟩
  · simp; omega
  · simp
  · simp; omega
  · obtain ⟨b',off',ha,hj⟩:=hcell (by omega)
    cases ha
    exact ⟨b,_,rfl,fun j u hu=>by rw [Nat.add_assoc]; exact hj _ u (by rw [List.getElem?_drop] at hu; exact hu)⟩
theorem Few.sub {l m:List Tr} (h:Few l) (hl:m.length≤l.length) (hm:∀ t∈m,t∈l):Few m:=⟨Nat.le_trans hl h.1,fun t ht=>h.2 t (hm t ht)⟩
theorem Few.norm {l:List Tr} (h:Few l):Few (norm l):=h.sub (z1b l) fun t ht=>(z0s t l).1 ht
theorem x3f {l:List Tr} (h:l.length<2):norm l=l:=by
  match l,h with
  | [],_=>rfl
  | [t],_=>rfl
theorem set_any (n:Nat):∀ (x:Value) (l:List Tr) (w:World),l.length≤n→Trs w x l→Few l→
    Calls Tryz.prog 19 #[x] w fun e w'=>∃ v,e=.returned v∧Trs w' v (norm l)∧Below w.heap.size w w':=by
  induction n with
  | zero=>
    intro x l w hn hx hf;obtain rfl:l=[]:=List.eq_nil_of_length_eq_zero (by omega);obtain ⟨a,c,rfl,_⟩:=hx.val;have HX:=Lib.hid hx;clear hx hf
    go_enter Tryz.func19,Tryz.ntmps19
    go_wp2_with fail;go_ret;exact ⟨_,rfl,HX.out,Below.refl _ _⟩
  | succ n ih=>
    intro x l w hn hx hf
    by_cases h2:l.length<2
    · obtain ⟨a,c,rfl,_⟩:=hx.val;have HX:=Lib.hid hx;have HN:=Lib.hid (x3f h2);clear hx hf ih
      go_enter Tryz.func19,Tryz.ntmps19
      go_wp2_with fail;go_ret;exact ⟨_,rfl,by rw [HN.out]; exact HX.out,Below.refl _ _⟩
    · rcases hx.form with ⟨rfl,_⟩ | ⟨b,off,cap,rfl,_⟩
      · simp at h2
      have hcap:l.length≤cap:=by
        obtain ⟨_,⟨_,a,cap',hv,hc,_⟩,_⟩:=hx
        cases hv
        exact hc
      obtain ⟨hf2,hh⟩:∃ hf2,l.length / 2=hf2:=⟨_,rfl⟩
      have hh1:0<hf2:=by omega
      have hh2:hf2<l.length:=by omega
      have hh3:l.length-hf2≤n:=by omega
      have hh4:hf2≤n:=by omega
      have HT1:=Lib.hid (hx.take hf2 (by omega));have HT2:=Lib.hid (hx.drop hf2 (by omega));have IH:=Lib.hid ih;have HF:=Lib.hid hf;have hlen:=hf.1;have i1:(0:Int)≤(hf2:Int):=by omega
      have i2:(hf2:Int)≤(l.length:Int):=by omega
      have i3:(hf2:Int)≤(cap:Int):=by omega
      have i4:(l.length:Int)≤(cap:Int):=by omega
      have q1:(l.length:Int).tdiv 2=(hf2:Int):=by rw [← hh]; rfl
      have q2:IntKind.i64.wrap (hf2:Int)=(hf2:Int):=IntWalk.i64_in _ (by omega);clear hx hf ih hh
      go_enter Tryz.func19,Tryz.ntmps19
      go_wp2_with fail
      go_region_held3 (fun _=>True) (trivial) (first
        | (go_at_call 19
           (with_reducible refine (IH.out (.slice (some ⟨b,off,none⟩) hf2 cap) (l.take hf2) _ (by simp; omega) (HT1.out.below (Below.refl _ _).drew) (HF.out.sub (by simp; omega) (fun t ht=>List.mem_of_mem_take ht))).mono ?_)
           rintro e w1 ⟨v1,rfl,ht1,hb1⟩;have T1:=Lib.hid ht1;have B1:Hid (Below w.heap.size w w1):=(Below.refl _ _).drew.trans hb1;clear ht1 hb1)
        | (go_at_call 19
           (with_reducible refine (IH.out (.slice (some ⟨b,off+hf2*2,none⟩) (l.length-hf2) (cap-hf2)) (l.drop hf2) _ (by simp; omega) (HT2.out.below B1.out) (HF.out.sub (by simp) (fun t ht=>List.mem_of_mem_drop ht))).mono ?_)
           rintro e w2 ⟨v2,rfl,ht2,hb2⟩;have T2:=Lib.hid ht2;have T3:=Lib.hid (T1.out.below hb2);have B2:=Lib.hid (B1.out.trans (hb2.mono B1.out.size));clear ht2 hb2)
        | (go_at_call 44
           (with_reducible refine (x8d v1 v2 (norm (l.take hf2)) (norm (l.drop hf2)) _ T3.out T2.out (HF.out.sub (by simp; omega) (fun t ht=>List.mem_of_mem_take ht)).norm (HF.out.sub (by simp) (fun t ht=>List.mem_of_mem_drop ht)).norm ?_).mono ?_)
           · have e1:=z1b (l.take hf2);have e2:=z1b (l.drop hf2);simp at e1 e2;omega
           rintro e w3 ⟨v3,rfl,ht3,hb3⟩;have T4:=Lib.hid ht3;have B3:=Lib.hid (B2.out.trans (hb3.mono B2.out.size));clear ht3 hb3))
      go_wp2_with fail;go_ret;refine ⟨_,rfl,?_,B3.out⟩;have:=T4.out;rw [mg_norm _ _ _ (Nat.lt_succ_self _),List.take_append_drop] at this;exact this
theorem y5r:(Tryz.prog.info? 67).map (fun i=>(i.zero,i.size,i.bytes))=some (some (.agg #[.slice none 0 0,.int .i64 0]),2,32):=by kernel_rfl
theorem z8x {wk wr:World} {base:Nat} {v a:Value} {o:List Tr} {t:Tr} {cs:List Value} (hown:wr.ownsRow base 67 2 v o.length cs) (hbase:base≤wr.heap.size) (ha:Strs wk a t.a) (hlen:o.length≤2000000000000) :
    ∃ v' w',(Builtin.append_ #[40,40] 40 #[v,.slice (some ⟨wr.heap.size,0,none⟩) 1 1]).run Tryz.prog (wr.alloc (.cells #[a,.int .i64 t.e] 67))=.ok v' w'∧
      w'.ownsRow base 67 2 v' (o++[t]).length (cs++[a,.int .i64 t.e])∧wr.grownBy w' v.ownBlock∧Below base wr w'∧Ap.Fresh wr v v':=by
  obtain ⟨i0,hi,hz,hs1,hb8⟩:=info_parts y5r
  obtain ⟨v',w',h1,h2,h3,h4,h5⟩:=Ap.z0w (P:=Tryz.prog) (ty:=40) Tryz.underlying40 hi hz hs1 hb8 (by rfl) (by omega) hown hbase #[a,.int .i64 t.e] rfl
    (fun u hu=>by
      simp at hu
      rcases hu with rfl | rfl
      · exact ha.one
      · rfl) (by unfold maxLen; omega) (by omega)
  exact ⟨v',w',h1,by simpa using h2,h3,h4,h5⟩
def ShapeR (x:Value × Value):Prop:=∃ a n c a' n' c',x=(.slice a n c,.slice a' n' c')
theorem zsR (n:Nat):(Builtin.zeroCells #[.slice none 0 0,.slice none 0 0] n).toList.length=n*2∧∀ v∈(Builtin.zeroCells #[.slice none 0 0,.slice none 0 0] n).toList,v.oneCell'=true:=by
  refine ⟨by simp [Builtin.zeroCells],fun v hv=>?_⟩;obtain ⟨i,_,rfl⟩:=x4y hv
  rcases Nat.mod_two_eq_zero_or_one i with h | h
  · show ((#[.slice none 0 0,.slice none 0 0]:Array Value)[i % 2]!).oneCell'=true
    rw [h]; rfl
  · show ((#[.slice none 0 0,.slice none 0 0]:Array Value)[i % 2]!).oneCell'=true
    rw [h]; rfl
theorem compactR (g cap:Nat) (q:Value × Value→Value × Value→Bool) (xs:List (Value × Value)) (w:World) (h:Own2 w g 210 cap xs) (hlen:xs.length≤1000000000000) (hsh:∀ x∈xs,ShapeR x)
    (hq:∀ W,w.grownBy W (some g)→∀ x∈xs,∀ y∈xs,Calls Tryz.prog 240 #[.agg #[x.1,x.2],.agg #[y.1,y.2]] W fun e w'=>e=.returned (.bool (q x y))∧Below W.heap.size W w') :
    Calls Tryz.prog 239 #[.slice (some ⟨g,0,none⟩) xs.length cap,.func (.func 240) #[] #[]] w fun e w'=>e=.returned (.slice (some ⟨g,0,none⟩) (cpt q xs).length cap)∧Own2 w' g 210 cap (cpt q xs)∧w.grownBy w' (some g):=by
  have hcap:=h.len;have H:=Lib.hid h;have HS:=Lib.hid hsh;have HQ:=Lib.hid hq;clear h hsh hq
  by_cases h2:xs.length<2
  · have HX:Hid (cpt q xs=xs):=by
      match xs,h2 with
      | [],_=>exact rfl
      | [x],_=>exact rfl
    go_enter Tryz.func239,Tryz.ntmps239
    go_wp2_with fail;go_ret;rw [HX.out];exact ⟨rfl,H.out,z5u _ _⟩
  · go_enter Tryz.func239,Tryz.ntmps239
    go_wp2_with fail
    go_loopw [5] (fun kv wr=>∃ k:Nat,1≤k∧k≤xs.length∧kv=.int .i64 (k:Int)∧Own2 wr g 210 cap xs∧w.grownBy wr (some g)∧cpt q (xs.take k)=xs.take k) (fun kv _=>xs.length-(intOf kv).toNat)
    case atStart=>
      refine ⟨1,Nat.le_refl _,by omega,rfl,H.out,z5u _ _,?_⟩
      match xs,h2 with
      | x::xs,_=>simp [cpt,cptF]
    case round=>
      obtain ⟨k,hk1,hk,rfl,ho,hg,hcp⟩:=hrel;have HO:=Lib.hid ho;have HG:=Lib.hid hg;have HCP:=Lib.hid hcp;clear ho hg hcp
      by_cases hlt:k<xs.length
      · have c0:=HO.out.cell0 k hlt;have c1:=HO.out.cell1 k hlt;have d0:=HO.out.cell0 (k-1) (by omega);have d1:=HO.out.cell1 (k-1) (by omega);have M1:=Lib.hid (List.getElem_mem hlt);have M0:=Lib.hid (List.getElem_mem (show k-1<xs.length by omega));have SN:=Lib.hid (y0g q xs k hk1 hlt);have TK:=Lib.hid (List.take_succ_eq_append_getElem hlt);obtain ⟨x,hx⟩:∃ x,xs[k]=x:=⟨_,rfl⟩
        obtain ⟨y,hy⟩:∃ y,xs[k-1]'(by omega)=y:=⟨_,rfl⟩
        rw [hx] at c0 c1 M1 SN TK;rw [hy] at d0 d1 M0 SN;clear hx hy;obtain ⟨j,hjk⟩:∃ j,k-1=j:=⟨_,rfl⟩
        have HW1:=Lib.hid (z3k k j hjk hk1 (by omega));have hjlt:j<xs.length:=by omega
        rw [hjk] at d0 d1;have HJK:=Lib.hid hjk;clear hjk;have QC:=Lib.hid (fun W hW=>HQ.out W hW x M1.out y M0.out)
        cases hxy:q x y with
        | false=>
          rw [hxy] at QC SN;obtain ⟨x1,x2⟩:=x;obtain ⟨y1,y2⟩:=y;go_wp2_with fail
          go_still_tail 10,(by kernel_rfl)
          simp only [HW1.out]
          repeat still_step
          refine wpStill_nil ?_;change wpList _ _ _ _ _ wr.drew;go_wp2_with fail;refine (QC.out _ (z0c HG.out (z0u _ _))).mono ?_;rintro e w1 ⟨rfl,hb1⟩;have G1:=Lib.hid (z0c (z0c HG.out (z0u _ _)) (z0r hb1));have O1:=Lib.hid (HO.out.below ((Below.refl _ _).drew.trans hb1));clear hb1;go_wp2_with fail
          go_roundw
          case rel=>exact ⟨k+1,by omega,by omega,by go_num,O1.out,G1.out,by rw [SN.out,HCP.out,TK.out]; rfl⟩
          case measure=>simp [intOf]; omega
        | true=>
          rw [hxy] at QC SN;obtain ⟨x1,x2⟩:=x;obtain ⟨y1,y2⟩:=y;go_wp2_with fail
          go_still_tail 10,(by kernel_rfl)
          simp only [HW1.out]
          repeat still_step
          refine wpStill_nil ?_;change wpList _ _ _ _ _ wr.drew;go_wp2_with fail;refine (QC.out _ (z0c HG.out (z0u _ _))).mono ?_;rintro e w1 ⟨rfl,hb1⟩;have G1:=Lib.hid (z0c (z0c HG.out (z0u _ _)) (z0r hb1));have O1:=Lib.hid (HO.out.below ((Below.refl _ _).drew.trans hb1));clear hb1 c0 c1 d0 d1;go_wp2_with fail
          go_loopw [5,7] (fun kv k2v wr=>∃ kk k2:Nat,kv=.int .i64 (kk:Int)∧k2v=.int .i64 (k2:Int)∧1≤k2∧k+k2≤xs.length∧kk=(cpt q (xs.take (k+k2))).length∧kk<k+k2∧Own2 wr g 210 cap (cpt q (xs.take (k+k2))++xs.drop kk)∧w.grownBy wr (some g)) (fun _ k2v _=>xs.length-(k+(intOf k2v).toNat))
          case atStart=>
            have e0:cpt q (xs.take (k+1))=xs.take k:=by rw [SN.out,HCP.out]; simp
            refine ⟨k,1,rfl,rfl,Nat.le_refl _,by omega,by rw [e0,List.length_take]; omega,by omega,?_,G1.out⟩;rw [e0,List.take_append_drop];exact O1.out
          case round=>
            obtain ⟨kk,k2,rfl,rfl,hk2,hle,hkk,hkl,ho2,hg2⟩:=hrel;have HKK:=Lib.hid hkk;have HO2:=Lib.hid ho2;have HG2:=Lib.hid hg2;clear hkk ho2 hg2
            by_cases hlt2:k+k2<xs.length
            · have ey:∀ m (hm:m<xs.length) (hk:kk≤m),∃ hm':m<(cpt q (xs.take (k+k2))++xs.drop kk).length,(cpt q (xs.take (k+k2))++xs.drop kk)[m]=xs[m]:=fun m hm hk=>by
                refine ⟨by simp [← HKK.out]; omega,?_⟩;rw [List.getElem_append_right (by rw [← HKK.out]; exact hk)];simp [← HKK.out,Nat.add_sub_cancel' hk]
              obtain ⟨hA,eA⟩:=ey (k+k2) hlt2 (by omega);obtain ⟨hB,eB⟩:=ey (k+k2-1) (by omega) (by omega);have c0:=HO2.out.cell0 _ hA;have c1:=HO2.out.cell1 _ hA;have d0:=HO2.out.cell0 _ hB;have d1:=HO2.out.cell1 _ hB;rw [eA] at c0 c1;rw [eB] at d0 d1;have M1':=Lib.hid (List.getElem_mem hlt2);have M0':=Lib.hid (List.getElem_mem (show k+k2-1<xs.length by omega));have SN':=Lib.hid (y0g q xs (k+k2) (by omega) hlt2);have DK:=Lib.hid (List.drop_eq_getElem_cons (show kk<xs.length by omega));obtain ⟨u,hu⟩:∃ u,xs[k+k2]=u:=⟨_,rfl⟩
              obtain ⟨v,hv⟩:∃ v,xs[k+k2-1]'(by omega)=v:=⟨_,rfl⟩
              rw [hu] at c0 c1 M1' SN';rw [hv] at d0 d1 M0' SN';clear hu hv eA eB ey;have f0:=HO2.out.soft (kk*2);have f1:=HO2.out.soft (kk*2+1);have t0:=HO2.out.there (kk*2) (by omega);have t1:=HO2.out.there (kk*2+1) (by omega);obtain ⟨o0,t0⟩:=Option.isSome_iff_exists.1 t0;obtain ⟨o1,t1⟩:=Option.isSome_iff_exists.1 t1;rw [show (k+k2)*2=k*2+k2*2 by omega] at c0 c1;rw [show (k+k2-1)*2=k*2+(k2-1)*2 by omega] at d0 d1;obtain ⟨j2,hjk2⟩:∃ j2,k2-1=j2:=⟨_,rfl⟩
              have HW2:=Lib.hid (z3k k2 j2 hjk2 hk2 (by omega));have hjlt2:j2<xs.length-k:=by omega
              have hklt2:k2<xs.length-k:=by omega
              rw [hjk2] at d0 d1;have HJK2:=Lib.hid hjk2;clear hjk2;have QC2:=Lib.hid (fun W hW=>HQ.out W hW u M1'.out v M0'.out)
              cases huv:q u v with
              | true=>
                rw [huv] at QC2 SN';obtain ⟨u1,u2⟩:=u;obtain ⟨v1,v2⟩:=v;go_wp2_with fail
                go_still_tail 10,(by kernel_rfl)
                simp only [HW2.out]
                repeat still_step
                refine wpStill_nil ?_;change wpList _ _ _ _ _ wr.drew;go_wp2_with fail;refine (QC2.out _ (z0c HG2.out (z0u _ _))).mono ?_;rintro e w2 ⟨rfl,hb2⟩;have G2:=Lib.hid (z0c (z0c HG2.out (z0u _ _)) (z0r hb2));have O2:=Lib.hid (HO2.out.below ((Below.refl _ _).drew.trans hb2));clear hb2;go_wp2_with fail
                go_roundw
                case rel=>
                  have e1:cpt q (xs.take (k+(k2+1)))=cpt q (xs.take (k+k2)):=by
                    rw [show k+(k2+1)=k+k2+1 by omega];have:=SN'.out
                    simpa using this
                  refine ⟨kk,k2+1,rfl,by go_num,by omega,by omega,by rw [e1]; exact HKK.out,by omega,?_,G2.out⟩;rw [e1];exact O2.out
                case measure=>simp [intOf]; omega
              | false=>
                rw [huv] at QC2 SN';obtain ⟨a',n',c',a3,n3,c3,rfl⟩:=HS.out u M1'.out;obtain ⟨v1,v2⟩:=v;go_wp2_with fail
                go_still_tail 10,(by kernel_rfl)
                simp only [HW2.out]
                repeat still_step
                refine wpStill_nil ?_;change wpList _ _ _ _ _ wr.drew;go_wp2_with fail;refine (QC2.out _ (z0c HG2.out (z0u _ _))).mono ?_;rintro e w2 ⟨rfl,hb2⟩;have hD:Below wr.heap.size wr w2:=(Below.refl _ _).drew.trans hb2;have G2:=Lib.hid (z0c (z0c HG2.out (z0u _ _)) (z0r hb2));have O2:=Lib.hid (HO2.out.below hD);have hgl:=HO2.out.lt;rw [← hD.cell (p:=⟨g,k*2+k2*2,none⟩) hgl] at c0;rw [← hD.cell (p:=⟨g,k*2+k2*2+1,none⟩) hgl] at c1;rw [← hD.cell (p:=⟨g,kk*2,none⟩) hgl] at t0;rw [← hD.cell (p:=⟨g,kk*2+1,none⟩) hgl] at t1;rw [← hD.frozen (p:=⟨g,kk*2,none⟩) hgl] at f0;rw [← hD.frozen (p:=⟨g,kk*2+1,none⟩) hgl] at f1;clear hb2 hD d0 d1;go_wp2_with fail
                go_roundw
                case rel=>
                  have e1:cpt q (xs.take (k+(k2+1)))=cpt q (xs.take (k+k2))++[(.slice a' n' c',.slice a3 n3 c3)]:=by
                    rw [show k+(k2+1)=k+k2+1 by omega];have:=SN'.out
                    simpa using this
                  refine ⟨kk+1,k2+1,by go_num,by go_num,by omega,by omega,by rw [e1,List.length_append,← HKK.out]; rfl,by omega,?_,z0c G2.out (z0c (z0n _ _ _ _) (z0n _ _ _ _))⟩;have:=O2.out.store kk (by simp [← HKK.out]; omega) (.slice a' n' c') (.slice a3 n3 c3);rw [DK.out] at this;rw [e1];have e3:=set_mid (cpt q (xs.take (k+k2))) (xs.drop (kk+1)) (xs[kk]'(by omega)) (.slice a' n' c',.slice a3 n3 c3);rw [← HKK.out] at e3;rw [e3] at this
                  simpa using this
                case measure=>simp [intOf]; omega
            · have hend:k+k2=xs.length:=by omega
              have hcl:∀ ty,(Builtin.clear_ #[206] ty #[.slice (some ⟨g,kk*2,none⟩) (xs.length-kk) (cap-kk)]).run Tryz.prog wr=.ok (.tuple #[]) (wr.setCells g (kk*2) (Builtin.zeroCells #[.slice none 0 0,.slice none 0 0] (xs.length-kk)).toList):=
                fun ty=>y1a wr _ _ ty (.agg #[.slice none 0 0,.slice none 0 0]) Tryz.underlying206 Tryz.zeroValue210 g (kk*2) _ _ (by omega) (zsR _).1 (zsR _).2 (fun j hj=>HO2.out.there _ (by omega)) (fun j hj=>HO2.out.soft _)
              have ET:Hid (cpt q (xs.take (k+k2))=cpt q xs):=by rw [hend,List.take_length]; exact rfl
              have KC:=HKK.out;rw [ET.out] at KC;have O3:=HO2.out.take kk;rw [ET.out,List.take_left' KC.symm] at O3;have HO3:=Lib.hid O3;have HKC:=Lib.hid KC;clear O3 KC;go_wp2_with fail;go_ret;refine ⟨by rw [← HKC.out]; go_num,HO3.out.setOut _ _ _ (by rw [← HKC.out]; exact Nat.le_refl _),z0c HG2.out (z3d _ _ _ _)⟩
      · have hend:k=xs.length:=by omega
        have HX:Hid (cpt q xs=xs):=by
          have:=HCP.out;rw [hend,List.take_length] at this;exact this
        go_wp2_with fail;go_ret;rw [HX.out];exact ⟨rfl,HO.out,HG.out⟩
theorem x8u:(Tryz.prog.info? 68).map (fun i=>(i.zero,i.size,i.bytes))=some (some (.agg #[.slice none 0 0,.int .i64 0]),2,32):=by kernel_rfl
theorem z8w {wk wr:World} {base:Nat} {v a:Value} {o:List Tr} {t:Tr} {cs:List Value} (hown:wr.ownsRow base 68 2 v o.length cs) (hbase:base≤wr.heap.size) (ha:Strs wk a t.a) (hlen:o.length≤2000000000000) :
    ∃ v' w',(Builtin.append_ #[37,37] 37 #[v,.slice (some ⟨wr.heap.size,0,none⟩) 1 1]).run Tryz.prog (wr.alloc (.cells #[a,.int .i64 t.e] 68))=.ok v' w'∧
      w'.ownsRow base 68 2 v' (o++[t]).length (cs++[a,.int .i64 t.e])∧wr.grownBy w' v.ownBlock∧Below base wr w'∧Ap.Fresh wr v v':=by
  obtain ⟨i0,hi,hz,hs1,hb8⟩:=info_parts x8u
  obtain ⟨v',w',h1,h2,h3,h4,h5⟩:=Ap.z0w (P:=Tryz.prog) (ty:=37) Tryz.underlying37 hi hz hs1 hb8 (by rfl) (by omega) hown hbase #[a,.int .i64 t.e] rfl
    (fun u hu=>by
      simp at hu
      rcases hu with rfl | rfl
      · exact ha.one
      · rfl) (by unfold maxLen; omega) (by omega)
  exact ⟨v',w',h1,by simpa using h2,h3,h4,h5⟩
theorem olds_any (x:Value) (ts:List Tr) (w:World) (hx:Trs w x ts) (hn:ts.length≤1000000000000) :
    Calls Tryz.prog 20 #[x] w fun e w'=>∃ v,e=.returned v∧Trs w' v ts∧Below w.heap.size w w':=by
  obtain ⟨a1,c1,rfl,_,h1⟩:=hx.val;have H1:=Lib.hid h1;clear h1 hx
  go_enter Tryz.func20,Tryz.ntmps20
  go_wp2_with fail
  go_loopw [3,8] (fun v i wr=>∃ (k:Nat) (cs:List Value),k≤ts.length∧i=.int .i64 k∧Below w.heap.size w wr∧wr.ownsRow w.heap.size 68 2 v (ts.take k).length cs∧TrCells w cs (ts.take k)) (fun _ i _=>ts.length-(intOf i).toNat)
  case atStart=>exact ⟨0,[],Nat.zero_le _,rfl,Below.refl _ _,⟨rfl,.inl ⟨rfl,rfl⟩⟩,trivial⟩
  case round=>
    obtain ⟨k,cs,hk,rfl,hb,hown,hcs⟩:=hrel;have HB:=Lib.hid hb;have HO:=Lib.hid hown;have HC:=Lib.hid hcs;clear hb hown hcs
    by_cases hlt:k<ts.length
    · obtain ⟨b1,o1,a,rfl,e1,e2,hs⟩:=H1.out k hlt;have c1':wr.cell? ⟨b1,o1+k*2,none⟩=some a:=by rw [Nat.mul_comm k 2,HB.out.cell (Ap.z0a e1)]; exact e1
      have c2':wr.cell? ⟨b1,o1+k*2+1,none⟩=some (.int .i64 ts[k].e):=by rw [Nat.mul_comm k 2,HB.out.cell (Ap.z0a e2)]; exact e2
      have HT:=Lib.hid (List.take_succ_eq_append_getElem hlt);have HS:=Lib.hid hs;generalize ts[k]=t at *;obtain ⟨_,av,cv,rfl,_⟩:=hs;clear e1 e2;have B1:Hid (Below wr.heap.size wr (wr.alloc (.cells #[.slice av t.a.length cv,.int .i64 t.e] 67))):=(Below.refl _ _).alloc (Nat.le_refl _) _;obtain ⟨v2,w2,hrun,ho2,_,hb2,_⟩:=z8w (t:=t) (Ap.own_below HO.out B1.out) (Nat.le_trans HB.out.size B1.out.size) HS.out (by simp; omega);rw [show (wr.alloc (.cells #[.slice av t.a.length cv,.int .i64 t.e] _)).heap.size=wr.heap.size+1 by simp] at hrun;have HRUN:=Lib.hid hrun;have O2:=Lib.hid ho2;have B2:=Lib.hid ((HB.out.trans (B1.out.mono HB.out.size)).trans hb2);clear hrun ho2 hb2;go_wp2_with (at_builtin; refine Ap.wpList_append_run (by rfl) _ _ _ _ rfl _ _ rfl rfl v2 w2 HRUN.out ?_)
      go_roundw
      case rel=>exact ⟨k+1,_,by omega,by go_num,B2.out,by rw [HT.out]; exact O2.out,by rw [HT.out]; exact HC.out.snoc HS.out⟩
      case measure=>simp [intOf]; omega
    · go_wp2_with fail;go_ret;refine ⟨_,rfl,?_,HB.out⟩;have h1:=HO.out;have h2:=HC.out;rw [List.take_of_length_le (by omega)] at h1 h2;exact ⟨cs,Ap.Rd.owned h1,h2.below HB.out⟩
end Tr
namespace Pl
open Go Rw So
theorem zz_zero {l:List Nd} (h:Tre l):zz l 0=l.length:=by
  unfold zz;rw [List.drop_zero];exact h.size
/-! ### Below one node more,and beside one another -/
def one (l:List Nd):Bool:=decide (0<l.length)&&decide (Rw.size l=l.length)
theorem y7x {l:List Nd}:one l=true↔Tre l:=by
  unfold one;rw [Bool.and_eq_true,decide_eq_true_eq,decide_eq_true_eq]
  constructor
  · rintro ⟨h1,h2⟩;exact Tre.of_size h2 (fun e=>by rw [e] at h1; exact absurd h1 (Nat.lt_irrefl 0))
  · intro h;exact ⟨h.pos,h.size⟩
end Pl
namespace Rw
open Go Go.RowKit
structure Kp (w0:World) (v:Value) (l:List Nd) (w:World):Prop where
  bel:Below w0.heap.size w0 w
  nds:Nds w v l
end Rw
namespace So
open Go Go.RowKit Rw
theorem whole_tre {l:List Nd} (h:whole l=true):Tre l:=by
  unfold whole at h;simp only [Bool.and_eq_true,decide_eq_true_eq] at h;exact Tre.of_size h.2 (fun e=>by rw [e] at h; exact absurd h.1.2.1 (by decide))
def Not (l:List Nd) (s:Nat):Prop:=∀ i,1≤i→i<s→Is i l=false
end So
end Go.Proofs.YtaapnkoooofalaaGreat
