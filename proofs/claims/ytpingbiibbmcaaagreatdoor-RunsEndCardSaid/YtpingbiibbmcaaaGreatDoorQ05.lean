/- Laws that the last text leans on. -/
import Derived.Test.YtpingbiibbmcaaaGreatDoorQ04
import Derived.Test.YtpingbiibbmcaaaGreatDoorCards
import Derived.Test.YtpingbiibbmcaaaGreatDoorTie
import Derived.JoinedCond
import Derived.Deep.RegionHeld3
import Derived.StillTailTactics
import Derived.Deep.Strs
import Derived.Deep.Slices
import Derived.Lib.SmallJoins
import Derived.SliceStrings

set_option maxRecDepth 100000
set_option maxHeartbeats 2000000
namespace Go.Proofs.YtpingbiibbmcaaaGreatDoor
namespace Rw
open Go Go.RowKit
theorem str_ne {s:ByteArray} {l:List UInt8} (h:¬ s=⟨l.toArray⟩):(l==s.toList)=false:=by
  rw [beq_eq_false_iff_ne];intro e
  apply h
  have:s.data.toList=s.toList:=(ByteArray.toList_eq s).symm;rw [← this] at e
  cases s with
  | mk d=>simp at e; subst e; rfl
theorem z1o {s:ByteArray} {l:List UInt8} (h:¬ s=⟨l.toArray⟩):(s.toList==l)=false:=by
  have:=str_ne h;rw [beq_eq_false_iff_ne] at this ⊢;exact fun e=>this e.symm
def w1:ByteArray:=⟨#[115,107,105,112]⟩
def w2:ByteArray:=⟨#[116,104,114,111,119]⟩
def w3:ByteArray:=⟨#[121,105,101,108,100]⟩
def w4:ByteArray:=⟨#[115,107,105,112,112]⟩
def w5:ByteArray:=⟨#[116,104,114,111,119,119]⟩
def w6:ByteArray:=⟨#[121,105,101,108,100,100]⟩
def wordB (s:ByteArray):Bool:=decide (s=w1∨s=w2∨s=w3∨s=w4∨s=w5∨s=w6)
theorem word_any (s:ByteArray) (w:World):Calls Tryz.prog 282 #[.string s] w fun e w'=>e=.returned (.bool (wordB s))∧w=w':=by
  by_cases h:s=w1∨s=w2∨s=w3∨s=w4∨s=w5∨s=w6
  · have hb:wordB s=true:=by simpa [wordB] using h
    rw [hb];clear hb
    rcases h with rfl | rfl | rfl | rfl | rfl | rfl
    all_goals
      simp only [w1,w2,w3,w4,w5,w6]
      go_enter Tryz.func282,Tryz.ntmps282
      go_wp2_with fail;go_ret;exact ⟨rfl,rfl⟩
  · have hb:wordB s=false:=by simpa [wordB] using h
    rw [hb];clear hb;simp only [not_or] at h;obtain ⟨h1,h2,h3,h4,h5,h6⟩:=h;have e1:=z1o (l:=[115,107,105,112]) h1;have e2:=z1o (l:=[116,104,114,111,119]) h2;have e3:=z1o (l:=[121,105,101,108,100]) h3;have e4:=z1o (l:=[115,107,105,112,112]) h4;have e5:=z1o (l:=[116,104,114,111,119,119]) h5;have e6:=z1o (l:=[121,105,101,108,100,100]) h6;clear h1 h2 h3 h4 h5 h6
    go_enter Tryz.func282,Tryz.ntmps282
    go_wp2_with fail;go_ret;exact ⟨rfl,rfl⟩
def low (l:List UInt8):Bool:=l.all fun c=>decide (97≤c.toNat)&&decide (c.toNat≤122)
theorem y3s (s:ByteArray) (k:Nat) (h:k<s.size):low (s.data.toList.take (k+1))=(low (s.data.toList.take k)&&(decide (97≤s[k].toNat)&&decide (s[k].toNat≤122))):=by
  unfold low;rw [List.take_succ_eq_append_getElem (by simpa using h),List.all_append];simp
  rfl
theorem low_no {s:ByteArray} {k:Nat} (h:k<s.size) (hb:(decide (97≤s[k].toNat)&&decide (s[k].toNat≤122))=false):low s.data.toList=false:=by
  have:=y3s s k h;rw [hb,Bool.and_false] at this;unfold low at this ⊢;rw [List.all_eq_false] at this ⊢;obtain ⟨x,hx,hn⟩:=this;exact ⟨x,List.mem_of_mem_take hx,hn⟩
def rgt (x:Nd):Bool:=
  if ar x.k<0 then false
  else if x.k=1 then low x.n.data.toList&&(decide (1≤x.n.size)&&decide (x.n.size≤8))&&(x.s==0)&&!wordB x.n
  else if x.k=11∨x.k=14 then decide (x.n.size=0)&&(decide (1≤x.s)&&decide (x.s≤3))
  else decide (x.n.size=0)&&(x.s==0)
theorem right_no (x:Nd) (w:World) (h:ar x.k<0):Calls Tryz.prog 237 #[.agg #[.int .i64 x.k,.string x.n,.int .i64 x.s]] w fun e w'=>e=.returned (.bool (rgt x))∧Below w.heap.size w w':=by
  have hr:rgt x=false:=by unfold rgt; rw [if_pos h]
  rw [hr];clear hr;obtain ⟨k,n,s⟩:=x;obtain ⟨a,ha⟩:∃ a,ar k=a:=⟨_,rfl⟩
  simp only at h;rw [ha] at h;have HA:=Lib.hid ha;clear ha
  go_enter Tryz.func237,Tryz.ntmps237
  go_wp2_with fail;refine (z1q _ _).mono ?_;rw [HA.out];rintro e w' ⟨rfl,rfl⟩;go_wp2_with fail;go_ret;exact ⟨rfl,(Below.refl _ _).alloc (Nat.le_refl _) _⟩
theorem z9g (n:ByteArray) (s:Int):rgt ⟨1,n,s⟩=(low n.data.toList&&(decide (1≤n.size)&&decide (n.size≤8))&&(s==0)&&!wordB n):=by
  unfold rgt;rw [if_neg (show ¬ ar 1<0 from by decide),if_pos rfl]
theorem z3a {k:Int} (n:ByteArray) (s:Int) (h:k=11∨k=14):rgt ⟨k,n,s⟩=(decide (n.size=0)&&(decide (1≤s)&&decide (s≤3))):=by
  unfold rgt;rw [if_neg (show ¬ ar k<0 from by rcases h with rfl | rfl <;> decide),if_neg (show ¬ k=1 from by omega),if_pos h]
theorem z5x {k:Int} (n:ByteArray) (s:Int) (h0:¬ ar k<0) (h1:¬ k=1) (h:¬ (k=11∨k=14)):rgt ⟨k,n,s⟩=(decide (n.size=0)&&(s==0)):=by
  unfold rgt;rw [if_neg h0,if_neg h1,if_neg h]
theorem x8r (n:ByteArray) (s:Int) (w:World) (hn:n.size≤140737488355328):Calls Tryz.prog 237 #[.agg #[.int .i64 1,.string n,.int .i64 s]] w fun e w'=>e=.returned (.bool (rgt ⟨1,n,s⟩))∧Below w.heap.size w w':=by
  have HR:=Lib.hid (z9g n s)
  go_enter Tryz.func237,Tryz.ntmps237
  go_wp2_with fail;refine (z1q _ _).mono ?_;rintro e w' ⟨rfl,rfl⟩;rw [show ar 1=0 from rfl];go_wp2_with fail
  go_loop [3] (fun i=>∃ j:Nat,j≤n.size∧i=.int .i64 j∧Hid (low (n.data.toList.take j)=true)) (fun i=>n.size-(intOf i).toNat)
  case atStart=>exact ⟨0,Nat.zero_le _,rfl,Lib.hid rfl⟩
  case round=>
    obtain ⟨j,hj,rfl,HL⟩:=hrel
    by_cases hlt:j<n.size
    · have HT:=Lib.hid (y3s n j hlt);have HN:=Lib.hid (fun hb=>low_no hlt hb)
      by_cases b1:n[j].toNat<97
      · have d1:decide ((n[j].toNat:Int)<97)=true:=by simp; omega
        have HF:=Lib.hid (HN.out (by simp; omega));go_wp2_with fail;go_ret;refine ⟨ret_bool ?_,(Below.refl _ _).alloc (Nat.le_refl _) _⟩;rw [HR.out,HF.out]
        rfl
      · have d1:decide ((n[j].toNat:Int)<97)=false:=by simp; omega
        by_cases b2:122<n[j].toNat
        · have d2:decide (122<(n[j].toNat:Int))=true:=by simp; omega
          have HF:=Lib.hid (HN.out (by simp; omega));go_wp2_with fail;go_ret;refine ⟨ret_bool ?_,(Below.refl _ _).alloc (Nat.le_refl _) _⟩;rw [HR.out,HF.out]
          rfl
        · have d2:decide (122<(n[j].toNat:Int))=false:=by simp; omega
          have HG:Hid (low (n.data.toList.take (j+1))=true):=by
            show _=true
            rw [HT.out,HL.out];simp;omega
          go_wp2_with fail
          go_round
          case rel=>exact ⟨j+1,by omega,by go_num,HG⟩
          case measure=>simp [intOf]; omega
    · have HF:Hid (low n.data.toList=true):=by
        have:=HL.out
        rwa [List.take_of_length_le (by simp; omega)] at this
      have HR':=Lib.hid (HR.out.trans (by rw [HF.out]))
      by_cases q1:1≤n.size
      · by_cases q2:n.size≤8
        · by_cases q3:s=0
          · subst q3;go_wp2_with fail;refine (word_any _ _).mono ?_;rintro e w' ⟨rfl,rfl⟩;go_wp2_with fail;go_ret;refine ⟨ret_bool ?_,(Below.refl _ _).alloc (Nat.le_refl _) _⟩;rw [HR'.out];simp [q1,q2]
          · have d3:(s==0)=false:=by simpa using q3
            go_wp2_with fail;go_ret;refine ⟨ret_bool ?_,(Below.refl _ _).alloc (Nat.le_refl _) _⟩;rw [HR'.out];simp [d3]
        · go_wp2_with fail;go_ret;refine ⟨ret_bool ?_,(Below.refl _ _).alloc (Nat.le_refl _) _⟩;rw [HR'.out];simp [q2]
      · go_wp2_with fail;go_ret;refine ⟨ret_bool ?_,(Below.refl _ _).alloc (Nat.le_refl _) _⟩;rw [HR'.out];simp [q1]
theorem z3z {n:ByteArray} (h:n.size=0):n=⟨#[]⟩:=by
  obtain ⟨d⟩:=n;have:d=#[]:=Array.eq_empty_of_size_eq_zero h;rw [this]
theorem z9q {n:ByteArray} (h:¬ n.size=0):(n.toList==[])=false:=z1o (l:=[]) fun e=>h (by rw [e]; rfl)
theorem x4r (k:Int) (n:ByteArray) (s:Int) (w:World) (hk:k=11∨k=14):Calls Tryz.prog 237 #[.agg #[.int .i64 k,.string n,.int .i64 s]] w fun e w'=>e=.returned (.bool (rgt ⟨k,n,s⟩))∧Below w.heap.size w w':=by
  rw [z3a n s hk]
  by_cases q1:n.size=0
  · obtain rfl:=z3z q1;rw [decide_eq_true q1,Bool.true_and];clear q1
    by_cases q2:1≤s
    · rw [decide_eq_true q2,Bool.true_and]
      by_cases q3:s≤3
      · rw [decide_eq_true q3]
        rcases hk with rfl | rfl
        all_goals
          go_enter Tryz.func237,Tryz.ntmps237
          go_wp2_with fail;refine (z1q _ _).mono ?_;rintro e w' ⟨rfl,rfl⟩;go_wp2_with fail;go_ret;exact ⟨rfl,(Below.refl _ _).alloc (Nat.le_refl _) _⟩
      · have d3:decide (s≤3)=false:=decide_eq_false q3;rw [d3];clear q3
        rcases hk with rfl | rfl
        all_goals
          go_enter Tryz.func237,Tryz.ntmps237
          go_wp2_with fail;refine (z1q _ _).mono ?_;rintro e w' ⟨rfl,rfl⟩;go_wp2_with fail;go_ret;exact ⟨rfl,(Below.refl _ _).alloc (Nat.le_refl _) _⟩
    · have d2:decide (1≤s)=false:=decide_eq_false q2;rw [d2,Bool.false_and];clear q2
      rcases hk with rfl | rfl
      all_goals
        go_enter Tryz.func237,Tryz.ntmps237
        go_wp2_with fail;refine (z1q _ _).mono ?_;rintro e w' ⟨rfl,rfl⟩;go_wp2_with fail;go_ret;exact ⟨rfl,(Below.refl _ _).alloc (Nat.le_refl _) _⟩
  · have e0:=z9q q1;rw [decide_eq_false q1,Bool.false_and];clear q1
    rcases hk with rfl | rfl
    all_goals
      go_enter Tryz.func237,Tryz.ntmps237
      go_wp2_with fail;refine (z1q _ _).mono ?_;rintro e w' ⟨rfl,rfl⟩;go_wp2_with fail;go_ret;exact ⟨rfl,(Below.refl _ _).alloc (Nat.le_refl _) _⟩
theorem y8p (k:Int) (n:ByteArray) (s:Int) (w:World) (h0:¬ ar k<0) (h1:¬ k=1) (hk:¬ (k=11∨k=14)):Calls Tryz.prog 237 #[.agg #[.int .i64 k,.string n,.int .i64 s]] w fun e w'=>e=.returned (.bool (rgt ⟨k,n,s⟩))∧Below w.heap.size w w':=by
  rw [z5x n s h0 h1 hk];have k1:(k==1)=false:=by rw [beq_eq_false_iff_ne]; omega
  have k2:(k==11)=false:=by rw [beq_eq_false_iff_ne]; omega
  have k3:(k==14)=false:=by rw [beq_eq_false_iff_ne]; omega
  obtain ⟨a,ha⟩:∃ a,ar k=a:=⟨_,rfl⟩
  rw [ha] at h0;have HA:=Lib.hid ha;clear ha hk h1
  by_cases q1:n.size=0
  · obtain rfl:=z3z q1;rw [decide_eq_true q1,Bool.true_and];clear q1
    go_enter Tryz.func237,Tryz.ntmps237
    go_wp2_with fail;refine (z1q _ _).mono ?_;rw [HA.out];rintro e w' ⟨rfl,rfl⟩;go_wp2_with fail;go_ret;exact ⟨rfl,(Below.refl _ _).alloc (Nat.le_refl _) _⟩
  · have e0:=z9q q1;rw [decide_eq_false q1,Bool.false_and];clear q1
    go_enter Tryz.func237,Tryz.ntmps237
    go_wp2_with fail;refine (z1q _ _).mono ?_;rw [HA.out];rintro e w' ⟨rfl,rfl⟩;go_wp2_with fail;go_ret;exact ⟨rfl,(Below.refl _ _).alloc (Nat.le_refl _) _⟩
theorem z4y (x:Nd) (w:World) (hn:x.n.size≤140737488355328):Calls Tryz.prog 237 #[.agg #[.int .i64 x.k,.string x.n,.int .i64 x.s]] w fun e w'=>e=.returned (.bool (rgt x))∧Below w.heap.size w w':=by
  by_cases h0:ar x.k<0
  · exact right_no x w h0
  · obtain ⟨k,n,s⟩:=x
    by_cases h1:k=1
    · subst h1;exact x8r n s w hn
    · by_cases hk:k=11∨k=14
      · exact x4r k n s w hk
      · exact y8p k n s w h0 h1 hk
theorem z8y (v:Value) (l:List Nd) (w:World) (h:Nds w v l) (hl:l.length≤1000000) :
    Calls Tryz.prog 131 #[v] w fun e w'=>e=.returned (.int .i64 (size l))∧w=w':=by
  have hz:=size_le l;have H:=Lib.hid h;obtain ⟨_,a,cap,rfl,-⟩:=h
  cases ht:T l with
  | none=>
    have HS:Hid (size l=0):=y2p.2 ht;have HT:=Lib.hid ht;clear ht
    go_enter Tryz.func131,Tryz.ntmps131
    go_wp2_with fail;refine (z7v _ l 0 _ H.out hl (Nat.zero_le _)).mono ?_;rw [List.drop_zero,HT.out];rintro e w' ⟨rfl,rfl⟩;go_wp2_with fail;go_ret;exact ⟨ret_int (by rw [HS.out]; rfl),rfl⟩
  | some x=>
    obtain ⟨c,d⟩:=x;have hs:size l=c:=by unfold size; rw [ht]
    rw [hs] at hz ⊢
    have HW:Hid (WalkPost 0 (T l)=fun w e w'=>e=.returned (.tuple #[.int .i64 (c:Int),.int .i64 (d:Int)])∧w=w'):=by
      funext w e w'
      unfold WalkPost;rw [ht];simp [nx,dp]
    clear ht hs
    go_enter Tryz.func131,Tryz.ntmps131
    go_wp2_with fail;refine (z7v _ l 0 _ H.out hl (Nat.zero_le _)).mono ?_;rw [List.drop_zero,HW.out];rintro e w' ⟨rfl,rfl⟩;go_wp2_with fail;go_ret;exact ⟨rfl,rfl⟩
theorem y2g (v:Value) (l:List Nd) (w:World) (h:Nds w v l) (hl:l.length≤1000000) :
    Calls Tryz.prog 37 #[v] w fun e w'=>e=.returned (.int .i64 (depth l))∧w=w':=by
  have HD:Hid ((depth l:Int)=dp (T l)):=by
    show (depth l:Int)=_
    unfold depth
    cases T l with
    | none=>rfl
    | some x=>rfl
  have H:=Lib.hid h;obtain ⟨_,a,cap,rfl,-⟩:=h;rw [HD.out];obtain ⟨r,hr⟩:∃ r,T l=r:=⟨_,rfl⟩
  rw [hr];have HT:=Lib.hid hr;clear hr HD;obtain ⟨x,hx⟩:∃ x,nx 0 r=x:=⟨_,rfl⟩
  obtain ⟨y,hy⟩:∃ y,dp r=y:=⟨_,rfl⟩
  have HX:=Lib.hid hx;have HY:=Lib.hid hy;rw [hy];clear hx hy
  go_enter Tryz.func37,Tryz.ntmps37
  go_wp2_with fail;refine (z7v _ l 0 _ H.out hl (Nat.zero_le _)).mono ?_;unfold WalkPost;rw [List.drop_zero,HT.out,HX.out,HY.out];rintro e w' ⟨rfl,rfl⟩;go_wp2_with fail;go_ret;exact ⟨rfl,rfl⟩
end Rw
namespace Rx
open Go Go.RowKit Rw
theorem z6o (k:Int) (w:World):Calls Tryz.prog 159 #[.int .i64 k] w fun e w'=>e=.returned (.int .i64 (ar k))∧w=w':=by
  rcases y4p k with rfl | rfl | rfl | rfl | rfl | rfl | rfl | rfl | rfl | rfl | rfl | rfl | rfl | rfl | h
  case inr.inr.inr.inr.inr.inr.inr.inr.inr.inr.inr.inr.inr.inr=>
    have hr:=Lib.hid (ar_no h);obtain ⟨h1,h2,h3,h4,h5,h6,h7,h8,h9,h10,h11,h12,h13,h14⟩:=h;have b1:(k==1)=false:=by simp [h1]
    have b2:(k==2)=false:=by simp [h2]
    have b3:(k==3)=false:=by simp [h3]
    have b4:(k==4)=false:=by simp [h4]
    have b5:(k==5)=false:=by simp [h5]
    have b6:(k==6)=false:=by simp [h6]
    have b7:(k==7)=false:=by simp [h7]
    have b8:(k==8)=false:=by simp [h8]
    have b9:(k==9)=false:=by simp [h9]
    have b10:(k==10)=false:=by simp [h10]
    have b11:(k==11)=false:=by simp [h11]
    have b12:(k==12)=false:=by simp [h12]
    have b13:(k==13)=false:=by simp [h13]
    have b14:(k==14)=false:=by simp [h14]
    clear h1 h2 h3 h4 h5 h6 h7 h8 h9 h10 h11 h12 h13 h14
    go_enter Tryz.func159,Tryz.ntmps159
    go_wp2_with fail;go_ret;exact ⟨ret_int hr.out.symm,rfl⟩
  all_goals
    go_enter Tryz.func159,Tryz.ntmps159
    go_wp2_with fail;go_ret;exact ⟨rfl,rfl⟩
end Rx
namespace Sg
open Go Go.ChangeShapes Go.WideShapes Go.ChangeAt Go.RowKit
open Go.ChangeMaps (open_string)
theorem own:ownKnob Tryz.prog.godebug=none:=by kernel_rfl
theorem laidOut:laidOutB Tryz.prog=true:=by kernel_rfl
theorem gTexts:Tryz.prog.globalNamed (Rows.runsPlayRow.named.headD "")=some 0:=by kernel_rfl
theorem tTexts:(Tryz.prog.globals[0]?).map (·.type)=some 167:=by kernel_rfl
theorem cStr:Tryz.prog.cellsOf 9=1:=by kernel_rfl
theorem cInt:Tryz.prog.cellsOf 3=1:=by kernel_rfl
theorem cTexts:Tryz.prog.cellsOf 167=4:=by kernel_rfl
abbrev laid:List (String × DataW Unit):=Rows.runsPlayRow.laid
theorem y1i {W:World} (h:laidMetH Tryz.prog laid W):Tab W:=by
  rw [MakeChecks.laidMetH_plain _ _ _ (by kernel_rfl)] at h;obtain ⟨ps,⟨g,t,cs,fuel,p,q,hg,ht,hvar,hd,_,_⟩,_⟩:=h;obtain rfl:=Option.some.inj (gTexts.symm.trans hg);obtain rfl:=Option.some.inj (tTexts.symm.trans ht);have hc:=Fr.x4h (ss:=[[],[111,107],[33],[63]]) Tryz.underlying167 Tryz.underlying9 cStr cTexts hd;obtain rfl:cs=cells:=by cases cs; exact congrArg Array.mk hc
  simp only [World.var?,hg,Option.bind_some] at hvar;unfold Tab
  split at hvar
  · rename_i c t fr hh
    cases hvar
    exact ⟨t,fr,hh⟩
  · cases hvar
theorem met (os:Os) (args:Array Value):laidMetH Tryz.prog laid ((World.doorLaid Tryz.prog 400 os).forCall (fun _ _=>0) ⟨#[],args,[]⟩).memory:=
  laidMetH_of_parts3 (fuel:=8) (laidMet_of_run' 8 (by kernel_rfl) (by kernel_rfl)) (by kernel_rfl) (by kernel_rfl)
theorem plain {name:String} {f0:FuncId} {fn0:Func} (hname:Tryz.prog.funcNamed name=some f0) (hf0:Tryz.prog.funcs[f0]?=some fn0) (hlook:false=Tryz.prog.looks []) (hall:fn0.params.toList.all (fun t=>!Tryz.prog.wantsStandIn t)=true)
    (f:FuncId) (fn:Func) (hf:Tryz.pinned.checked.prog.funcNamed name=some f) (hfn:Tryz.pinned.checked.prog.funcs[f]?=some fn) :
    false=Tryz.pinned.checked.prog.looks []∧∀ (j:Nat) t,fn.params[j]?=some t→Tryz.pinned.checked.prog.wantsStandIn t=false:=by
  obtain rfl:f=f0:=(Option.some.inj (hname.symm.trans hf)).symm;obtain rfl:fn=fn0:=(Option.some.inj (hf0.symm.trans hfn)).symm;refine ⟨hlook,fun j t ht=>?_⟩;have hm:t∈fn.params.toList:=by simpa using Array.mem_of_getElem? ht
  have:=List.all_eq_true.1 hall t hm;exact (show Tryz.prog.wantsStandIn t=false by simpa using this)
end Sg
namespace Tr
open Go Go.RowKit

end Tr
namespace Ru
open Go Go.ChangeShapes Go.WideShapes Go.ChangeAt Go.RowKit
open Sg (laidOut)
theorem bb {a b:Bool} (h:a=true) (g:b=true):(a&&b)=true:=by rw [h,g]; rfl
theorem x0u:laidOutB Tryz.pinned.checked.prog=true:=laidOut
theorem x0s:mapsRowed Tryz.pinned.checked.prog=true:=by kernel_rfl
theorem y4m:(Tryz.pinned.checked.prog).stopsHeard=true:=by kernel_rfl
theorem y4n:(Tryz.pinned.checked.prog).mayEnter=true:=by kernel_rfl
theorem x0t:Tryz.pinned.checked.prog.mainIs=some (Rows.runsPlayCard.stood.harness.1,Rows.runsPlayCard.stood.harness.2.toList):=by kernel_rfl
theorem y4l:false=Tryz.prog.looks []:=by kernel_rfl
end Ru
namespace Rw
open Go Go.RowKit
def Nms (l:List Nd):Prop:=∀ x∈l,x.n.size≤140737488355328
def whole (l:List Nd):Bool:=l.all rgt&&(decide (1≤l.length)&&decide (l.length≤200))&&decide (size l=l.length)
theorem all_take (l:List Nd) (k:Nat) (h:k<l.length):(l.take (k+1)).all rgt=((l.take k).all rgt&&rgt l[k]):=by
  rw [List.take_succ_eq_append_getElem h,List.all_append];simp
theorem all_no {l:List Nd} {k:Nat} (h:k<l.length) (hr:rgt l[k]=false):l.all rgt=false:=by
  rw [List.all_eq_false];exact ⟨l[k],List.getElem_mem h,by rw [hr]; decide⟩
theorem y7v (a:Option Addr) (cap:Nat) (w:World) :
    Calls Tryz.prog 183 #[.slice a 0 cap] w fun e w'=>e=.returned (.bool false)∧Below w.heap.size w w':=by
  go_enter Tryz.func183,Tryz.ntmps183
  go_wp2_with fail;refine Go.wp_loop_rounds 1 ?_;rw [rounds_succ];go_wp2_with fail;go_ret;exact ⟨rfl,Below.refl _ _⟩
theorem y7w (b off cap:Nat) (l:List Nd) (w:World) (hn:Nds w (.slice (some ⟨b,off,none⟩) l.length cap) l) (hat:At w b off l) (hl:l.length≤1000000) (hm:Nms l) :
    Calls Tryz.prog 183 #[.slice (some ⟨b,off,none⟩) l.length cap] w fun e w'=>e=.returned (.bool (whole l))∧Below w.heap.size w w':=by
  have HN:=Lib.hid hn;have HA:=Lib.hid hat;have HM:=Lib.hid hm;clear hn hat hm
  go_enter Tryz.func183,Tryz.ntmps183
  go_wp2_with fail
  go_loopw [3] (fun i wr=>∃ k:Nat,k≤l.length∧i=.int .i64 k∧Below w.heap.size w wr∧Hid ((l.take k).all rgt=true)) (fun i _=>l.length-(intOf i).toNat)
  case atStart=>exact ⟨0,Nat.zero_le _,rfl,Below.refl _ _,Lib.hid rfl⟩
  case round=>
    obtain ⟨k,hk,rfl,hb,HK⟩:=hrel;have HB:=Lib.hid hb;clear hb
    by_cases hlt:k<l.length
    · obtain ⟨e1,e2,e3⟩:=HA.out k hlt;have c1:wr.cell? ⟨b,off+k*3,none⟩=some (.int .i64 l[k].k):=by rw [HB.out.cell (Ap.z0a e1)]; exact e1
      have c2:wr.cell? ⟨b,off+k*3+1,none⟩=some (.string l[k].n):=by rw [HB.out.cell (Ap.z0a e2)]; exact e2
      have c3:wr.cell? ⟨b,off+k*3+2,none⟩=some (.int .i64 l[k].s):=by rw [HB.out.cell (Ap.z0a e3)]; exact e3
      have HT:=Lib.hid (all_take l k hlt);have HX:=Lib.hid (fun h=>all_no (l:=l) hlt h);have hxm:(l[k]).n.size≤140737488355328:=HM.out _ (List.getElem_mem hlt);obtain ⟨x,hx⟩:∃ x,l[k]=x:=⟨_,rfl⟩
      rw [hx] at c1 c2 c3 HT HX hxm;clear hx e1 e2 e3
      cases hr:rgt x with
      | false=>
        have HW:Hid (whole l=false):=by
          show _=false
          unfold whole;rw [HX.out hr]
          rfl
        have HR:=Lib.hid hr;clear hr;go_wp2_with fail;refine (z4y x _ hxm).mono ?_;rw [HR.out];rintro e w' ⟨rfl,hb'⟩;go_wp2_with fail;go_ret;exact ⟨ret_bool HW.out.symm,HB.out.trans (hb'.mono HB.out.size)⟩
      | true=>
        have HK':Hid ((l.take (k+1)).all rgt=true):=by
          show _=true
          rw [HT.out,HK.out,hr]
          rfl
        have HR:=Lib.hid hr;clear hr;go_wp2_with fail;refine (z4y x _ hxm).mono ?_;rw [HR.out];rintro e w' ⟨rfl,hb'⟩;go_wp2_with fail
        go_roundw
        case rel=>exact ⟨k+1,by omega,by go_num,HB.out.trans (hb'.mono HB.out.size),HK'⟩
        case measure=>simp [intOf]; omega
    · have HL:Hid (l.all rgt=true):=by
        have:=HK.out
        rwa [List.take_of_length_le (by omega)] at this
      by_cases q1:1≤l.length
      · by_cases q2:l.length≤200
        · obtain ⟨z,hz⟩:∃ z,size l=z:=⟨_,rfl⟩
          have HZ:=Lib.hid hz
          have HW:Hid (whole l=decide (z=l.length)):=by
            show _=_
            unfold whole;rw [HL.out,decide_eq_true q1,decide_eq_true q2,hz]
            rfl
          clear hz;go_wp2_with fail;refine (z8y _ l _ (HN.out.below (HB.out)) hl).mono ?_;rw [HZ.out];rintro e w' ⟨rfl,rfl⟩;go_wp2_with fail;go_ret;refine ⟨ret_bool ?_,HB.out⟩;rw [HW.out];rw [Bool.eq_iff_iff];simp
          try omega
        · have HW:Hid (whole l=false):=by
            show _=_
            unfold whole;rw [decide_eq_false q2,Bool.and_false,Bool.and_false]
            rfl
          go_wp2_with fail;go_ret;exact ⟨ret_bool HW.out.symm,HB.out⟩
      · have HW:Hid (whole l=false):=by
          show _=_
          unfold whole;rw [decide_eq_false q1,Bool.false_and,Bool.and_false]
          rfl
        go_wp2_with fail;go_ret;exact ⟨ret_bool HW.out.symm,HB.out⟩
theorem x3w (v:Value) (l:List Nd) (w:World) (h:Nds w v l) (hl:l.length≤1000000) (hm:Nms l) :
    Calls Tryz.prog 183 #[v] w fun e w'=>e=.returned (.bool (whole l))∧Below w.heap.size w w':=by
  rcases h.form with ⟨rfl,a,cap,rfl⟩ | ⟨b,off,cap,rfl,_,hat⟩
  · exact y7v a cap w
  · exact y7w b off cap l w h hat hl hm
theorem Below.drewN (B n:Nat) (w:World):Below B w (w.drewN n):=by
  induction n with
  | zero=>exact Below.refl _ _
  | succ n ih=>exact ih.drew
def cnt (l:List Nd) (ks:List Int):Nat:=l.countP fun x=>decide (x.k∈ks)
def Ints (w:World) (v:Value) (l:List Int):Prop:=Ap.Rd w 1 v l.length (l.map (.int .i64))
theorem Ints.below {w w':World} {v:Value} {l:List Int} (h:Ints w v l) (hb:Below w.heap.size w w'):Ints w' v l:=Ap.Rd.below h hb
def AtI (w:World) (b off:Nat) (l:List Int):Prop:=∀ k,(h:k<l.length)→w.cell? ⟨b,off+k,none⟩=some (.int .i64 l[k])
theorem Ints.form {w:World} {v:Value} {l:List Int} (h:Ints w v l) :
    (l=[]∧∃ a cap,v=.slice a 0 cap)∨∃ b off cap,v=.slice (some ⟨b,off,none⟩) l.length cap∧l.length≤cap∧AtI w b off l:=by
  obtain ⟨_,a,cap,rfl,hle,_,hcell⟩:=h
  by_cases h0:0<l.length
  · obtain ⟨b,off,rfl,hj⟩:=hcell h0;exact Or.inr ⟨b,off,cap,rfl,hle,fun k hk=>hj _ _ (by rw [List.getElem?_map,List.getElem?_eq_getElem hk]; rfl)⟩
  · have:l=[]:=List.eq_nil_of_length_eq_zero (by omega);subst this;exact Or.inl ⟨rfl,a,cap,rfl⟩
end Rw
namespace Tr
open Go Go.RowKit
def TrCells (w:World):List Value→List Tr→Prop
  | [],[]=>True
  | a::e::cs,t::ts=>Strs w a t.a∧e=.int .i64 t.e∧TrCells w cs ts
  | _,_=>False
def Trs (w:World) (v:Value) (ts:List Tr):Prop:=∃ cs,Ap.Rd w 2 v ts.length cs∧TrCells w cs ts
theorem TrCells.below {w w':World} (hb:Below w.heap.size w w'):∀ {cs:List Value} {ts:List Tr},TrCells w cs ts→TrCells w' cs ts
  | [],[],_=>trivial
  | _::_::_,_::_,h=>⟨h.1.below hb,h.2.1,TrCells.below hb h.2.2⟩
  | [],_::_,h=>h.elim
  | [_],[],h=>h.elim
  | [_],_::_,h=>h.elim
  | _::_::_,[],h=>h.elim
theorem Trs.below {w w':World} {v:Value} {ts:List Tr} (h:Trs w v ts) (hb:Below w.heap.size w w'):Trs w' v ts:=by
  obtain ⟨cs,h1,h2⟩:=h;exact ⟨cs,h1.below hb,h2.below hb⟩
theorem TrCells.at {w:World}:∀ {cs:List Value} {ts:List Tr},TrCells w cs ts→∀ k (hk:k<ts.length),∃ a,cs[2*k]?=some a∧cs[2*k+1]?=some (.int .i64 ts[k].e)∧Strs w a ts[k].a
  | [],[],_,k,hk=>by simp at hk
  | a::e::cs,t::ts,h,0,_=>⟨a,rfl,by simp [h.2.1],h.1⟩
  | a::e::cs,t::ts,h,k+1,hk=>by
    obtain ⟨x,h1,h2,h3⟩:=TrCells.at h.2.2 k (by simpa using hk);refine ⟨x,?_,?_,h3⟩
    · rw [show 2*(k+1)=2*k+1+1 by omega]; simpa using h1
    · rw [show 2*(k+1)+1=2*k+1+1+1 by omega]; simpa using h2
  | [],_::_,h,_,_=>h.elim
  | [_],[],h,_,_=>h.elim
  | [_],_::_,h,_,_=>h.elim
  | _::_::_,[],h,_,_=>h.elim
def Few (ts:List Tr):Prop:=ts.length≤1000000000000∧∀ t∈ts,t.a.length≤1000000000000
theorem any_take (ts:List Tr) (p:Tr→Bool) (k:Nat) (h:k<ts.length):(ts.take (k+1)).any p=((ts.take k).any p||p ts[k]):=by
  rw [List.take_succ_eq_append_getElem h,List.any_append];simp
end Tr
end Go.Proofs.YtpingbiibbmcaaaGreatDoor
namespace Go.Proofs.YtpingbiibbmcaaaGreatDoor.Rw
open Go Go.RowKit Go.ChangeShapes Go.WideShapes
set_option maxRecDepth 100000
section
variable {H:Type} {enc:TypeId × Value→H} {P:Program} {w:World}
def nodeD (x:Nd):DataW H:=.agg [.lit (.int .i64 x.k),.lit (.string x.n.data.toList),.lit (.int .i64 x.s)]
theorem nd_of {held:Bool} {fuel:Nat} {t ti ts tj:TypeId} {f0 f1 f2:Field} {cs:List Value} {x:DataW H × List MemPlace} (ut:P.underlying t=some (.struct #[f0,f1,f2])) (ct:P.cellsOf t=3) (h0:f0.type=ti) (o0:f0.offset=0) (h1:f1.type=ts) (o1:f1.offset=1) (h2:f2.type=tj) (o2:f2.offset=2)
    (ui:P.underlying ti=some (.int .i64)) (ci:P.cellsOf ti=1) (us:P.underlying ts=some .string) (cs1:P.cellsOf ts=1) (uj:P.underlying tj=some (.int .i64)) (cj:P.cellsOf tj=1)
    (h:DataW.trod enc P w 0 (fun _=>true) held fuel t cs=some x):∃ n:Nd,cs=cl n∧x.1=nodeD n:=by
  obtain ⟨y0,y1,y2,n,rfl,hl,hy0,hy1,hy2⟩:=Deep.trod_struct3 ut h;rw [ct] at hl
  match cs,hl with
  | [a,b,c],_=>
    rw [h0,o0,ci] at hy0;rw [h1,o1,cs1] at hy1;rw [h2,o2,cj] at hy2;obtain ⟨k,e1,e2,_⟩:=DataW.trod_int ui hy0;obtain ⟨s,e3,e4,_⟩:=DataW.trod_string us hy1;obtain ⟨j,e5,e6,_⟩:=DataW.trod_int uj hy2;have e1':a=.int .i64 k:=by simpa using e1
    have e3':b=.string s:=by simpa using e3
    have e5':c=.int .i64 j:=by simpa using e5
    subst e1' e3' e5';exact ⟨⟨k,s,j⟩,rfl,by simp [nodeD,e2,e4,e6]⟩
def nodesD (l:List Nd) (d:DataW H):Prop:=(l=[]∧d=.nil)∨∃ sp:List (DataW H),d=.slice (l.map nodeD) sp
theorem trip_at (f:Nat→Nd):∀ (n j:Nat) (u:Value),(cls ((List.range n).map f))[j]?=some u→∃ i k,i<n∧k<3∧j=i*3+k∧(cl (f i))[k]?=some u:=by
  intro n j u hu;have hlen:(cls ((List.range n).map f)).length=n*3:=by rw [z2a]; simp
  have hj:j<n*3:=by
    have:=(List.getElem?_eq_some_iff.1 hu).1;omega
  have hk:j / 3<((List.range n).map f).length:=by simp; omega
  obtain ⟨h1,h2,h3⟩:=x3j _ (j / 3) hk;have hx:((List.range n).map f)[j / 3]=f (j / 3):=by simp
  rw [hx] at h1 h2 h3;have hr:j % 3=0∨j % 3=1∨j % 3=2:=by omega
  rcases hr with hr | hr | hr
  · rw [← show j=j / 3*3 by omega] at h1;exact ⟨j / 3,0,by omega,by omega,by omega,by rw [← hu,h1]; rfl⟩
  · rw [← show j=j / 3*3+1 by omega] at h2;exact ⟨j / 3,1,by omega,by omega,by omega,by rw [← hu,h2]; rfl⟩
  · rw [← show j=j / 3*3+2 by omega] at h3;exact ⟨j / 3,2,by omega,by omega,by omega,by rw [← hu,h3]; rfl⟩
theorem nds_of {held:Bool} {fuel:Nat} {tt t ti ts tj:TypeId} {f0 f1 f2:Field} {v:Value} {x:DataW H × List MemPlace} (utt:P.underlying tt=some (.slice t)) (ut:P.underlying t=some (.struct #[f0,f1,f2])) (ct:P.cellsOf t=3) (h0:f0.type=ti) (o0:f0.offset=0) (h1:f1.type=ts) (o1:f1.offset=1) (h2:f2.type=tj) (o2:f2.offset=2)
    (ui:P.underlying ti=some (.int .i64)) (ci:P.cellsOf ti=1) (us:P.underlying ts=some .string) (cs1:P.cellsOf ts=1) (uj:P.underlying tj=some (.int .i64)) (cj:P.cellsOf tj=1)
    (h:DataW.trod enc P w 0 (fun _=>true) held fuel tt [v]=some x):∃ l:List Nd,Nds w v l∧nodesD l x.1:=by
  rcases Deep.open_slice utt h with ⟨hcs,rfl⟩ | ⟨a,len,cap,m,n,D,Pl,hcs,_,hl,hm,hmm,rfl,hel⟩
  · cases hcs
    exact ⟨[],⟨rfl,none,0,rfl,Nat.le_refl _,fun _=>⟨rfl,rfl⟩,fun h=>absurd h (by simp)⟩,.inl ⟨rfl,rfl⟩⟩
  · cases hcs
    have hm':m=cap:=by simpa using hmm
    subst hm';rw [ct] at hel
    obtain ⟨F,hF⟩:∃ F:Nat→Nd,∀ i,i<len→w.cells? 0 (a.add (i*3)) 3=some (cl (F i))∧D i=nodeD (F i):=by
      haveI:Inhabited Nd:=⟨⟨0,⟨#[]⟩,0⟩⟩
      refine Deep.choose_lt (α:=Nd) (p:=fun i z=>w.cells? 0 (a.add (i*3)) 3=some (cl z)∧D i=nodeD z) fun i hi=>?_
      obtain ⟨cs',hc,ht⟩:=hel i (by omega);obtain ⟨z,rfl,hz⟩:=nd_of ut ct h0 o0 h1 o1 h2 o2 ui ci us cs1 uj cj ht;exact ⟨z,hc,hz⟩
    have hlen:((List.range len).map F).length=len:=by simp
    refine ⟨(List.range len).map F,⟨z2a _,some a,m,by rw [hlen],by omega,fun h=>(by cases h),fun hp=>?_⟩,.inr ⟨(List.range (m-len)).map fun j=>D (len+j),?_⟩⟩
    · rw [hlen] at hp;obtain ⟨b,off,spot⟩:=a;have hc0:=(World.cells?_some (hF 0 hp).1).2.2 0 (by omega)
      have hspot:spot=none:=by
        have:=hc0;simp [Addr.add,cl] at this;exact World.cell?_spot this
      subst hspot;refine ⟨b,off,rfl,fun j u hu=>?_⟩;obtain ⟨i,k,hi,hk,rfl,hu'⟩:=trip_at F len j u hu;have hc:=(World.cells?_some (hF i hi).1).2.2 k hk;rw [hu'] at hc
      simpa [Addr.add_lit,Nat.add_assoc] using hc
    · have e:(List.range len).map D=((List.range len).map F).map nodeD:=by
        rw [List.map_map];exact List.map_congr_left fun i hi=>(hF i (List.mem_range.1 hi)).2
      simp only [e]
theorem x3r {e:TypeId} {q:Nat→Bool}:∀ {l:List (DataW H)},(DataW.weightsAll P e l).all q=true→∀ d∈l,(d.weights P e).all q=true
  | [],_,d,hd=>by cases hd
  | x::l,h,d,hd=>by
    have h':(DataW.weights P e x++DataW.weightsAll P e l).all q=true:=h;rw [List.all_append,Bool.and_eq_true] at h'
    rcases List.mem_cons.1 hd with rfl | hd
    · exact h'.1
    · exact x3r h'.2 d hd
theorem nd_reach {t:TypeId} {f0 f1 f2:Field} (ut:P.underlying t=some (.struct #[f0,f1,f2])) {x:Nd} (h:((nodeD x:DataW H).weights P t).all (·≤reachBytes)=true):x.n.size≤140737488355328:=by
  unfold nodeD at h;rw [DataW.weights,ut] at h;have h':(DataW.weights P f0.type (.lit (.int .i64 x.k):DataW H)++(DataW.weights P f1.type (.lit (.string x.n.data.toList):DataW H)++DataW.weightsEach P [f2.type] [.lit (.int .i64 x.s)])).all (·≤reachBytes)=true:=h;rw [List.all_append,List.all_append,Bool.and_eq_true,Bool.and_eq_true] at h';have h1:([x.n.data.toList.length].all (·≤reachBytes))=true:=h'.2.1;have h2:x.n.data.toList.length=x.n.size:=by simp
  rw [h2] at h1;have h3:x.n.size≤reachBytes:=by simpa using h1
  unfold reachBytes at h3;omega
theorem v0n {tt t:TypeId} {f0 f1 f2:Field} (utt:P.underlying tt=some (.slice t)) (ut:P.underlying t=some (.struct #[f0,f1,f2])) {l:List Nd} {d:DataW H} (hd:nodesD l d) (h:(d.weights P tt).all (·≤reachBytes)=true):Nms l:=by
  rcases hd with ⟨rfl,_⟩ | ⟨sp,rfl⟩
  · intro p hp; cases hp
  · rw [DataW.weights,utt] at h;simp only [List.all_cons,List.all_append,Bool.and_eq_true] at h;intro x hx;exact nd_reach ut (x3r h.2.1 _ (List.mem_map.2 ⟨x,hx,rfl⟩))
theorem z1g {t:TypeId} {ts:List TypeId} {d:DataW H} {ds:List (DataW H)} (h:(DataW.weightsEach P (t::ts) (d::ds)).all (·≤reachBytes)=true):(d.weights P t).all (·≤reachBytes)=true∧(DataW.weightsEach P ts ds).all (·≤reachBytes)=true:=by
  have h':(DataW.weights P t d++DataW.weightsEach P ts ds).all (·≤reachBytes)=true:=h
  rwa [List.all_append,Bool.and_eq_true] at h'
end
theorem own:ownKnob Tryz.prog.godebug=none:=by kernel_rfl
theorem laidOut:laidOutB Tryz.prog=true:=by kernel_rfl
theorem cN:Tryz.prog.cellsOf 68=3:=by kernel_rfl
theorem cStr:Tryz.prog.cellsOf 9=1:=by kernel_rfl
theorem cInt:Tryz.prog.cellsOf 3=1:=by kernel_rfl
section
variable {H:Type} {enc:TypeId × Value→H} {W:World} {base:Nat} {v:Value} {d:DataW H} {p:List MemPlace}
theorem z6w (hok:Value.okWide Tryz.prog W .any base 22 v) (h:DataW.Trod enc Tryz.prog W 0 (fun _=>true) true 22 v d p) :
    ∃ l:List Nd,Nds W v l∧nodesD l d:=by
  obtain ⟨a,len,cap,rfl⟩:=okWide_slice Tryz.underlying22 hok;obtain ⟨fuel,hf⟩:=h;exact nds_of Tryz.underlying22 Tryz.underlying68 cN rfl rfl rfl rfl rfl rfl Tryz.underlying3 cInt Tryz.underlying9 cStr Tryz.underlying3 cInt hf
theorem y1n {l:List Nd} (hd:nodesD l d) (h:(d.weights Tryz.prog 22).all (·≤reachBytes)=true):Nms l:=v0n Tryz.underlying22 Tryz.underlying68 hd h
end
end Go.Proofs.YtpingbiibbmcaaaGreatDoor.Rw
namespace Go.Proofs.YtpingbiibbmcaaaGreatDoor.Tr
open Go Go.RowKit Go.ChangeShapes Go.WideShapes
section
variable {H:Type} {enc:TypeId × Value→H} {P:Program} {w:World}
theorem strs_of {held:Bool} {fuel:Nat} {t e:TypeId} {v:Value} {x:DataW H × List MemPlace} (ut:P.underlying t=some (.slice e)) (ue:P.underlying e=some .string) (ce:P.cellsOf e=1)
    (h:DataW.trod enc P w 0 (fun _=>true) held fuel t [v]=some x) :
    ∃ l r,Strs w v l∧(∀ s∈l,s.size≤maxLen)∧l.length≤maxLen∧((l=[]∧x.1=.nil)∨x.1=.slice (strs l) (strs r)):=by
  rcases open_strings ut ue ce h with ⟨hcs,rfl⟩ | ⟨a,len,cap,ss,hcs,_,hl,hm,hz,hx,hcell,hws⟩
  · cases hcs
    exact ⟨[],[],⟨rfl,none,0,rfl,Nat.le_refl _,fun _=>⟨rfl,rfl⟩,fun h=>absurd h (by simp)⟩,by simp,by simp,.inl ⟨rfl,rfl⟩⟩
  · cases hcs
    have hz':ss.length=cap:=by simpa using hz
    have hlen:(ss.take len).length=len:=by simp; omega
    refine ⟨ss.take len,ss.drop len,⟨by simp,some a,cap,by rw [hlen],by omega,fun h=>(by cases h),fun h0=>?_⟩,fun s hs=>hws s (List.mem_of_mem_take hs),by omega,.inr (by rw [hx])⟩;obtain ⟨b,off,spot⟩:=a;have hc:=hcell 0 (by omega);have hspot:spot=none:=by simpa [Addr.add] using World.cell?_spot hc
    subst hspot;refine ⟨b,off,rfl,fun j u hu=>?_⟩;rw [List.getElem?_map,Option.map_eq_some_iff] at hu;obtain ⟨s,hs,rfl⟩:=hu;obtain ⟨hj,rfl⟩:=List.getElem?_eq_some_iff.1 hs;rw [hlen] at hj;have:=hcell j (by omega);rw [Addr.add_lit] at this;rw [this,List.getElem_take];simp [List.getD,show j<ss.length by omega]
def dat (t:Tr) (r:List ByteArray) (d:DataW H):Prop:=(t.a=[]∧d=.agg [.nil,.lit (.int .i64 t.e)])∨d=.agg [.slice (strs t.a) (strs r),.lit (.int .i64 t.e)]
theorem tr_of {held:Bool} {fuel:Nat} {t ts e ti:TypeId} {f0 f1:Field} {cs:List Value} {x:DataW H × List MemPlace} (ut:P.underlying t=some (.struct #[f0,f1])) (ct:P.cellsOf t=2) (h0:f0.type=ts) (o0:f0.offset=0) (h1:f1.type=ti) (o1:f1.offset=1)
    (us:P.underlying ts=some (.slice e)) (cs1:P.cellsOf ts=1) (ue:P.underlying e=some .string) (ce:P.cellsOf e=1) (ui:P.underlying ti=some (.int .i64)) (ci:P.cellsOf ti=1)
    (h:DataW.trod enc P w 0 (fun _=>true) held fuel t cs=some x):∃ (a:Value) (p:Tr) (r:List ByteArray),cs=[a,.int .i64 p.e]∧Strs w a p.a∧(∀ s∈p.a,s.size≤maxLen)∧p.a.length≤maxLen∧dat p r x.1∧(Lit.int .i64 p.e).wf=true:=by
  obtain ⟨y0,y1,n,rfl,hl,hy0,hy1⟩:=trod_struct2 ut h;rw [ct] at hl
  match cs,hl with
  | [a,c],_=>
    rw [h0,o0,cs1] at hy0;rw [h1,o1,ci] at hy1;obtain ⟨l,r,hs,hb,hll,hd⟩:=strs_of us ue ce hy0;obtain ⟨k,e1,e2,hw⟩:=DataW.trod_int ui hy1;have e1':c=.int .i64 k:=by simpa using e1
    subst e1';refine ⟨a,⟨l,k⟩,r,rfl,hs,hb,hll,?_,hw⟩
    rcases hd with ⟨rfl,hd⟩ | hd
    · exact .inl ⟨rfl,by simp [hd,e2]⟩
    · exact .inr (by simp [hd,e2])
end
end Go.Proofs.YtpingbiibbmcaaaGreatDoor.Tr
