/- Laws that the last text leans on. -/
import Derived.Test.YtaapnkoooofalaaGreatQ05
import Derived.Laws.MakeOwn
import Derived.OwnWalk
import Derived.WalkMore
import Derived.Deep.LoopGhost

set_option maxRecDepth 20000
set_option maxHeartbeats 2000000
namespace Go.Proofs.YtaapnkoooofalaaGreat
namespace Tr
open Go Go.RowKit
def same:List Tr→List Tr→Bool
  | [],[]=>true
  | p::l,q::m=>cmp p q==0&&same l m
  | _,_=>false
theorem same_iff:∀ l m:List Tr,same l m=true↔l=m
  | [],[]=>by simp [same]
  | [],_::_=>by simp [same]
  | _::_,[]=>by simp [same]
  | p::l,q::m=>by
    simp only [same,Bool.and_eq_true,beq_iff_eq,same_iff l m,List.cons.injEq];exact and_congr_left fun _=>⟨z4d,fun h=>by rw [h]; exact z4c q⟩
theorem x0b:∀ {l m:List Tr},l.length≠m.length→same l m=false
  | [],[],h=>absurd rfl h
  | [],_::_,_=>rfl
  | _::_,[],_=>rfl
  | p::l,q::m,h=>by simp [same,x0b (l:=l) (m:=m) (by simpa using h)]
theorem same_at (l m:List Tr) (k:Nat) (h1:k<l.length) (h2:k<m.length):same (l.drop k) (m.drop k)=(cmp l[k] m[k]==0&&same (l.drop (k+1)) (m.drop (k+1))):=by
  rw [List.drop_eq_getElem_cons h1,List.drop_eq_getElem_cons h2]
  rfl
theorem x2o (a1 a2:Option Addr) (c1 c2 n m:Nat) (w:World) (h:n≠m) :
    Calls Tryz.prog 18 #[.slice a1 n c1,.slice a2 m c2] w fun e w'=>e=.returned (.bool false)∧Below w.heap.size w w':=by
  have hne:((n:Int)==(m:Int))=false:=by rw [beq_eq_false_iff_ne]; omega
  have hne':((n:Int) != (m:Int))=true:=by rw [bne_iff_ne]; omega
  go_enter Tryz.func18,Tryz.ntmps18
  go_wp2_with fail;go_ret;exact ⟨rfl,Below.refl _ _⟩
theorem y0z (a1 a2:Option Addr) (c1 c2:Nat) (w:World) :
    Calls Tryz.prog 18 #[.slice a1 0 c1,.slice a2 0 c2] w fun e w'=>e=.returned (.bool true)∧Below w.heap.size w w':=by
  go_enter Tryz.func18,Tryz.ntmps18
  go_wp2_with fail;refine Go.wp_loop_rounds 1 ?_;rw [rounds_succ];go_wp2_with fail;go_ret;exact ⟨rfl,Below.refl _ _⟩
theorem x2p (b1 o1 c1 b2 o2 c2:Nat) (l m:List Tr) (w:World) (hf:Few l) (hg:Few m) (he:m.length=l.length)
    (h1:∀ k,(hk:k<l.length)→∃ a,w.cell? ⟨b1,o1+2*k,none⟩=some a∧w.cell? ⟨b1,o1+2*k+1,none⟩=some (.int .i64 l[k].e)∧Strs w a l[k].a)
    (h2:∀ k,(hk:k<m.length)→∃ a,w.cell? ⟨b2,o2+2*k,none⟩=some a∧w.cell? ⟨b2,o2+2*k+1,none⟩=some (.int .i64 m[k].e)∧Strs w a m[k].a) :
    Calls Tryz.prog 18 #[.slice (some ⟨b1,o1,none⟩) l.length c1,.slice (some ⟨b2,o2,none⟩) l.length c2] w fun e w'=>e=.returned (.bool (same l m))∧Below w.heap.size w w':=by
  have H1:=Lib.hid h1;have H2:=Lib.hid h2;have HF:=Lib.hid hf;have HG:=Lib.hid hg;have HE:=Lib.hid he;have hlen:=hf.1;clear h1 h2 hf hg he
  go_enter Tryz.func18,Tryz.ntmps18
  go_wp2_with fail
  go_loopw [5] (fun i wr=>∃ k:Nat,k≤l.length∧i=.int .i64 k∧Below w.heap.size w wr∧same l m=same (l.drop k) (m.drop k)) (fun i _=>l.length-(intOf i).toNat)
  case atStart=>exact ⟨0,Nat.zero_le _,rfl,Below.refl _ _,rfl⟩
  case round=>
    obtain ⟨k,hk,rfl,hb,hsame⟩:=hrel;have HB:=Lib.hid hb;have HS:=Lib.hid hsame;clear hb hsame
    by_cases hlt:k<l.length
    · have hlt2:k<m.length:=by rw [HE.out]; exact hlt
      obtain ⟨a,e1,e2,hs⟩:=H1.out k hlt;obtain ⟨a',e1',e2',hs'⟩:=H2.out k hlt2;have c1:wr.cell? ⟨b1,o1+k*2,none⟩=some a:=by rw [Nat.mul_comm k 2,HB.out.cell (Ap.z0a e1)]; exact e1
      have c2:wr.cell? ⟨b1,o1+k*2+1,none⟩=some (.int .i64 l[k].e):=by rw [Nat.mul_comm k 2,HB.out.cell (Ap.z0a e2)]; exact e2
      have c3:wr.cell? ⟨b2,o2+k*2,none⟩=some a':=by rw [Nat.mul_comm k 2,HB.out.cell (Ap.z0a e1')]; exact e1'
      have c4:wr.cell? ⟨b2,o2+k*2+1,none⟩=some (.int .i64 m[k].e):=by rw [Nat.mul_comm k 2,HB.out.cell (Ap.z0a e2')]; exact e2'
      have HS1:=Lib.hid hs;have HS2:=Lib.hid hs';have HA:=Lib.hid (HS.out.trans (same_at l m k hlt hlt2));clear e1 e2 hs e1' e2' hs';obtain ⟨u,hu⟩:∃ u,l[k]=u:=⟨_,rfl⟩
      obtain ⟨v,hv⟩:∃ v,m[k]=v:=⟨_,rfl⟩
      have hua:u.a.length≤1000000000000:=by rw [← hu]; exact HF.out.2 _ (List.getElem_mem hlt)
      have hva:v.a.length≤1000000000000:=by rw [← hv]; exact HG.out.2 _ (List.getElem_mem hlt2)
      rw [hu] at c2 HS1 HA;rw [hv] at c4 HS2 HA;clear hu hv
      cases hcu:cmp u v==0 with
      | true=>
        have hcn:(cmp u v != 0)=false:=by rw [bne,hcu]; rfl
        go_wp2_with fail
        go_still_tail 8,(by kernel_rfl)
        change wpList _ _ _ _ _ wr.drew;go_wp2_with fail;refine (y0j _ _ u v _ (HS1.out.below HB.out.drew) (HS2.out.below HB.out.drew) hua hva).mono ?_;rintro e w' ⟨rfl,hb'⟩;go_wp2_with fail
        go_roundw
        case rel=>exact ⟨k+1,by omega,by go_num,HB.out.drew.trans (hb'.mono HB.out.size),by rw [HA.out,hcu]; rfl⟩
        case measure=>simp [intOf]; omega
      | false=>
        have hcn:(cmp u v != 0)=true:=by rw [bne,hcu]; rfl
        go_wp2_with fail
        go_still_tail 8,(by kernel_rfl)
        change wpList _ _ _ _ _ wr.drew;go_wp2_with fail;refine (y0j _ _ u v _ (HS1.out.below HB.out.drew) (HS2.out.below HB.out.drew) hua hva).mono ?_;rintro e w' ⟨rfl,hb'⟩;go_wp2_with fail;go_ret;exact ⟨ret_bool (by rw [HA.out,hcu]; rfl),HB.out.drew.trans (hb'.mono HB.out.size)⟩
    · go_wp2_with fail;go_ret;refine ⟨ret_bool ?_,HB.out⟩;rw [HS.out,List.drop_eq_nil_of_le (by omega),List.drop_eq_nil_of_le (by rw [HE.out]; omega)]
      rfl
theorem same_any (x y:Value) (l m:List Tr) (w:World) (hx:Trs w x l) (hy:Trs w y m) (hf:Few l) (hg:Few m) :
    Calls Tryz.prog 18 #[x,y] w fun e w'=>e=.returned (.bool (same l m))∧Below w.heap.size w w':=by
  by_cases he:l.length=m.length
  · rcases hx.form with ⟨rfl,a,cap,rfl⟩ | ⟨b,off,cap,rfl,hc⟩
    · obtain rfl:m=[]:=List.eq_nil_of_length_eq_zero he.symm;obtain ⟨_,⟨_,a',cap',rfl,_⟩,_⟩:=hy;exact y0z a a' cap cap' w
    · rcases hy.form with ⟨rfl,a',cap',rfl⟩ | ⟨b',off',cap',rfl,hc'⟩
      · obtain rfl:l=[]:=List.eq_nil_of_length_eq_zero he;exact y0z _ a' cap cap' w
      · rw [← he];exact x2p b off cap b' off' cap' l m w hf hg he.symm hc hc'
  · rw [x0b he];obtain ⟨_,⟨_,a,cap,rfl,_⟩,_⟩:=hx;obtain ⟨_,⟨_,a',cap',rfl,_⟩,_⟩:=hy;exact x2o a a' cap cap' l.length m.length w he
def sg3 (c:Int):Int:=if c<0 then -1 else if 0<c then 1 else 0
def cmpS (x y:ByteArray):Int:=if ls x y then -1 else if ls y x then 1 else 0
def cmpI (x y:Int):Int:=if x<y then -1 else if y<x then 1 else 0
theorem nanS (x:ByteArray) (w:World):Calls Tryz.prog 218 #[.string x] w fun e w'=>e=.returned (.bool false)∧w'=w:=by
  have hxx:(x.toList==x.toList)=true:=by simp
  go_enter Tryz.func218,Tryz.ntmps218
  go_wp2_with fail;go_ret;exact ⟨rfl,rfl⟩
theorem nanI (x:Int) (w:World):Calls Tryz.prog 199 #[.int .i64 x] w fun e w'=>e=.returned (.bool false)∧w'=w:=by
  go_enter Tryz.func199,Tryz.ntmps199
  go_wp2_with fail;go_ret;exact ⟨rfl,rfl⟩
theorem cmpS_any (x y:ByteArray) (w:World):Calls Tryz.prog 198 #[.string x,.string y] w fun e w'=>e=.returned (.int .i64 (cmpS x y))∧w'=w:=by
  cases hx:ls x y with
  | true=>
    have hx':Op.bytesLess x.toList y.toList=true:=hx;have HX:=Lib.hid hx;clear hx
    go_enter Tryz.func198,Tryz.ntmps198
    go_wp2_with (go_at_call 218; refine (nanS _ _).mono ?_; rintro e w' ⟨rfl,rfl⟩);go_ret;exact ⟨ret_int (by rw [cmpS,HX.out]; rfl),rfl⟩
  | false=>
    have hx':Op.bytesLess x.toList y.toList=false:=hx;have hy':=x1j hx;have HX:=Lib.hid hx;clear hx
    cases hy:ls y x with
    | true=>
      rw [hy] at hy';have HY:=Lib.hid hy;clear hy
      go_enter Tryz.func198,Tryz.ntmps198
      go_wp2_with (go_at_call 218; refine (nanS _ _).mono ?_; rintro e w' ⟨rfl,rfl⟩);go_ret;exact ⟨ret_int (by rw [cmpS,HX.out,HY.out]; rfl),rfl⟩
    | false=>
      rw [hy] at hy';have HY:=Lib.hid hy;clear hy
      go_enter Tryz.func198,Tryz.ntmps198
      go_wp2_with (go_at_call 218; refine (nanS _ _).mono ?_; rintro e w' ⟨rfl,rfl⟩);go_ret;exact ⟨ret_int (by rw [cmpS,HX.out,HY.out]; rfl),rfl⟩
theorem cmpI_any (x y:Int) (w:World):Calls Tryz.prog 155 #[.int .i64 x,.int .i64 y] w fun e w'=>e=.returned (.int .i64 (cmpI x y))∧w'=w:=by
  by_cases h1:x<y
  · go_enter Tryz.func155,Tryz.ntmps155
    go_wp2_with (go_at_call 199; refine (nanI _ _).mono ?_; rintro e w' ⟨rfl,rfl⟩);go_ret;exact ⟨ret_int (by rw [cmpI,if_pos h1]),rfl⟩
  · by_cases h2:y<x
    · go_enter Tryz.func155,Tryz.ntmps155
      go_wp2_with (go_at_call 199; refine (nanI _ _).mono ?_; rintro e w' ⟨rfl,rfl⟩);go_ret;exact ⟨ret_int (by rw [cmpI,if_neg (by omega),if_pos h2]),rfl⟩
    · go_enter Tryz.func155,Tryz.ntmps155
      go_wp2_with (go_at_call 199; refine (nanI _ _).mono ?_; rintro e w' ⟨rfl,rfl⟩);go_ret;exact ⟨ret_int (by rw [cmpI,if_neg (by omega),if_neg (by omega)]),rfl⟩
theorem sg3_at (l m:List ByteArray) (k:Nat) (h1:k<l.length) (h2:k<m.length) :
    sg3 (row (l.drop k) (m.drop k))=if cmpS l[k] m[k]=0 then sg3 (row (l.drop (k+1)) (m.drop (k+1))) else cmpS l[k] m[k]:=by
  rw [row_at l m k h1 h2,cmpS]
  cases ls l[k] m[k] with
  | true=>rfl
  | false=>
    cases ls m[k] l[k] with
    | true=>rfl
    | false=>rfl
theorem sg3_over (l m:List ByteArray) (k:Nat) (h1:k<l.length) (h2:¬ k<m.length) (h3:k≤m.length):sg3 (row (l.drop k) (m.drop k))=1:=by
  rw [y2p l m k (by omega) h3 (.inr h2),sg3,if_neg (by omega),if_pos (by omega)]
theorem x6b (l m:List ByteArray) (k:Nat) (h1:k=l.length) (h3:k≤m.length):sg3 (row (l.drop k) (m.drop k))=if l.length<m.length then -1 else 0:=by
  rw [y2p l m k (by omega) h3 (.inl (by omega)),sg3]
  by_cases h:l.length<m.length
  · rw [if_pos (by omega),if_pos h]
  · rw [if_neg (by omega),if_neg (by omega),if_neg h]
theorem x2r (b1 o1 c1 b2 o2 c2:Nat) (l m:List ByteArray) (w:World) (hl:l.length≤1000000000000) (_hm:m.length≤1000000000000)
    (h1:∀ k,(h:k<l.length)→w.cell? ⟨b1,o1+k,none⟩=some (.string l[k])) (h2:∀ k,(h:k<m.length)→w.cell? ⟨b2,o2+k,none⟩=some (.string m[k])) :
    Calls Tryz.prog 154 #[.slice (some ⟨b1,o1,none⟩) l.length c1,.slice (some ⟨b2,o2,none⟩) m.length c2] w fun e w'=>e=.returned (.int .i64 (sg3 (row l m)))∧w'=w:=by
  have H1:=Lib.hid h1;have H2:=Lib.hid h2;clear h1 h2
  go_enter Tryz.func154,Tryz.ntmps154
  go_wp2_with fail
  go_loopw [11] (fun i wr=>∃ k:Nat,k≤l.length∧k≤m.length∧i=.int .i64 k∧wr=w∧sg3 (row l m)=sg3 (row (l.drop k) (m.drop k))) (fun i _=>l.length-(intOf i).toNat)
  case atStart=>exact ⟨0,Nat.zero_le _,Nat.zero_le _,rfl,rfl,rfl⟩
  case round=>
    obtain ⟨k,hk1,hk2,rfl,rfl,hrow⟩:=hrel;have HROW:=Lib.hid hrow;clear hrow
    by_cases hlt:k<l.length
    · have e1:=H1.out k hlt
      by_cases hlt2:k<m.length
      · have e2:=H2.out k hlt2;have HA:=Lib.hid (HROW.out.trans (sg3_at l m k hlt hlt2));obtain ⟨x,hx⟩:∃ x,l[k]=x:=⟨_,rfl⟩
        obtain ⟨y,hy⟩:∃ y,m[k]=y:=⟨_,rfl⟩
        rw [hx] at e1 HA;rw [hy] at e2 HA;clear hx hy;obtain ⟨c,hc⟩:∃ c,cmpS x y=c:=⟨_,rfl⟩
        have HC:=Lib.hid (cmpS_any x y);rw [hc] at HA HC;clear hc
        by_cases h0:c=0
        · subst h0;go_wp2_with (go_at_call 198; refine (HC.out _).mono ?_; rintro e w' ⟨rfl,rfl⟩)
          go_roundw
          case rel=>exact ⟨k+1,by omega,by omega,by go_num,(by first | rfl | trivial),HA.out⟩
          case measure=>simp [intOf]; omega
        · have H0:=Lib.hid h0;go_wp2_with (go_at_call 198; refine (HC.out _).mono ?_; rintro e w' ⟨rfl,rfl⟩);go_ret;exact ⟨ret_int (by rw [HA.out,if_neg H0.out]),rfl⟩
      · have HE:=Lib.hid (HROW.out.trans (sg3_over l m k hlt hlt2 hk2));go_wp2_with fail;go_ret;exact ⟨ret_int HE.out.symm,rfl⟩
    · have HE:=Lib.hid (HROW.out.trans (x6b l m k (by omega) hk2))
      by_cases hlm:l.length<m.length
      · rw [if_pos hlm] at HE;go_wp2_with fail;go_ret;exact ⟨ret_int HE.out.symm,rfl⟩
      · rw [if_neg hlm] at HE;go_wp2_with fail;go_ret;exact ⟨ret_int HE.out.symm,rfl⟩
theorem z7m (a1 a2:Option Addr) (c1 c2 n:Nat) (w:World) (_hn:n≤1000000000000) :
    Calls Tryz.prog 154 #[.slice a1 0 c1,.slice a2 n c2] w fun e w'=>e=.returned (.int .i64 (if 0<n then -1 else 0))∧w'=w:=by
  by_cases h:0<n
  · rw [if_pos h]
    go_enter Tryz.func154,Tryz.ntmps154
    go_wp2_with fail;refine Go.wp_loop_rounds 1 ?_;rw [rounds_succ];go_wp2_with fail;go_ret;exact ⟨rfl,rfl⟩
  · rw [if_neg h]
    go_enter Tryz.func154,Tryz.ntmps154
    go_wp2_with fail;refine Go.wp_loop_rounds 1 ?_;rw [rounds_succ];go_wp2_with fail;go_ret;exact ⟨rfl,rfl⟩
theorem y5d (b1 o1 c1:Nat) (a2:Option Addr) (c2 n:Nat) (w:World) (x:ByteArray) (_hn:n≤1000000000000) (h0:0<n) (h1:w.cell? ⟨b1,o1,none⟩=some (.string x)) :
    Calls Tryz.prog 154 #[.slice (some ⟨b1,o1,none⟩) n c1,.slice a2 0 c2] w fun e w'=>e=.returned (.int .i64 1)∧w'=w:=by
  go_enter Tryz.func154,Tryz.ntmps154
  go_wp2_with fail;refine Go.wp_loop_rounds 1 ?_;rw [rounds_succ];go_wp2_with fail;go_ret;exact ⟨rfl,rfl⟩
theorem rowc_any (v1 v2:Value) (l m:List ByteArray) (w:World) (h1:Strs w v1 l) (h2:Strs w v2 m) (hl:l.length≤1000000000000) (hm:m.length≤1000000000000) :
    Calls Tryz.prog 154 #[v1,v2] w fun e w'=>e=.returned (.int .i64 (sg3 (row l m)))∧w'=w:=by
  have hL:∀ m:List ByteArray,sg3 (row [] m)=if 0<m.length then -1 else 0:=fun m=>by
    have:=x6b [] m 0 rfl (Nat.zero_le _)
    simpa using this
  rcases h1.form with ⟨rfl,a1,c1,rfl⟩ | ⟨b1,o1,c1,rfl,hc1⟩
  · obtain ⟨_,a2,c2,rfl,_⟩:=h2;rw [hL];exact z7m a1 a2 c1 c2 m.length w hm
  · by_cases h0:0<l.length
    · rcases h2.form with ⟨rfl,a2,c2,rfl⟩ | ⟨b2,o2,c2,rfl,hc2⟩
      · rw [z1v,sg3,if_neg (by omega),if_pos (by omega)];exact y5d b1 o1 c1 a2 c2 l.length w l[0] hl h0 (hc1 0 h0)
      · exact x2r b1 o1 c1 b2 o2 c2 l m w hl hm hc1 hc2
    · obtain rfl:l=[]:=List.eq_nil_of_length_eq_zero (by omega);obtain ⟨_,a2,c2,rfl,_⟩:=h2;rw [hL];exact z7m _ a2 c1 c2 m.length w hm
theorem x7j (x y:Int) (b:Nat) (w:World) (h1:w.cell? ⟨b,0,none⟩=some (.int .i64 x)) (h2:w.cell? ⟨b,1,none⟩=some (.int .i64 y)) :
    Calls Tryz.prog 153 #[.slice (some ⟨b,0,none⟩) 2 2] w fun e w'=>e=.returned (.int .i64 (if x=0 then y else x))∧w'=w:=by
  by_cases hx:x=0
  · rw [if_pos hx];subst hx
    by_cases hy:y=0
    · subst hy
      go_enter Tryz.func153,Tryz.ntmps153
      go_wp2_with fail;refine Go.wp_loop_rounds 3 ?_;rw [rounds_succ];go_wp2_with fail;rw [rounds_succ];go_wp2_with fail;rw [rounds_succ];go_wp2_with fail;go_ret;exact ⟨rfl,rfl⟩
    · go_enter Tryz.func153,Tryz.ntmps153
      go_wp2_with fail;refine Go.wp_loop_rounds 2 ?_;rw [rounds_succ];go_wp2_with fail;rw [rounds_succ];go_wp2_with fail;go_ret;exact ⟨rfl,rfl⟩
  · rw [if_neg hx]
    go_enter Tryz.func153,Tryz.ntmps153
    go_wp2_with fail;refine Go.wp_loop_rounds 1 ?_;rw [rounds_succ];go_wp2_with fail;go_ret;exact ⟨rfl,rfl⟩
theorem cmp_or (p q:Tr):(if sg3 (row p.a q.a)=0 then cmpI p.e q.e else sg3 (row p.a q.a))=cmp p q:=by
  rcases Int.lt_trichotomy (row p.a q.a) 0 with h | h | h
  · have e:sg3 (row p.a q.a)=-1:=by rw [sg3,if_pos h]
    rw [e,if_neg (by decide)];have:=y0i (p:=p) (q:=q) |>.2 (.inl h);have:=y6s p q;omega
  · have e:sg3 (row p.a q.a)=0:=by rw [h]; rfl
    rw [e,if_pos rfl,cmpI,cmp];simp [h]
    repeat' split
    all_goals omega
  · have e:sg3 (row p.a q.a)=1:=by rw [sg3,if_neg (by omega),if_pos h]
    rw [e,if_neg (by decide)];have h2:row q.a p.a<0:=(z7v _ _).2 h;have:=y0i (p:=q) (q:=p) |>.2 (.inl h2);have:=z4e p q;have:=y6s p q;omega
end Tr
namespace Rw
open Go Go.RowKit
def Made (w wr:World) (v:Value) (l:List Nd) (k p:Nat):Prop:=∃ cs d,Far l 0 k p d∧wr.ownsRow w.heap.size 22 1 v k cs∧RwC w cs (kidsN k (l.drop 1))∧Below w.heap.size w wr

def Own1 (base:Nat) (out:Option Nat) (w:World) (a:Value) (r:List Nd):Prop:=
  Ap.RdO (fun g=>base≤g∧some g≠out) w 3 a r.length (cls r)∧∀ b off cap,a=.slice (some ⟨b,off,none⟩) r.length cap→∀ j,j<r.length*3→w.frozen? ⟨b,off+j,none⟩=false
def OwnC (base:Nat) (out:Option Nat) (w:World):List Value→List (List Nd)→Prop
  | [],[]=>True
  | a::cs,r::rs=>Own1 base out w a r∧OwnC base out w cs rs
  | _,_=>False
def blk:Value→Option Nat
  | .slice (some a) _ _=>some a.block
  | _=>none
def KidsPost (ls:List (List Nd)) (w:World) (e:Ending) (w':World):Prop:=
  ∃ y cs,e=.returned y∧Ap.RdO (fun g=>w.heap.size≤g) w' 1 y ls.length cs∧OwnC w.heap.size (blk y) w' cs ls∧Below w.heap.size w w'
theorem OwnC.rwc {base:Nat} {out:Option Nat} {w:World}:∀ {cs:List Value} {ls:List (List Nd)},OwnC base out w cs ls→RwC w cs ls
  | [],[],_=>trivial
  | _::_,_::_,h=>⟨h.1.1.rd,OwnC.rwc h.2⟩
  | [],_::_,h=>h.elim
  | _::_,[],h=>h.elim
def sameN (l m:List Nd):Bool:=decide (l=m)
theorem y5c {l m:List Nd} (h:l.length≠m.length):sameN l m=false:=decide_eq_false fun e=>h (by rw [e])
theorem x0c {l m:List Nd} {k:Nat} (h1:k<l.length) (h2:k<m.length):sameN (l.drop k) (m.drop k)=(decide (l[k]=m[k])&&sameN (l.drop (k+1)) (m.drop (k+1))):=by
  unfold sameN;rw [List.drop_eq_getElem_cons h1,List.drop_eq_getElem_cons h2,Bool.eq_iff_iff];simp only [decide_eq_true_eq,Bool.and_eq_true,List.cons.injEq]
theorem y7l (a1 a2:Option Addr) (c1 c2 n m:Nat) (w:World) (h:n≠m) :
    Calls Tryz.prog 11 #[.slice a1 n c1,.slice a2 m c2] w fun e w'=>e=.returned (.bool false)∧Below w.heap.size w w':=by
  have hne:((n:Int)==(m:Int))=false:=by rw [beq_eq_false_iff_ne]; omega
  have hne':((n:Int) != (m:Int))=true:=by rw [bne_iff_ne]; omega
  go_enter Tryz.func11,Tryz.ntmps11
  go_wp2_with fail;go_ret;exact ⟨rfl,Below.refl _ _⟩
theorem z8s (a1 a2:Option Addr) (c1 c2:Nat) (w:World) :
    Calls Tryz.prog 11 #[.slice a1 0 c1,.slice a2 0 c2] w fun e w'=>e=.returned (.bool true)∧Below w.heap.size w w':=by
  go_enter Tryz.func11,Tryz.ntmps11
  go_wp2_with fail;refine Go.wp_loop_rounds 1 ?_;rw [rounds_succ];go_wp2_with fail;go_ret;exact ⟨rfl,Below.refl _ _⟩
theorem y7m (b1 o1 c1 b2 o2 c2:Nat) (l m:List Nd) (w:World) (hl:l.length≤1000000) (he:m.length=l.length) (h1:At w b1 o1 l) (h2:At w b2 o2 m) :
    Calls Tryz.prog 11 #[.slice (some ⟨b1,o1,none⟩) l.length c1,.slice (some ⟨b2,o2,none⟩) l.length c2] w fun e w'=>e=.returned (.bool (sameN l m))∧Below w.heap.size w w':=by
  have H1:=Lib.hid h1;have H2:=Lib.hid h2;have HE:=Lib.hid he;clear h1 h2 he
  go_enter Tryz.func11,Tryz.ntmps11
  go_wp2_with fail
  go_loopw [5] (fun i wr=>∃ k:Nat,k≤l.length∧i=.int .i64 k∧Below w.heap.size w wr∧sameN l m=sameN (l.drop k) (m.drop k)) (fun i _=>l.length-(intOf i).toNat)
  case atStart=>exact ⟨0,Nat.zero_le _,rfl,Below.refl _ _,rfl⟩
  case round=>
    obtain ⟨k,hk,rfl,hb,hsame⟩:=hrel;have HB:=Lib.hid hb;have HS:=Lib.hid hsame;clear hb hsame
    by_cases hlt:k<l.length
    · have hlt2:k<m.length:=by rw [HE.out]; exact hlt
      obtain ⟨e1,e2,e3⟩:=H1.out k hlt;obtain ⟨e1',e2',e3'⟩:=H2.out k hlt2;have d1:wr.cell? ⟨b1,o1+k*3,none⟩=some (.int .i64 l[k].k):=by rw [HB.out.cell (Ap.z0a e1)]; exact e1
      have d2:wr.cell? ⟨b1,o1+k*3+1,none⟩=some (.string l[k].n):=by rw [HB.out.cell (Ap.z0a e2)]; exact e2
      have d3:wr.cell? ⟨b1,o1+k*3+2,none⟩=some (.int .i64 l[k].s):=by rw [HB.out.cell (Ap.z0a e3)]; exact e3
      have d4:wr.cell? ⟨b2,o2+k*3,none⟩=some (.int .i64 m[k].k):=by rw [HB.out.cell (Ap.z0a e1')]; exact e1'
      have d5:wr.cell? ⟨b2,o2+k*3+1,none⟩=some (.string m[k].n):=by rw [HB.out.cell (Ap.z0a e2')]; exact e2'
      have d6:wr.cell? ⟨b2,o2+k*3+2,none⟩=some (.int .i64 m[k].s):=by rw [HB.out.cell (Ap.z0a e3')]; exact e3'
      have HA:=Lib.hid (HS.out.trans (x0c hlt hlt2));clear e1 e2 e3 e1' e2' e3';obtain ⟨u,hu⟩:∃ u,l[k]=u:=⟨_,rfl⟩
      obtain ⟨v,hv⟩:∃ v,m[k]=v:=⟨_,rfl⟩
      rw [hu] at d1 d2 d3 HA;rw [hv] at d4 d5 d6 HA;clear hu hv;have hq:=neq_nd u v
      by_cases huv:u=v
      · rw [decide_eq_true huv] at hq;have HV:=Lib.hid huv;clear huv;go_wp2_with fail
        go_quiet (fail)
        go_wp2_with fail
        go_roundw
        case rel=>exact ⟨k+1,by omega,by go_num,HB.out.trans (Below.drewN _ _ _),by rw [HA.out,decide_eq_true HV.out,Bool.true_and]⟩
        case measure=>simp [intOf]; omega
      · rw [decide_eq_false huv] at hq;have HV:=Lib.hid huv;clear huv;go_wp2_with fail
        go_quiet (fail)
        go_wp2_with fail;go_ret;exact ⟨ret_bool (by rw [HA.out,decide_eq_false HV.out,Bool.false_and]),HB.out.trans (Below.drewN _ _ _)⟩
    · go_wp2_with fail;go_ret;refine ⟨ret_bool ?_,HB.out⟩;rw [HS.out,List.drop_eq_nil_of_le (by omega),List.drop_eq_nil_of_le (by rw [HE.out]; omega)]
      rfl
theorem z6d (x y:Value) (l m:List Nd) (w:World) (hx:Nds w x l) (hy:Nds w y m) (hl:l.length≤1000000) :
    Calls Tryz.prog 11 #[x,y] w fun e w'=>e=.returned (.bool (sameN l m))∧Below w.heap.size w w':=by
  by_cases he:l.length=m.length
  · rcases hx.form with ⟨rfl,a,cap,rfl⟩ | ⟨b,off,cap,rfl,_,hc⟩
    · obtain rfl:m=[]:=List.eq_nil_of_length_eq_zero he.symm;obtain ⟨_,a',cap',rfl,_⟩:=hy;exact z8s a a' cap cap' w
    · rcases hy.form with ⟨rfl,a',cap',rfl⟩ | ⟨b',off',cap',rfl,_,hc'⟩
      · obtain rfl:l=[]:=List.eq_nil_of_length_eq_zero he;exact z8s _ a' cap cap' w
      · rw [← he];exact y7m b off cap b' off' cap' l m w hl he.symm hc hc'
  · rw [y5c he];obtain ⟨_,a,cap,rfl,_⟩:=hx;obtain ⟨_,a',cap',rfl,_⟩:=hy;exact y7l a a' cap cap' l.length m.length w he

end Rw
namespace Rx
open Go Go.RowKit Rw
theorem rwC_at {w:World}:∀ {cs:List Value} {ls:List (List Nd)},RwC w cs ls→∀ i (h:i<ls.length),∃ a,cs[i]?=some a∧Nds w a ls[i]
  | [],[],_,i,h=>by simp at h
  | a::_,_::_,hr,0,_=>⟨a,rfl,hr.1⟩
  | _::cs,_::ls,hr,i+1,h=>by
    obtain ⟨a,h1,h2⟩:=rwC_at hr.2 i (by simpa using h);exact ⟨a,by simpa using h1,by simpa using h2⟩
  | [],_::_,h,_,_=>h.elim
  | _::_,[],h,_,_=>h.elim
def AtRs (w:World) (b off:Nat) (ls:List (List Nd)):Prop:=∀ i,(h:i<ls.length)→∃ a,w.cell? ⟨b,off+i,none⟩=some a∧Nds w a ls[i]
theorem rws_form {w:World} {v:Value} {ls:List (List Nd)} (h:Rws w v ls) :
    (ls=[]∧∃ a cap,v=.slice a 0 cap)∨∃ b off cap,v=.slice (some ⟨b,off,none⟩) ls.length cap∧AtRs w b off ls:=by
  obtain ⟨cs,⟨_,a,cap,rfl,hle,_,hcell⟩,hr⟩:=h
  by_cases h0:0<ls.length
  · obtain ⟨b,off,rfl,hj⟩:=hcell h0;refine Or.inr ⟨b,off,cap,rfl,fun i hi=>?_⟩;obtain ⟨a,h1,h2⟩:=rwC_at hr i hi;exact ⟨a,hj i a h1,h2⟩
  · have:ls=[]:=List.eq_nil_of_length_eq_zero (by omega);subst this;exact Or.inl ⟨rfl,a,cap,rfl⟩
theorem heap_new (w:World) (o:Obj):(w.alloc o).heap[w.heap.size]?=some o:=by
  show (w.heap.push o)[w.heap.size]?=some o
  simp
def Mk (w wr:World) (x:Nd) (ls:List (List Nd)) (k:Nat) (v:Value):Prop:=wr.ownsRow w.heap.size 36 3 v (x::(ls.take k).flatten).length (cls (x::(ls.take k).flatten))∧Below w.heap.size w wr
theorem Mk.start (w:World) (x:Nd) (ls:List (List Nd)):Mk w ((w.alloc (nb x)).alloc (nb x)) x ls 0 (.slice (some ⟨w.heap.size+1,0,none⟩) 1 1):=by
  refine ⟨⟨by simp [cls,cl],.inr ⟨w.heap.size+1,1,#[.int .i64 x.k,.string x.n,.int .i64 x.s],rfl,by omega,?_,by simp,by decide,rfl,by simp [cls,cl]⟩⟩,?_⟩
  · have h:=heap_new (w.alloc (nb x)) (nb x);rw [show (w.alloc (nb x)).heap.size=w.heap.size+1 by simp] at h;exact h
  · exact (z0f w _).alloc (z0f w _).size _
theorem y4o {ls:List (List Nd)} {k:Nat} (h:k<ls.length):(ls.take (k+1)).flatten=(ls.take k).flatten++ls[k]:=by
  rw [List.take_succ_eq_append_getElem h,List.flatten_append];simp only [List.flatten_cons,List.flatten_nil,List.append_nil]
theorem x9n:∀ (ls:List (List Nd)) (k:Nat),(ls.take k).flatten.length≤ls.flatten.length
  | [],k=>by simp
  | _::_,0=>by simp
  | l::ls,k+1=>by have:=x9n ls k; simp [List.take_succ_cons]; simp at this; omega
theorem Mk.next {w wr:World} {x:Nd} {ls:List (List Nd)} {k:Nat} {v a:Value} (h:Mk w wr x ls k v) (hk:k<ls.length) (ha:Nds wr a ls[k]) (hf:ls.flatten.length≤1000000) :
    ∃ v' w',(Builtin.append_ #[22,22] 22 #[v,a]).run Tryz.prog wr=.ok v' w'∧Mk w w' x ls (k+1) v':=by
  have h1:=x9n ls (k+1);rw [y4o hk,List.length_append] at h1;obtain ⟨v',w',hrun,hown,_,hb,_⟩:=z5m h.1 h.2.size ha (by rw [List.length_cons]; omega);refine ⟨v',w',hrun,?_,h.2.trans hb⟩;rw [y4o hk,← List.cons_append];exact hown
theorem y5h {w:World} {base size n:Nat} {e:TypeId} {v:Value} {xs:List Value} (h:w.ownsRow base e size v n xs):∃ a c,v=.slice a n c:=by
  obtain ⟨_,⟨rfl,rfl⟩ | ⟨g,cap,cur,rfl,_⟩⟩:=h
  · exact ⟨none,0,rfl⟩
  · exact ⟨_,_,rfl⟩
theorem x3i (x:Nd) (b off cap:Nat) (ls:List (List Nd)) (w:World) (hat:AtRs w b off ls) (hl:ls.length≤1000) (hf:ls.flatten.length≤1000000) :
    Calls Tryz.prog 83 #[.agg #[.int .i64 x.k,.string x.n,.int .i64 x.s],.slice (some ⟨b,off,none⟩) ls.length cap] w fun e w'=>∃ y,e=.returned y∧Ap.RdO (fun g=>w.heap.size≤g) w' 3 y (x::ls.flatten).length (cls (x::ls.flatten))∧Below w.heap.size w w':=by
  have HA:=Lib.hid hat;have HF:=Lib.hid hf;have HS:=Lib.hid (Mk.start w x ls);clear hat hf
  go_enter Tryz.func83,Tryz.ntmps83
  go_wp2_with fail
  go_loopw [5,12] (fun mv iv wr=>∃ k:Nat,k≤ls.length∧iv=.int .i64 k∧Hid (Mk w wr x ls k mv)) (fun _ i _=>ls.length-(intOf i).toNat)
  case atStart=>exact ⟨0,Nat.zero_le _,rfl,HS⟩
  case round=>
    obtain ⟨k,hk,rfl,HM⟩:=hrel
    by_cases hlt:k<ls.length
    · obtain ⟨a,ha,hnd⟩:=HA.out k hlt;have c1:wr.cell? ⟨b,off+k,none⟩=some a:=by rw [HM.out.2.cell (Ap.z0a ha)]; exact ha
      obtain ⟨v',w',hrun,hmk⟩:=HM.out.next hlt (hnd.below HM.out.2) HF.out;obtain ⟨am,cm,rfl⟩:=y5h HM.out.1;obtain ⟨_,aa,ca,rfl,-⟩:=hnd;have R:=Lib.hid hrun;have HM':=Lib.hid hmk;clear ha hrun hmk;go_wp2_with (at_builtin; refine Ap.wpList_append_run (by rfl) (.tmp 16) (.tmp 17) _ _ rfl _ _ rfl rfl v' w' R.out ?_)
      go_roundw
      case rel=>exact ⟨k+1,by omega,by go_num,HM'⟩
      case measure=>simp [intOf]; omega
    · have h1:=HM.out;unfold Mk at h1;rw [List.take_of_length_le (by omega)] at h1;obtain ⟨am,cm,rfl⟩:=y5h h1.1;have H1:=Lib.hid h1;clear h1;go_wp2_with fail;go_ret;exact ⟨_,rfl,Ap.RdO.fresh H1.out.1,H1.out.2⟩
theorem x3h (x:Nd) (a:Option Addr) (cap:Nat) (w:World) :
    Calls Tryz.prog 83 #[.agg #[.int .i64 x.k,.string x.n,.int .i64 x.s],.slice a 0 cap] w fun e w'=>∃ y,e=.returned y∧Ap.RdO (fun g=>w.heap.size≤g) w' 3 y (x::([]:List (List Nd)).flatten).length (cls (x::([]:List (List Nd)).flatten))∧Below w.heap.size w w':=by
  have HS:=Lib.hid (Mk.start w x [])
  go_enter Tryz.func83,Tryz.ntmps83
  go_wp2_with fail;refine Go.wp_loop_rounds 1 ?_;rw [rounds_succ];go_wp2_with fail;go_ret;exact ⟨_,rfl,Ap.RdO.fresh HS.out.1,HS.out.2⟩
theorem y5m (x:Nd) (v:Value) (ls:List (List Nd)) (w:World) (h:Rws w v ls) (hl:ls.length≤1000) (hf:ls.flatten.length≤1000000) :
    Calls Tryz.prog 83 #[.agg #[.int .i64 x.k,.string x.n,.int .i64 x.s],v] w fun e w'=>∃ y,e=.returned y∧Ap.RdO (fun g=>w.heap.size≤g) w' 3 y (x::ls.flatten).length (cls (x::ls.flatten))∧Below w.heap.size w w':=by
  rcases rws_form h with ⟨rfl,a,cap,rfl⟩ | ⟨b,off,cap,rfl,hat⟩
  · exact x3h x a cap w
  · exact x3i x b off cap ls w hat hl hf
theorem x8v:(Tryz.prog.info? 3).map (fun i=>(i.zero,i.size,i.bytes))=some (some (.int .i64 0),1,8):=by kernel_rfl
def ic (st:List Nat):List Value:=st.map fun (k:Nat)=>.int .i64 (k:Int)
def Stk (base:Nat) (w:World) (g cap:Nat) (st:List Nat):Prop:=w.ownsRow base 3 1 (.slice (some ⟨g,0,none⟩) st.length cap) st.length (ic st)
theorem Stk.parts {base:Nat} {w:World} {g cap:Nat} {st:List Nat} (h:Stk base w g cap st):∃ cur:Array Value,w.heap[g]?=some (.cells cur 3 (0,0))∧base≤g∧cap≤maxLen∧cur.size=cap∧st.length≤cap∧cur.toList.take st.length=ic st:=by
  obtain ⟨_,⟨h0,_⟩ | ⟨g',cap',cur,hv,hb,hg,hn,hm,hs,ht⟩⟩:=h
  · cases h0
  · cases hv
    exact ⟨cur,hg,hb,hm,by simpa using hs,hn,by simpa using ht⟩
theorem Stk.of {base:Nat} {w:World} {g cap:Nat} {st:List Nat} {cur:Array Value} (hg:w.heap[g]?=some (.cells cur 3 (0,0))) (hb:base≤g) (hm:cap≤maxLen) (hs:cur.size=cap) (hn:st.length≤cap) (ht:cur.toList.take st.length=ic st):Stk base w g cap st:=
  ⟨by simp [ic],.inr ⟨g,cap,cur,rfl,hb,hg,hn,hm,by simpa using hs,by simpa using ht⟩⟩
theorem Stk.cell {base:Nat} {w:World} {g cap:Nat} {st:List Nat} (h:Stk base w g cap st) (j:Nat) (hj:j<st.length):w.cell? ⟨g,j,none⟩=some (.int .i64 (st[j]:Int)):=by
  obtain ⟨cur,hg,_,_,hs,hn,ht⟩:=h.parts;have:cur.toList[j]?=(ic st)[j]?:=by rw [← ht,List.getElem?_take_of_lt hj]
  simp only [ic,List.getElem?_map,List.getElem?_eq_getElem hj,Option.map_some] at this;simp only [World.cell?,hg]
  simpa using this
theorem Stk.soft {base:Nat} {w:World} {g cap:Nat} {st:List Nat} (h:Stk base w g cap st) (j:Nat):w.frozen? ⟨g,j,none⟩=false:=by
  obtain ⟨cur,hg,_⟩:=h.parts;simp [World.frozen?,hg]
theorem Stk.cap {base:Nat} {w:World} {g cap:Nat} {st:List Nat} (h:Stk base w g cap st):st.length≤cap∧cap≤maxLen:=by
  obtain ⟨cur,_,_,hm,_,hn,_⟩:=h.parts;exact ⟨hn,hm⟩
theorem heap_setCell (w:World) (g o:Nat) (v:Value) (k:Nat):(w.setCell ⟨g,o,none⟩ v).heap[k]?=if g=k then (w.heap[k]?).map (fun x=>match x with | .cells c elem frozen=>.cells (c.setIfInBounds o v) elem frozen | o=>o) else w.heap[k]?:=by
  simp only [World.setCell,Array.getElem?_modify]
  by_cases h:g=k
  · simp [h]
    rfl
  · simp [h]
theorem Stk.down {base:Nat} {w:World} {g cap:Nat} {st:List Nat} (h:Stk base w g cap st) (i y:Nat) (hi:i<st.length):Stk base (w.setCell ⟨g,i,none⟩ (.int .i64 (y:Int))) g cap (st.take i++[y]):=by
  obtain ⟨cur,hg,hb,hm,hs,hn,ht⟩:=h.parts;refine Stk.of (cur:=cur.setIfInBounds i (.int .i64 (y:Int))) (by simp [heap_setCell,hg]) hb hm (by simpa using hs) (by simp; omega) ?_;have hl:(st.take i++[y]).length=i+1:=by simp; omega
  rw [hl];refine List.ext_getElem? fun j=>?_
  rw [List.getElem?_take]
  by_cases hj:j<i+1
  · rw [if_pos hj,Array.getElem?_toList,Array.getElem?_setIfInBounds]
    by_cases hji:j=i
    · subst hji;rw [if_pos rfl,if_pos (by omega)];simp [ic,List.length_take,Nat.min_eq_left (Nat.le_of_lt hi)]
    · have e:cur.toList[j]?=(ic st)[j]?:=by rw [← ht,List.getElem?_take_of_lt (by omega)]
      rw [if_neg (by omega),← Array.getElem?_toList,e];simp only [ic,List.getElem?_map];rw [List.getElem?_append_left (by simp; omega),List.getElem?_take_of_lt (by omega)]
  · rw [if_neg hj,List.getElem?_eq_none (by simp [ic]; omega)]
theorem z0y {B:Nat} {w0 w:World} (h:Below B w0 w) (g o:Nat) (v:Value) (hg:B≤g):Below B w0 (w.setCell ⟨g,o,none⟩ v):=
  ⟨h.os,h.tape,h.output,by rw [show (w.setCell ⟨g,o,none⟩ v).heap.size=w.heap.size by simp [World.setCell]]; exact h.size,fun k hk=>by rw [heap_setCell,if_neg (by omega)]; exact h.block k hk⟩
theorem Stk.push {base:Nat} {w:World} {g cap:Nat} {st:List Nat} (a:Nat) (h:Stk base w g cap st) (hbase:base≤w.heap.size) (hlen:st.length≤8796093022208) :
    ∃ g' cap' w',(Builtin.append_ #[60,60] 60 #[.slice (some ⟨g,0,none⟩) st.length cap,.slice (some ⟨w.heap.size,0,none⟩) 1 1]).run Tryz.prog (w.alloc (.cells #[.int .i64 (a:Int)] 3))=.ok (.slice (some ⟨g',0,none⟩) (st.length+1) cap') w'∧Stk base w' g' cap' (st++[a])∧Below base w w':=by
  obtain ⟨i0,hi,hz,hs1,hb8⟩:=info_parts x8v
  obtain ⟨v',w',h1,h2,h3,h4,h5⟩:=Ap.z0w (P:=Tryz.prog) (ty:=60) Tryz.underlying60 hi hz hs1 hb8 (by rfl) (by omega) h hbase #[.int .i64 (a:Int)] rfl
    (by intro u hu; simp at hu; subst hu; rfl) (by unfold maxLen; omega) (by omega)
  have hform:∃ g' cap',v'=.slice (some ⟨g',0,none⟩) (st.length+1) cap':=by
    obtain ⟨_,⟨_,h0⟩ | ⟨g',cap',cur,hv,_⟩⟩:=h2
    · omega
    · exact ⟨g',cap',hv⟩
  obtain ⟨g',cap',rfl⟩:=hform;refine ⟨g',cap',w',h1,?_,h4⟩;unfold Stk;have e:ic (st++[a])=ic st++[.int .i64 (a:Int)]:=by simp [ic]
  rw [e,show (st++[a]).length=st.length+1 by simp];exact h2
theorem pop_last {st:List Nat} {i:Nat} (h:i<st.length):(st.take (i+1)).reverse=st[i]::(st.take i).reverse:=by
  rw [List.take_succ_eq_append_getElem h,List.reverse_append]
  rfl
def Rest (l:List Nd) (k:Nat) (st:List Nat) (d:Nat):Prop:=Rx.ms (l.drop k) st.reverse d k=(size l,depth l)
theorem Rest.start (l:List Nd):Rest l 0 [] 0:=ms_of l
theorem Rest.stop {l:List Nd} {k d:Nat} {st:List Nat} (h:Rest l k st d) (hk:k<l.length) (ha:ar l[k].k<0):size l=0∧depth l=0:=by
  unfold Rest at h;rw [List.drop_eq_getElem_cons hk,Rx.ms,if_pos ha] at h;exact ⟨(congrArg Prod.fst h).symm,(congrArg Prod.snd h).symm⟩
theorem Rest.out {l:List Nd} {k d:Nat} {st:List Nat} (h:Rest l k st d) (hk:¬ k<l.length):size l=0∧depth l=0:=by
  unfold Rest at h;rw [List.drop_eq_nil_of_le (by omega),Rx.ms] at h;exact ⟨(congrArg Prod.fst h).symm,(congrArg Prod.snd h).symm⟩
theorem Rest.end {l:List Nd} {k d a:Nat} {st:List Nat} (h:Rest l k st d) (hk:k<l.length) (ha:ar l[k].k=(a:Int)) (hp:pop (st++[a]).reverse=none):size l=k+1∧depth l=max d (st.length+1):=by
  unfold Rest at h;rw [List.reverse_concat] at hp;rw [List.drop_eq_getElem_cons hk,Rx.ms,if_neg (by omega),ha,Int.toNat_natCast,hp,List.length_reverse] at h;exact ⟨(congrArg Prod.fst h).symm,(congrArg Prod.snd h).symm⟩
theorem Rest.more {l:List Nd} {k d a:Nat} {st s:List Nat} (h:Rest l k st d) (hk:k<l.length) (ha:ar l[k].k=(a:Int)) (hp:pop (st++[a]).reverse=some s.reverse):Rest l (k+1) s (max d (st.length+1)):=by
  unfold Rest at h ⊢;rw [List.reverse_concat] at hp;rw [List.drop_eq_getElem_cons hk,Rx.ms,if_neg (by omega),ha,Int.toNat_natCast,hp,List.length_reverse] at h;exact h
end Rx
end Go.Proofs.YtaapnkoooofalaaGreat
