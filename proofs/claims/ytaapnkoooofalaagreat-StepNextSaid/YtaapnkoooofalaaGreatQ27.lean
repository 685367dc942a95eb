/- The document's bang, Doomed: the walks. Plain: moves of two side by side; a refused action. The program's waits, second, kids: the walks. -/
import Derived.Test.YtaapnkoooofalaaGreatQ25
import Derived.Test.YtaapnkoooofalaaGreatQ13
import Derived.Test.YtaapnkoooofalaaGreatQ05
import Derived.Test.YtaapnkoooofalaaGreatQ14
import Derived.Deep.QuietTactic
import Derived.Test.YtaapnkoooofalaaGreatQ26
import Derived.Test.YtaapnkoooofalaaGreatQ06

namespace Go.Proofs.YtaapnkoooofalaaGreat.Do
open Go Go.RowKit Rw So Se
set_option maxRecDepth 20000
abbrev Wbang (t:Tm):Prop:=∀ (v:Value) (w:World),Nds w v (flat t)→Calls Tryz.prog 178 #[v] w fun e w'=>e=.returned (.bool (bangT t))∧Below w.heap.size w w'
set_option maxHeartbeats 1000000 in
theorem bang_act (s:ByteArray) (va:Value) (w:World) (hA:Nds w va (flat (.act s))) (hl:sz (.act s)≤400) :
    Calls Tryz.prog 178 #[va] w fun e w'=>e=.returned (.bool (false))∧Below w.heap.size w w':=by
  have KK:=Rw.kidsR_any va (flat (.act s)) w hA (by rw [Se.flat_len]; omega);rw [show kids (flat (.act s))=[] from rfl] at KK;obtain ⟨bA,oA,cA,rfl,hcA,hltA,hwA,hatA⟩:=form hA;obtain ⟨nA,hnA⟩:∃ n,sz (.act s)=n+1:=⟨sz (.act s) - 1,by have:=sz_pos (.act s); omega⟩
  rw [hnA] at hcA KK ⊢;have g3A:(1:Int)≤(nA:Int)+1:=by omega
  rw [show kd (.act s)=1 from rfl] at hwA;have SA:=Lib.hid hwA;have HK:=Lib.hid KK;clear hnA hatA hA hwA KK hl
  go_enter Tryz.func178,Tryz.ntmps178
  go_wp2_with fail;refine HK.out.mono ?_;rintro e wc ⟨y,rfl,hks,hb0⟩;obtain ⟨cs,hRd,-⟩:=hks;obtain ⟨_,ak,ck,rfl,-⟩:=hRd;have B0:=Lib.hid hb0;have e0:=(SA.out _ hb0).1;clear hb0;go_wp2_with fail;go_ret;exact ⟨rfl,B0.out⟩
set_option maxHeartbeats 1000000 in
theorem bang_skip  (va:Value) (w:World) (hA:Nds w va (flat .skip)) (hl:sz .skip≤400) :
    Calls Tryz.prog 178 #[va] w fun e w'=>e=.returned (.bool (false))∧Below w.heap.size w w':=by
  have KK:=Rw.kidsR_any va (flat .skip) w hA (by rw [Se.flat_len]; omega);rw [show kids (flat .skip)=[] from rfl] at KK;obtain ⟨bA,oA,cA,rfl,hcA,hltA,hwA,hatA⟩:=form hA;obtain ⟨nA,hnA⟩:∃ n,sz .skip=n+1:=⟨sz .skip - 1,by have:=sz_pos .skip; omega⟩
  rw [hnA] at hcA KK ⊢;have g3A:(1:Int)≤(nA:Int)+1:=by omega
  rw [show kd .skip=2 from rfl] at hwA;have SA:=Lib.hid hwA;have HK:=Lib.hid KK;clear hnA hatA hA hwA KK hl
  go_enter Tryz.func178,Tryz.ntmps178
  go_wp2_with fail;refine HK.out.mono ?_;rintro e wc ⟨y,rfl,hks,hb0⟩;obtain ⟨cs,hRd,-⟩:=hks;obtain ⟨_,ak,ck,rfl,-⟩:=hRd;have B0:=Lib.hid hb0;have e0:=(SA.out _ hb0).1;clear hb0;go_wp2_with fail;go_ret;exact ⟨rfl,B0.out⟩
set_option maxHeartbeats 1000000 in
theorem bang_throw  (va:Value) (w:World) (hA:Nds w va (flat .throw)) (hl:sz .throw≤400) :
    Calls Tryz.prog 178 #[va] w fun e w'=>e=.returned (.bool (false))∧Below w.heap.size w w':=by
  have KK:=Rw.kidsR_any va (flat .throw) w hA (by rw [Se.flat_len]; omega);rw [show kids (flat .throw)=[] from rfl] at KK;obtain ⟨bA,oA,cA,rfl,hcA,hltA,hwA,hatA⟩:=form hA;obtain ⟨nA,hnA⟩:∃ n,sz .throw=n+1:=⟨sz .throw - 1,by have:=sz_pos .throw; omega⟩
  rw [hnA] at hcA KK ⊢;have g3A:(1:Int)≤(nA:Int)+1:=by omega
  rw [show kd .throw=3 from rfl] at hwA;have SA:=Lib.hid hwA;have HK:=Lib.hid KK;clear hnA hatA hA hwA KK hl
  go_enter Tryz.func178,Tryz.ntmps178
  go_wp2_with fail;refine HK.out.mono ?_;rintro e wc ⟨y,rfl,hks,hb0⟩;obtain ⟨cs,hRd,-⟩:=hks;obtain ⟨_,ak,ck,rfl,-⟩:=hRd;have B0:=Lib.hid hb0;have e0:=(SA.out _ hb0).1;clear hb0;go_wp2_with fail;go_ret;exact ⟨rfl,B0.out⟩
set_option maxHeartbeats 1000000 in
theorem bang_yield  (va:Value) (w:World) (hA:Nds w va (flat .yield)) (hl:sz .yield≤400) :
    Calls Tryz.prog 178 #[va] w fun e w'=>e=.returned (.bool (false))∧Below w.heap.size w w':=by
  have KK:=Rw.kidsR_any va (flat .yield) w hA (by rw [Se.flat_len]; omega);rw [show kids (flat .yield)=[] from rfl] at KK;obtain ⟨bA,oA,cA,rfl,hcA,hltA,hwA,hatA⟩:=form hA;obtain ⟨nA,hnA⟩:∃ n,sz .yield=n+1:=⟨sz .yield - 1,by have:=sz_pos .yield; omega⟩
  rw [hnA] at hcA KK ⊢;have g3A:(1:Int)≤(nA:Int)+1:=by omega
  rw [show kd .yield=4 from rfl] at hwA;have SA:=Lib.hid hwA;have HK:=Lib.hid KK;clear hnA hatA hA hwA KK hl
  go_enter Tryz.func178,Tryz.ntmps178
  go_wp2_with fail;refine HK.out.mono ?_;rintro e wc ⟨y,rfl,hks,hb0⟩;obtain ⟨cs,hRd,-⟩:=hks;obtain ⟨_,ak,ck,rfl,-⟩:=hRd;have B0:=Lib.hid hb0;have e0:=(SA.out _ hb0).1;clear hb0;go_wp2_with fail;go_ret;exact ⟨rfl,B0.out⟩
set_option maxHeartbeats 1000000 in
theorem bang_over (s:Int) (va:Value) (w:World) (hA:Nds w va (flat (.over s))) (hl:sz (.over s)≤400) :
    Calls Tryz.prog 178 #[va] w fun e w'=>e=.returned (.bool (s == 2))∧Below w.heap.size w w':=by
  have KK:=Rw.kidsR_any va (flat (.over s)) w hA (by rw [Se.flat_len]; omega);rw [show kids (flat (.over s))=[] from rfl] at KK;obtain ⟨bA,oA,cA,rfl,hcA,hltA,hwA,hatA⟩:=form hA;obtain ⟨nA,hnA⟩:∃ n,sz (.over s)=n+1:=⟨sz (.over s) - 1,by have:=sz_pos (.over s); omega⟩
  rw [hnA] at hcA KK ⊢;have g3A:(1:Int)≤(nA:Int)+1:=by omega
  rw [show kd (.over s)=11 from rfl] at hwA;have SA:=Lib.hid hwA;have HK:=Lib.hid KK;clear hnA hatA hA hwA KK hl
  go_enter Tryz.func178,Tryz.ntmps178
  go_wp2_with fail;refine HK.out.mono ?_;rintro e wc ⟨y,rfl,hks,hb0⟩;obtain ⟨cs,hRd,-⟩:=hks;obtain ⟨_,ak,ck,rfl,-⟩:=hRd;have B0:=Lib.hid hb0;have e0:=(SA.out _ hb0).1;have e2:wc.cell? ⟨bA,oA+2,none⟩=some (.int .i64 s):=(SA.out _ hb0).2;clear hb0;go_wp2_with fail;go_ret;exact ⟨rfl,B0.out⟩
set_option maxHeartbeats 1000000 in
theorem bang_fin (s:Int) (c:Tm) (va:Value) (w:World) (hA:Nds w va (flat (.fin s c))) (hl:sz (.fin s c)≤400) :
    Calls Tryz.prog 178 #[va] w fun e w'=>e=.returned (.bool (s == 2))∧Below w.heap.size w w':=by
  have KK:=Rw.kidsR_any va (flat (.fin s c)) w hA (by rw [Se.flat_len]; omega);rw [show kids (flat (.fin s c))=[flat c] from kids_fin s c] at KK;obtain ⟨bA,oA,cA,rfl,hcA,hltA,hwA,hatA⟩:=form hA;obtain ⟨nA,hnA⟩:∃ n,sz (.fin s c)=n+1:=⟨sz (.fin s c) - 1,by have:=sz_pos (.fin s c); omega⟩
  rw [hnA] at hcA KK ⊢;have g3A:(1:Int)≤(nA:Int)+1:=by omega
  rw [show kd (.fin s c)=14 from rfl] at hwA;have SA:=Lib.hid hwA;have HK:=Lib.hid KK;clear hnA hatA hA hwA KK hl
  go_enter Tryz.func178,Tryz.ntmps178
  go_wp2_with fail;refine HK.out.mono ?_;rintro e wc ⟨y,rfl,hks,hb0⟩;obtain ⟨bk,ok,ck,y0,rfl,q0,n0⟩:=one_row hks;have hkl:bk < wc.heap.size:=Ap.cell_lt q0;have KS:Hid (∀ w1,Below wc.heap.size wc w1→w1.cell? ⟨bk,ok,none⟩=some y0):=Lib.hid fun w1 hb=>by rw [hb.cell (p:=⟨bk,ok,none⟩) hkl]; exact q0
  have N0:=Lib.hid (fun w1 (hb:Below wc.heap.size wc w1)=>n0.below hb);have B0:=Lib.hid hb0;have e0:=(SA.out _ hb0).1;have e2:wc.cell? ⟨bA,oA+2,none⟩=some (.int .i64 s):=(SA.out _ hb0).2;clear hks hb0;clear n0;go_wp2_with fail;go_ret;exact ⟨rfl,B0.out⟩
set_option maxHeartbeats 1000000 in
theorem bang_block (a:Tm) (va:Value) (w:World) (hA:Nds w va (flat (.block a))) (hl:sz (.block a)≤400) :
    Calls Tryz.prog 178 #[va] w fun e w'=>e=.returned (.bool (false))∧Below w.heap.size w w':=by
  have KK:=Rw.kidsR_any va (flat (.block a)) w hA (by rw [Se.flat_len]; omega);rw [show kids (flat (.block a))=[flat a] from kids_block a] at KK;obtain ⟨bA,oA,cA,rfl,hcA,hltA,hwA,hatA⟩:=form hA;obtain ⟨nA,hnA⟩:∃ n,sz (.block a)=n+1:=⟨sz (.block a) - 1,by have:=sz_pos (.block a); omega⟩
  rw [hnA] at hcA KK ⊢;have g3A:(1:Int)≤(nA:Int)+1:=by omega
  rw [show kd (.block a)=9 from rfl] at hwA;have SA:=Lib.hid hwA;have HK:=Lib.hid KK;clear hnA hatA hA hwA KK hl
  go_enter Tryz.func178,Tryz.ntmps178
  go_wp2_with fail;refine HK.out.mono ?_;rintro e wc ⟨y,rfl,hks,hb0⟩;obtain ⟨bk,ok,ck,y0,rfl,q0,n0⟩:=one_row hks;have hkl:bk < wc.heap.size:=Ap.cell_lt q0;have KS:Hid (∀ w1,Below wc.heap.size wc w1→w1.cell? ⟨bk,ok,none⟩=some y0):=Lib.hid fun w1 hb=>by rw [hb.cell (p:=⟨bk,ok,none⟩) hkl]; exact q0
  have N0:=Lib.hid (fun w1 (hb:Below wc.heap.size wc w1)=>n0.below hb);have B0:=Lib.hid hb0;have e0:=(SA.out _ hb0).1;clear hks hb0;clear n0;go_wp2_with fail;go_ret;exact ⟨rfl,B0.out⟩
set_option maxHeartbeats 1000000 in
theorem bang_seq (a b:Tm) (va:Value) (w:World) (hA:Nds w va (flat (.seq a b))) (RA:Hid (Wbang a)) (hl:sz (.seq a b)≤400) :
    Calls Tryz.prog 178 #[va] w fun e w'=>e=.returned (.bool (bangT a))∧Below w.heap.size w w':=by
  have KK:=Rw.kidsR_any va (flat (.seq a b)) w hA (by rw [Se.flat_len]; omega);rw [show kids (flat (.seq a b))=[flat a,flat b] from kids_seq a b] at KK;obtain ⟨bA,oA,cA,rfl,hcA,hltA,hwA,hatA⟩:=form hA;obtain ⟨nA,hnA⟩:∃ n,sz (.seq a b)=n+1:=⟨sz (.seq a b) - 1,by have:=sz_pos (.seq a b); omega⟩
  rw [hnA] at hcA KK ⊢;have g3A:(1:Int)≤(nA:Int)+1:=by omega
  rw [show kd (.seq a b)=5 from rfl] at hwA;have SA:=Lib.hid hwA;have HK:=Lib.hid KK;clear hnA hatA hA hwA KK hl
  go_enter Tryz.func178,Tryz.ntmps178
  go_wp2_with fail;refine HK.out.mono ?_;rintro e wc ⟨y,rfl,hks,hb0⟩;obtain ⟨bk,ok,ck,y0,y1,rfl,q0,q1,n0,n1⟩:=two_rows hks;have hkl:bk < wc.heap.size:=Ap.cell_lt q0;have KS:Hid (∀ w1,Below wc.heap.size wc w1→w1.cell? ⟨bk,ok,none⟩=some y0∧w1.cell? ⟨bk,ok+1,none⟩=some y1):=Lib.hid fun w1 hb=>⟨by rw [hb.cell (p:=⟨bk,ok,none⟩) hkl]; exact q0,by rw [hb.cell (p:=⟨bk,ok+1,none⟩) hkl]; exact q1⟩
  have N0:=Lib.hid (fun w1 (hb:Below wc.heap.size wc w1)=>n0.below hb);have N1:=Lib.hid (fun w1 (hb:Below wc.heap.size wc w1)=>n1.below hb);have B0:=Lib.hid hb0;have e0:=(SA.out _ hb0).1;clear hks hb0;clear n0 n1;go_wp2_with fail;refine (RA.out y0 _ (N0.out _ (Below.refl _ _))).mono ?_;rintro e w1 ⟨rfl,hb1⟩;have D1:=Lib.hid (B0.out.trans (hb1.mono B0.out.size));clear hb1;go_wp2_with fail;go_ret;exact ⟨rfl,D1.out⟩
set_option maxHeartbeats 1000000 in
theorem bang_alt (a b:Tm) (va:Value) (w:World) (hA:Nds w va (flat (.alt a b))) (hl:sz (.alt a b)≤400) :
    Calls Tryz.prog 178 #[va] w fun e w'=>e=.returned (.bool (false))∧Below w.heap.size w w':=by
  have KK:=Rw.kidsR_any va (flat (.alt a b)) w hA (by rw [Se.flat_len]; omega);rw [show kids (flat (.alt a b))=[flat a,flat b] from kids_alt a b] at KK;obtain ⟨bA,oA,cA,rfl,hcA,hltA,hwA,hatA⟩:=form hA;obtain ⟨nA,hnA⟩:∃ n,sz (.alt a b)=n+1:=⟨sz (.alt a b) - 1,by have:=sz_pos (.alt a b); omega⟩
  rw [hnA] at hcA KK ⊢;have g3A:(1:Int)≤(nA:Int)+1:=by omega
  rw [show kd (.alt a b)=6 from rfl] at hwA;have SA:=Lib.hid hwA;have HK:=Lib.hid KK;clear hnA hatA hA hwA KK hl
  go_enter Tryz.func178,Tryz.ntmps178
  go_wp2_with fail;refine HK.out.mono ?_;rintro e wc ⟨y,rfl,hks,hb0⟩;obtain ⟨bk,ok,ck,y0,y1,rfl,q0,q1,n0,n1⟩:=two_rows hks;have hkl:bk < wc.heap.size:=Ap.cell_lt q0;have KS:Hid (∀ w1,Below wc.heap.size wc w1→w1.cell? ⟨bk,ok,none⟩=some y0∧w1.cell? ⟨bk,ok+1,none⟩=some y1):=Lib.hid fun w1 hb=>⟨by rw [hb.cell (p:=⟨bk,ok,none⟩) hkl]; exact q0,by rw [hb.cell (p:=⟨bk,ok+1,none⟩) hkl]; exact q1⟩
  have N0:=Lib.hid (fun w1 (hb:Below wc.heap.size wc w1)=>n0.below hb);have N1:=Lib.hid (fun w1 (hb:Below wc.heap.size wc w1)=>n1.below hb);have B0:=Lib.hid hb0;have e0:=(SA.out _ hb0).1;clear hks hb0;clear n0 n1;go_wp2_with fail;go_ret;exact ⟨rfl,B0.out⟩
set_option maxHeartbeats 1000000 in
theorem bang_hand (a b:Tm) (va:Value) (w:World) (hA:Nds w va (flat (.hand a b))) (hl:sz (.hand a b)≤400) :
    Calls Tryz.prog 178 #[va] w fun e w'=>e=.returned (.bool (false))∧Below w.heap.size w w':=by
  have KK:=Rw.kidsR_any va (flat (.hand a b)) w hA (by rw [Se.flat_len]; omega);rw [show kids (flat (.hand a b))=[flat a,flat b] from kids_hand a b] at KK;obtain ⟨bA,oA,cA,rfl,hcA,hltA,hwA,hatA⟩:=form hA;obtain ⟨nA,hnA⟩:∃ n,sz (.hand a b)=n+1:=⟨sz (.hand a b) - 1,by have:=sz_pos (.hand a b); omega⟩
  rw [hnA] at hcA KK ⊢;have g3A:(1:Int)≤(nA:Int)+1:=by omega
  rw [show kd (.hand a b)=8 from rfl] at hwA;have SA:=Lib.hid hwA;have HK:=Lib.hid KK;clear hnA hatA hA hwA KK hl
  go_enter Tryz.func178,Tryz.ntmps178
  go_wp2_with fail;refine HK.out.mono ?_;rintro e wc ⟨y,rfl,hks,hb0⟩;obtain ⟨bk,ok,ck,y0,y1,rfl,q0,q1,n0,n1⟩:=two_rows hks;have hkl:bk < wc.heap.size:=Ap.cell_lt q0;have KS:Hid (∀ w1,Below wc.heap.size wc w1→w1.cell? ⟨bk,ok,none⟩=some y0∧w1.cell? ⟨bk,ok+1,none⟩=some y1):=Lib.hid fun w1 hb=>⟨by rw [hb.cell (p:=⟨bk,ok,none⟩) hkl]; exact q0,by rw [hb.cell (p:=⟨bk,ok+1,none⟩) hkl]; exact q1⟩
  have N0:=Lib.hid (fun w1 (hb:Below wc.heap.size wc w1)=>n0.below hb);have N1:=Lib.hid (fun w1 (hb:Below wc.heap.size wc w1)=>n1.below hb);have B0:=Lib.hid hb0;have e0:=(SA.out _ hb0).1;clear hks hb0;clear n0 n1;go_wp2_with fail;go_ret;exact ⟨rfl,B0.out⟩
set_option maxHeartbeats 1000000 in
theorem bang_pair (a b:Tm) (va:Value) (w:World) (hA:Nds w va (flat (.pair a b))) (hl:sz (.pair a b)≤400) :
    Calls Tryz.prog 178 #[va] w fun e w'=>e=.returned (.bool (false))∧Below w.heap.size w w':=by
  have KK:=Rw.kidsR_any va (flat (.pair a b)) w hA (by rw [Se.flat_len]; omega);rw [show kids (flat (.pair a b))=[flat a,flat b] from kids_pair a b] at KK;obtain ⟨bA,oA,cA,rfl,hcA,hltA,hwA,hatA⟩:=form hA;obtain ⟨nA,hnA⟩:∃ n,sz (.pair a b)=n+1:=⟨sz (.pair a b) - 1,by have:=sz_pos (.pair a b); omega⟩
  rw [hnA] at hcA KK ⊢;have g3A:(1:Int)≤(nA:Int)+1:=by omega
  rw [show kd (.pair a b)=10 from rfl] at hwA;have SA:=Lib.hid hwA;have HK:=Lib.hid KK;clear hnA hatA hA hwA KK hl
  go_enter Tryz.func178,Tryz.ntmps178
  go_wp2_with fail;refine HK.out.mono ?_;rintro e wc ⟨y,rfl,hks,hb0⟩;obtain ⟨bk,ok,ck,y0,y1,rfl,q0,q1,n0,n1⟩:=two_rows hks;have hkl:bk < wc.heap.size:=Ap.cell_lt q0;have KS:Hid (∀ w1,Below wc.heap.size wc w1→w1.cell? ⟨bk,ok,none⟩=some y0∧w1.cell? ⟨bk,ok+1,none⟩=some y1):=Lib.hid fun w1 hb=>⟨by rw [hb.cell (p:=⟨bk,ok,none⟩) hkl]; exact q0,by rw [hb.cell (p:=⟨bk,ok+1,none⟩) hkl]; exact q1⟩
  have N0:=Lib.hid (fun w1 (hb:Below wc.heap.size wc w1)=>n0.below hb);have N1:=Lib.hid (fun w1 (hb:Below wc.heap.size wc w1)=>n1.below hb);have B0:=Lib.hid hb0;have e0:=(SA.out _ hb0).1;clear hks hb0;clear n0 n1;go_wp2_with fail;go_ret;exact ⟨rfl,B0.out⟩
set_option maxHeartbeats 1000000 in
theorem bang_going (a b:Tm) (va:Value) (w:World) (hA:Nds w va (flat (.going a b))) (RA:Hid (Wbang a)) (hl:sz (.going a b)≤400) :
    Calls Tryz.prog 178 #[va] w fun e w'=>e=.returned (.bool (bangT a))∧Below w.heap.size w w':=by
  have KK:=Rw.kidsR_any va (flat (.going a b)) w hA (by rw [Se.flat_len]; omega);rw [show kids (flat (.going a b))=[flat a,flat b] from kids_going a b] at KK;obtain ⟨bA,oA,cA,rfl,hcA,hltA,hwA,hatA⟩:=form hA;obtain ⟨nA,hnA⟩:∃ n,sz (.going a b)=n+1:=⟨sz (.going a b) - 1,by have:=sz_pos (.going a b); omega⟩
  rw [hnA] at hcA KK ⊢;have g3A:(1:Int)≤(nA:Int)+1:=by omega
  rw [show kd (.going a b)=12 from rfl] at hwA;have SA:=Lib.hid hwA;have HK:=Lib.hid KK;clear hnA hatA hA hwA KK hl
  go_enter Tryz.func178,Tryz.ntmps178
  go_wp2_with fail;refine HK.out.mono ?_;rintro e wc ⟨y,rfl,hks,hb0⟩;obtain ⟨bk,ok,ck,y0,y1,rfl,q0,q1,n0,n1⟩:=two_rows hks;have hkl:bk < wc.heap.size:=Ap.cell_lt q0;have KS:Hid (∀ w1,Below wc.heap.size wc w1→w1.cell? ⟨bk,ok,none⟩=some y0∧w1.cell? ⟨bk,ok+1,none⟩=some y1):=Lib.hid fun w1 hb=>⟨by rw [hb.cell (p:=⟨bk,ok,none⟩) hkl]; exact q0,by rw [hb.cell (p:=⟨bk,ok+1,none⟩) hkl]; exact q1⟩
  have N0:=Lib.hid (fun w1 (hb:Below wc.heap.size wc w1)=>n0.below hb);have N1:=Lib.hid (fun w1 (hb:Below wc.heap.size wc w1)=>n1.below hb);have B0:=Lib.hid hb0;have e0:=(SA.out _ hb0).1;clear hks hb0;clear n0 n1;go_wp2_with fail;refine (RA.out y0 _ (N0.out _ (Below.refl _ _))).mono ?_;rintro e w1 ⟨rfl,hb1⟩;have D1:=Lib.hid (B0.out.trans (hb1.mono B0.out.size));clear hb1;go_wp2_with fail;go_ret;exact ⟨rfl,D1.out⟩
set_option maxHeartbeats 1000000 in
theorem bang_stack (a b:Tm) (va:Value) (w:World) (hA:Nds w va (flat (.stack a b))) (RA:Hid (Wbang a)) (hl:sz (.stack a b)≤400) :
    Calls Tryz.prog 178 #[va] w fun e w'=>e=.returned (.bool (bangT a))∧Below w.heap.size w w':=by
  have KK:=Rw.kidsR_any va (flat (.stack a b)) w hA (by rw [Se.flat_len]; omega);rw [show kids (flat (.stack a b))=[flat a,flat b] from kids_stack a b] at KK;obtain ⟨bA,oA,cA,rfl,hcA,hltA,hwA,hatA⟩:=form hA;obtain ⟨nA,hnA⟩:∃ n,sz (.stack a b)=n+1:=⟨sz (.stack a b) - 1,by have:=sz_pos (.stack a b); omega⟩
  rw [hnA] at hcA KK ⊢;have g3A:(1:Int)≤(nA:Int)+1:=by omega
  rw [show kd (.stack a b)=13 from rfl] at hwA;have SA:=Lib.hid hwA;have HK:=Lib.hid KK;clear hnA hatA hA hwA KK hl
  go_enter Tryz.func178,Tryz.ntmps178
  go_wp2_with fail;refine HK.out.mono ?_;rintro e wc ⟨y,rfl,hks,hb0⟩;obtain ⟨bk,ok,ck,y0,y1,rfl,q0,q1,n0,n1⟩:=two_rows hks;have hkl:bk < wc.heap.size:=Ap.cell_lt q0;have KS:Hid (∀ w1,Below wc.heap.size wc w1→w1.cell? ⟨bk,ok,none⟩=some y0∧w1.cell? ⟨bk,ok+1,none⟩=some y1):=Lib.hid fun w1 hb=>⟨by rw [hb.cell (p:=⟨bk,ok,none⟩) hkl]; exact q0,by rw [hb.cell (p:=⟨bk,ok+1,none⟩) hkl]; exact q1⟩
  have N0:=Lib.hid (fun w1 (hb:Below wc.heap.size wc w1)=>n0.below hb);have N1:=Lib.hid (fun w1 (hb:Below wc.heap.size wc w1)=>n1.below hb);have B0:=Lib.hid hb0;have e0:=(SA.out _ hb0).1;clear hks hb0;clear n0 n1;go_wp2_with fail;refine (RA.out y0 _ (N0.out _ (Below.refl _ _))).mono ?_;rintro e w1 ⟨rfl,hb1⟩;have D1:=Lib.hid (B0.out.trans (hb1.mono B0.out.size));clear hb1;go_wp2_with fail;go_ret;exact ⟨rfl,D1.out⟩
set_option maxHeartbeats 1000000 in
theorem bang_par_t (a b:Tm) (va:Value) (w:World) (hA:Nds w va (flat (.par a b))) (RA:Hid (∀ (v:Value) (w:World),Nds w v (flat a)→Calls Tryz.prog 178 #[v] w fun e w'=>e=.returned (.bool true)∧Below w.heap.size w w')) (hl:sz (.par a b)≤400) :
    Calls Tryz.prog 178 #[va] w fun e w'=>e=.returned (.bool (true))∧Below w.heap.size w w':=by
  have KK:=Rw.kidsR_any va (flat (.par a b)) w hA (by rw [Se.flat_len]; omega);rw [show kids (flat (.par a b))=[flat a,flat b] from kids_par a b] at KK;obtain ⟨bA,oA,cA,rfl,hcA,hltA,hwA,hatA⟩:=form hA;obtain ⟨nA,hnA⟩:∃ n,sz (.par a b)=n+1:=⟨sz (.par a b) - 1,by have:=sz_pos (.par a b); omega⟩
  rw [hnA] at hcA KK ⊢;have g3A:(1:Int)≤(nA:Int)+1:=by omega
  rw [show kd (.par a b)=7 from rfl] at hwA;have SA:=Lib.hid hwA;have HK:=Lib.hid KK;clear hnA hatA hA hwA KK hl
  go_enter Tryz.func178,Tryz.ntmps178
  go_wp2_with fail;refine HK.out.mono ?_;rintro e wc ⟨y,rfl,hks,hb0⟩;obtain ⟨bk,ok,ck,y0,y1,rfl,q0,q1,n0,n1⟩:=two_rows hks;have hkl:bk < wc.heap.size:=Ap.cell_lt q0;have KS:Hid (∀ w1,Below wc.heap.size wc w1→w1.cell? ⟨bk,ok,none⟩=some y0∧w1.cell? ⟨bk,ok+1,none⟩=some y1):=Lib.hid fun w1 hb=>⟨by rw [hb.cell (p:=⟨bk,ok,none⟩) hkl]; exact q0,by rw [hb.cell (p:=⟨bk,ok+1,none⟩) hkl]; exact q1⟩
  have N0:=Lib.hid (fun w1 (hb:Below wc.heap.size wc w1)=>n0.below hb);have N1:=Lib.hid (fun w1 (hb:Below wc.heap.size wc w1)=>n1.below hb);have B0:=Lib.hid hb0;have e0:=(SA.out _ hb0).1;clear hks hb0;clear n0 n1;go_wp2_with fail;refine (RA.out y0 _ (N0.out _ (Below.refl _ _))).mono ?_;rintro e w1 ⟨rfl,hb1⟩;have D1:=Lib.hid (B0.out.trans (hb1.mono B0.out.size));clear hb1;go_wp2_with fail;go_ret;exact ⟨rfl,D1.out⟩
set_option maxHeartbeats 1000000 in
theorem bang_par_f (a b:Tm) (va:Value) (w:World) (hA:Nds w va (flat (.par a b))) (RA:Hid (∀ (v:Value) (w:World),Nds w v (flat a)→Calls Tryz.prog 178 #[v] w fun e w'=>e=.returned (.bool false)∧Below w.heap.size w w')) (RB:Hid (Wbang b)) (hl:sz (.par a b)≤400) :
    Calls Tryz.prog 178 #[va] w fun e w'=>e=.returned (.bool (bangT b))∧Below w.heap.size w w':=by
  have KK:=Rw.kidsR_any va (flat (.par a b)) w hA (by rw [Se.flat_len]; omega);rw [show kids (flat (.par a b))=[flat a,flat b] from kids_par a b] at KK;obtain ⟨bA,oA,cA,rfl,hcA,hltA,hwA,hatA⟩:=form hA;obtain ⟨nA,hnA⟩:∃ n,sz (.par a b)=n+1:=⟨sz (.par a b) - 1,by have:=sz_pos (.par a b); omega⟩
  rw [hnA] at hcA KK ⊢;have g3A:(1:Int)≤(nA:Int)+1:=by omega
  rw [show kd (.par a b)=7 from rfl] at hwA;have SA:=Lib.hid hwA;have HK:=Lib.hid KK;clear hnA hatA hA hwA KK hl
  go_enter Tryz.func178,Tryz.ntmps178
  go_wp2_with fail;refine HK.out.mono ?_;rintro e wc ⟨y,rfl,hks,hb0⟩;obtain ⟨bk,ok,ck,y0,y1,rfl,q0,q1,n0,n1⟩:=two_rows hks;have hkl:bk < wc.heap.size:=Ap.cell_lt q0;have KS:Hid (∀ w1,Below wc.heap.size wc w1→w1.cell? ⟨bk,ok,none⟩=some y0∧w1.cell? ⟨bk,ok+1,none⟩=some y1):=Lib.hid fun w1 hb=>⟨by rw [hb.cell (p:=⟨bk,ok,none⟩) hkl]; exact q0,by rw [hb.cell (p:=⟨bk,ok+1,none⟩) hkl]; exact q1⟩
  have N0:=Lib.hid (fun w1 (hb:Below wc.heap.size wc w1)=>n0.below hb);have N1:=Lib.hid (fun w1 (hb:Below wc.heap.size wc w1)=>n1.below hb);have B0:=Lib.hid hb0;have e0:=(SA.out _ hb0).1;clear hks hb0;clear n0 n1;go_wp2_with fail;refine (RA.out y0 _ (N0.out _ (Below.refl _ _))).mono ?_;rintro e w1 ⟨rfl,hb1⟩;have D1:=Lib.hid (B0.out.trans (hb1.mono B0.out.size));have NB:=Lib.hid (N1.out w1 hb1);obtain ⟨p0,p1⟩:=KS.out w1 hb1;clear hb1;go_wp2_with fail;refine (RB.out y1 _ NB.out).mono ?_;rintro e w2 ⟨rfl,hb2⟩;have D2:=Lib.hid (D1.out.trans (hb2.mono D1.out.size));clear hb2;go_wp2_with fail;go_ret;exact ⟨rfl,D2.out⟩
theorem bang_par (a b:Tm) (va:Value) (w:World) (hA:Nds w va (flat (.par a b))) (RA:Wbang a) (RB:Wbang b) (hl:sz (.par a b)≤400) :
    Calls Tryz.prog 178 #[va] w fun e w'=>e=.returned (.bool (bangT a || bangT b))∧Below w.heap.size w w':=by
  cases hx:bangT a with
  | true=>exact bang_par_t a b va w hA (Lib.hid fun v w hv=>by have h:=RA v w hv; rw [hx] at h; exact h) hl
  | false=>exact bang_par_f a b va w hA (Lib.hid fun v w hv=>by have h:=RA v w hv; rw [hx] at h; exact h) (Lib.hid RB) hl
theorem bangR_any:∀ t:Tm,sz t≤400→Wbang t:=by
  intro t
  induction t with
  | act s=>exact fun hl v w hv=>bang_act s v w hv hl
  | skip=>exact fun hl v w hv=>bang_skip v w hv hl
  | throw=>exact fun hl v w hv=>bang_throw v w hv hl
  | yield=>exact fun hl v w hv=>bang_yield v w hv hl
  | over s=>exact fun hl v w hv=>bang_over s v w hv hl
  | fin s c _=>exact fun hl v w hv=>bang_fin s c v w hv hl
  | block a _=>exact fun hl v w hv=>bang_block a v w hv hl
  | alt a b _ _=>exact fun hl v w hv=>bang_alt a b v w hv hl
  | hand a b _ _=>exact fun hl v w hv=>bang_hand a b v w hv hl
  | pair a b _ _=>exact fun hl v w hv=>bang_pair a b v w hv hl
  | seq a b ia _=>exact fun hl v w hv=>bang_seq a b v w hv (Lib.hid (ia (by simp only [sz] at hl; omega))) hl
  | going a b ia _=>exact fun hl v w hv=>bang_going a b v w hv (Lib.hid (ia (by simp only [sz] at hl; omega))) hl
  | stack a b ia _=>exact fun hl v w hv=>bang_stack a b v w hv (Lib.hid (ia (by simp only [sz] at hl; omega))) hl
  | par a b ia ib=>exact fun hl v w hv=>bang_par a b v w hv (ia (by simp only [sz] at hl; omega)) (ib (by simp only [sz] at hl; omega)) hl
set_option maxHeartbeats 1000000 in
theorem doomR_any (v:Value) (l:List Nd) (w:World) (hv:Nds w v l) (hl:l.length≤1000) (hm:Nms l) :
    Calls Tryz.prog 127 #[v] w fun e w'=>e=.returned (.bool (dm l))∧Below w.heap.size w w':=by
  have HS:=Lib.hid (setR_any v l w hv hl hm)
  cases hs:setB l with
  | false=>
    rw [dm_no hs];rw [hs] at HS;obtain ⟨_,a,c,rfl,-⟩:=id hv;clear hv hm hs
    go_enter Tryz.func127,Tryz.ntmps127
    go_wp2_with fail;refine HS.out.mono ?_;rintro e w1 ⟨rfl,hb1⟩;have D1:=Lib.hid hb1;clear hb1;go_wp2_with fail;go_ret;exact ⟨rfl,D1.out⟩
  | true=>
    obtain ⟨t,rfl,hg,hn⟩:=set_iff.1 hs;rw [dm_go hg hn];rw [hs] at HS;have HB:=Lib.hid (fun w1 (hb:Below w.heap.size w w1)=>bangR_any t (by have:=hg.2.1; omega) v w1 (hv.below hb));obtain ⟨_,a,c,rfl,-⟩:=id hv;generalize bangT t=z at HB ⊢;clear hv hm hs hg hn
    go_enter Tryz.func127,Tryz.ntmps127
    go_wp2_with fail;refine HS.out.mono ?_;rintro e w1 ⟨rfl,hb1⟩;have D1:=Lib.hid hb1;clear hb1;go_wp2_with fail;refine (HB.out _ D1.out).mono ?_;rintro e w2 ⟨rfl,hb2⟩;have D2:=Lib.hid (D1.out.trans (hb2.mono D1.out.size));clear hb2;go_wp2_with fail;go_ret;exact ⟨rfl,D2.out⟩
end Go.Proofs.YtaapnkoooofalaaGreat.Do

namespace Go.Proofs.YtaapnkoooofalaaGreat.Sp
open Go Rw So Se Tr Mn Do
def far (k:Nat) (m:Mo):Mo:=⟨m.p+k,m.h,m.l,m.r⟩
theorem mv_over {t:Tm} {d:Bool} {i:Nat} {m:Mo} (h:m∈mvs d t i):isOver t=false∧isFin t=false:=by
  cases t <;> first | exact ⟨rfl,rfl⟩ | exact absurd h (by simp [mvs])
theorem par_stay_r {x b:Tm} (hb:isOver b=false∧isFin b=false):sPar x b=.par x b:=by
  cases x <;> try rfl
  · cases b <;> first | rfl | cases hb.1
  · cases b <;> first | rfl | cases hb.2
theorem par_stay_l {a y:Tm} (ha:isOver a=false∧isFin a=false):sPar a y=.par a y:=by
  cases a <;> first | rfl | exact Bool.noConfusion ha.1 | exact Bool.noConfusion ha.2
theorem refused {t:Tm} (hn:Nf t) {m:Mo} (hm:m∈mvs true t 0) (h1:m.h=1):∃ s,sub t 0 m.p=.act s∧m.l=some s∧m.p∈wt t 0∧
    Nf (plug t 0 m.p (.alt (.act s) .throw))∧
    (⟨m.p,3,none,plug t 0 m.p .throw⟩:Mo)∈mvs true (plug t 0 m.p (.alt (.act s) .throw)) 0∧
    (⟨m.p,2,none,t⟩:Mo)∈mvs true (plug t 0 m.p (.alt (.act s) .throw)) 0:=by
  obtain ⟨hw,u,hu,hr⟩:=mv_plug t true 0 m hm;obtain ⟨p,h,l,r⟩:=m;simp only at *;subst h1
  have:∀ {x:Tm} {k:Int},Made x k l u→k=1→∃ s,x=.act s∧l=some s:=by
    intro x k hx hk
    cases hx with
    | act s=>exact ⟨s,rfl,rfl⟩
    | _=>exact absurd hk (by decide)
  obtain ⟨s,e1,e2⟩:=this hu rfl;obtain ⟨f,hf⟩:=mvs_plug t 0 p hw true;refine ⟨s,e1,e2,hw,plug_nf t 0 p hw hn _ rfl,?_,?_⟩
  · exact hf (.alt (.act s) .throw) rfl ⟨p,3,none,.throw⟩ (by simp [mvs])
  · have:=hf (.alt (.act s) .throw) rfl ⟨p,2,none,.act s⟩ (by simp [mvs]);rw [← e1,plug_sub t 0 p hw] at this;rw [← e1];exact this
end Go.Proofs.YtaapnkoooofalaaGreat.Sp

namespace Go.Proofs.YtaapnkoooofalaaGreat.Do
open Go Go.RowKit Rw So Se
set_option maxRecDepth 20000
set_option maxHeartbeats 1000000 in
theorem waitsP_any (k:Int) (w:World):Calls Tryz.prog 66 #[.int .i64 k] w fun e w'=>e=.returned (.bool (wk k))∧w=w':=by
  rcases cases15 k with rfl | rfl | rfl | rfl | rfl | rfl | rfl | rfl | rfl | rfl | rfl | rfl | rfl | rfl | h
  case inr.inr.inr.inr.inr.inr.inr.inr.inr.inr.inr.inr.inr.inr=>
    obtain ⟨h1,h2,h3,h4,h5,h6,h7,h8,h9,h10,h11,h12,h13,h14⟩:=h;have g1:(k == 1)=false:=beq_eq_false_iff_ne.2 h1;have g6:(k == 6)=false:=beq_eq_false_iff_ne.2 h6;have g4:(k == 4)=false:=beq_eq_false_iff_ne.2 h4;have g10:(k == 10)=false:=beq_eq_false_iff_ne.2 h10;have hr:Hid (wk k=false):=Lib.hid (by unfold wk; rw [g1,g6,g4,g10]; rfl);clear h1 h2 h3 h4 h5 h6 h7 h8 h9 h10 h11 h12 h13 h14
    go_enter Tryz.func66,Tryz.ntmps66
    go_wp2_with fail;go_ret;exact ⟨ret_bool hr.out.symm,rfl⟩
  all_goals
    go_enter Tryz.func66,Tryz.ntmps66
    go_wp2_with fail;go_ret;exact ⟨rfl,rfl⟩
theorem nds_drop {w:World} {b off c:Nat} {l:List Nd} (h:At w b off l) (hc:l.length≤c) (d:Nat) (hd:d≤l.length):Nds w (.slice (some ⟨b,off+d*3,none⟩) (l.length - d) (c - d)) (l.drop d):=by
  have:=part_nds h d (l.length - d) (c - d) (by omega) (by omega)
  rwa [List.take_of_length_le (by rw [List.length_drop]; exact Nat.le_refl _)] at this
set_option maxHeartbeats 1000000 in
theorem second_any (b off c:Nat) (l:List Nd) (i:Nat) (w:World) (hat:At w b off l) (hc:l.length≤c) (hl:l.length≤1000) (hi:i+1 < l.length) :
    Calls Tryz.prog 99 #[.slice (some ⟨b,off,none⟩) l.length c,.int .i64 (i:Int)] w fun e w'=>e=.returned (.int .i64 (i+1+size (l.drop (i+1)):Nat))∧Below w.heap.size w w':=by
  have HN:=Lib.hid (nds_drop hat hc (i+1) (by omega));have HL:Hid ((l.drop (i+1)).length≤1000000):=Lib.hid (by rw [List.length_drop]; omega);have hs:size (l.drop (i+1))≤1000:=Nat.le_trans (size_le _) (by rw [List.length_drop]; omega);obtain ⟨z,hz⟩:∃ z,size (l.drop (i+1))=z:=⟨_,rfl⟩
  rw [hz] at hs ⊢;have HZ:=Lib.hid hz;clear hat hz
  go_enter Tryz.func99,Tryz.ntmps99
  go_wp2_with fail;refine (Rx.sizeP_any _ (l.drop (i+1)) _ HN.out HL.out).mono ?_;rw [HZ.out];rintro e w' ⟨rfl,hb⟩;have HB:=Lib.hid hb;clear hb;go_wp2_with fail;go_ret;exact ⟨by congr 2,HB.out⟩
def Chain (fn:Nat) (caps:Array Value) (Q:World→Prop):List Nat→World→Prop
  | [],w=>Q w
  | k::ks,w=>Calls Tryz.prog fn (#[.int .i64 (k:Int)]++caps) w fun e w1=>e=.returned (.tuple #[])∧Chain fn caps Q ks w1
theorem kdA_get {l:List Nd} {i:Nat} (hi:i < l.length):kdA l i=kdK l i l[i].k:=kdA_at (List.getElem?_eq_getElem hi)
set_option maxHeartbeats 2000000 in
theorem kids_any (fn:Nat) (caps:Array Value) (eg:∀ args w,(callFunc fn args).run Tryz.prog w=.ok (.enter fn args) w) (Q:World→Prop) (b off c:Nat) (l:List Nd) (i:Nat) (w:World) (hat:At w b off l) (hc:l.length≤c) (hl:l.length≤1000)
    (hi:i < l.length) (h7:l[i].k=7→i+1 < l.length) (H:∀ w0,Below w.heap.size w w0→Chain fn caps Q (kdA l i) w0) :
    Calls Tryz.prog 67 #[.slice (some ⟨b,off,none⟩) l.length c,.int .i64 (i:Int),.func (.func fn) #[] caps] w fun e w'=>e=.returned (.tuple #[])∧Q w':=by
  rw [kdA_get hi] at H;have e0:=(hat i hi).1;have hi2:(i:Int) < l.length:=by omega
  have c1:((i+1:Nat):Int)=(i:Int)+1:=by omega
  obtain ⟨k,hk⟩:∃ k,l[i].k=k:=⟨_,rfl⟩
  rw [hk] at e0 H h7;have HAT:=Lib.hid hat;have HH:=Lib.hid H;clear hat H hk;have grp:∀ k:Int,(k=5∨k=8∨k=9∨k=12∨k=13)→kdK l i k=[i+1]:=fun k h=>by unfold kdK; rw [if_neg (by omega),if_pos h]
  have non:∀ k:Int,k≠7→¬ (k=5∨k=8∨k=9∨k=12∨k=13)→kdK l i k=[]:=fun k h1 h2=>by unfold kdK; rw [if_neg h1,if_neg h2]
  have GRP:=Lib.hid grp;have NON:=Lib.hid non;clear grp non
  by_cases k7:k=7
  · subst k7;have h8:=h7 rfl;have HS:=Lib.hid (second_any b off c l i w HAT.out hc hl h8)
    have C:Hid (∀ w0,Below w.heap.size w w0→Calls Tryz.prog fn (#[.int .i64 ((i+1+size (l.drop (i+1)):Nat):Int)]++caps) w0 fun e w1=>e=.returned (.tuple #[])∧Calls Tryz.prog fn (#[.int .i64 ((i:Int)+1)]++caps) w1 fun e w2=>e=.returned (.tuple #[])∧Q w2):=Lib.hid fun w0 hb=>by
      have:=HH.out w0 hb;rw [show kdK l i 7=[i+1+size (l.drop (i+1)),i+1] from rfl] at this;rw [← c1];exact this
    generalize ((i+1+size (l.drop (i+1)):Nat):Int)=z at HS C;clear HH GRP NON h7 c1
    go_enter Tryz.func67,Tryz.ntmps67
    go_wp2_with fail;refine HS.out.mono ?_;rintro e w1 ⟨rfl,hb1⟩;have D1:=Lib.hid hb1;clear hb1;go_wp2_with fail;refine (C.out _ D1.out).mono ?_;rintro e w2 ⟨rfl,h2⟩;have C2:=Lib.hid h2;clear h2;go_wp2_with fail;refine C2.out.mono ?_;rintro e w3 ⟨rfl,h3⟩;have C3:=Lib.hid h3;clear h3;go_wp2_with fail;go_end0;exact ⟨rfl,C3.out⟩
  · by_cases kg:k=5∨k=8∨k=9∨k=12∨k=13
    · have C:Hid (Calls Tryz.prog fn (#[.int .i64 ((i:Int)+1)]++caps) w fun e w2=>e=.returned (.tuple #[])∧Q w2):=Lib.hid (by
        have:=HH.out w (Below.refl _ _);rw [GRP.out _ kg] at this;rw [← c1];exact this)
      clear HH GRP NON h7 c1
      rcases kg with rfl | rfl | rfl | rfl | rfl
      all_goals
        clear k7
        go_enter Tryz.func67,Tryz.ntmps67
        go_wp2_with fail;refine C.out.mono ?_;rintro e w3 ⟨rfl,h3⟩;have C3:=Lib.hid h3;clear h3;go_wp2_with fail;go_end0;exact ⟨rfl,C3.out⟩
    · have C:Hid (Q w):=Lib.hid (by
        have:=HH.out w (Below.refl _ _);rw [NON.out _ k7 kg] at this;exact this)
      have g5:(k == 5)=false:=beq_eq_false_iff_ne.2 (by omega);have g8:(k == 8)=false:=beq_eq_false_iff_ne.2 (by omega);have g9:(k == 9)=false:=beq_eq_false_iff_ne.2 (by omega);have g12:(k == 12)=false:=beq_eq_false_iff_ne.2 (by omega);have g13:(k == 13)=false:=beq_eq_false_iff_ne.2 (by omega);have g7:(k == 7)=false:=beq_eq_false_iff_ne.2 k7;clear HH GRP NON h7 c1 k7 kg
      go_enter Tryz.func67,Tryz.ntmps67
      go_wp2_with fail;go_end0;exact ⟨rfl,C.out⟩
end Go.Proofs.YtaapnkoooofalaaGreat.Do
