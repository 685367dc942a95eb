/- The document's waits, Active: the walks. -/
import Derived.Test.YtaapnkoooofalaaGreatQ27
import Derived.Deep.QuietTactic

namespace Go.Proofs.YtaapnkoooofalaaGreat.Do
open Go Go.RowKit Rw So Se
set_option maxRecDepth 20000
def wtI (t:Tm) (i:Nat):List Int:=(wt t i).map Int.ofNat
theorem wtI_len (t:Tm) (i:Nat):(wtI t i).length≤sz t:=by unfold wtI; rw [List.length_map]; exact wt_few t i
theorem wtI_par (a b:Tm) (i:Nat):wtI (.par a b) i=wtI a (i+1)++wtI b (i+1+sz a):=by unfold wtI; rw [show wt (.par a b) i=wt a (i+1)++wt b (i+1+sz a) from rfl,List.map_append]
abbrev Wwt (t:Tm):Prop:=∀ (v:Value) (w:World) (i:Nat) (x:Int),x=(i:Int)→i+sz t≤1000→Nds w v (flat t)→Calls Tryz.prog 124 #[v,.int .i64 x] w fun e w'=>∃ y,e=.returned y∧Ints w' y (wtI t i)∧Below w.heap.size w w'
set_option maxHeartbeats 2000000 in
theorem wt_act (s:ByteArray) (va:Value) (w:World) (i:Nat) (x:Int) (hx:x=(i:Int)) (hA:Nds w va (flat (.act s))) (_hl:i+sz (.act s)≤1000) :
    Calls Tryz.prog 124 #[va,.int .i64 x] w fun e w'=>∃ y,e=.returned y∧Ints w' y (wtI (.act s) i)∧Below w.heap.size w w':=by
  obtain ⟨bA,oA,cA,rfl,hcA,hltA,hwA,hatA⟩:=form hA;obtain ⟨nA,hnA⟩:∃ n,sz (.act s)=n+1:=⟨sz (.act s) - 1,by have:=sz_pos (.act s); omega⟩
  rw [hnA] at hcA ⊢;have g3A:(1:Int)≤(nA:Int)+1:=by omega
  rw [show kd (.act s)=1 from rfl] at hwA;obtain ⟨e0,-⟩:=hwA w (Below.refl _ _);have HX:=Lib.hid hx;clear hnA hatA hA hwA _hl hx
  go_enter Tryz.func124,Tryz.ntmps124
  go_wp2_with fail;go_ret;exact ⟨_,rfl,by rw [show wtI (.act s) i=[x] from by rw [HX.out]; rfl]; exact int_new w x _,below1 w _⟩
set_option maxHeartbeats 2000000 in
theorem wt_skip  (va:Value) (w:World) (i:Nat) (x:Int) (hx:x=(i:Int)) (hA:Nds w va (flat .skip)) (hl:i+sz .skip≤1000) :
    Calls Tryz.prog 124 #[va,.int .i64 x] w fun e w'=>∃ y,e=.returned y∧Ints w' y ([])∧Below w.heap.size w w':=by
  have KK:=Rw.kidsR_any va (flat .skip) w hA (by rw [Se.flat_len]; omega);rw [show kids (flat .skip)=[] from rfl] at KK;obtain ⟨bA,oA,cA,rfl,hcA,hltA,hwA,hatA⟩:=form hA;obtain ⟨nA,hnA⟩:∃ n,sz .skip=n+1:=⟨sz .skip - 1,by have:=sz_pos .skip; omega⟩
  rw [hnA] at hcA KK ⊢;have g3A:(1:Int)≤(nA:Int)+1:=by omega
  rw [show kd .skip=2 from rfl] at hwA;have SA:=Lib.hid hwA;have HK:=Lib.hid KK;have HX:=Lib.hid hx;have HL:Hid (i+sz .skip≤1000):=Lib.hid hl;have x0:0≤x∧x≤1000:=by have:=sz_pos .skip; omega
  obtain ⟨e00,-⟩:=hwA w (Below.refl _ _);obtain ⟨x0,x1⟩:=x0;clear hx;clear hnA hatA hA hwA KK hl
  go_enter Tryz.func124,Tryz.ntmps124
  go_wp2_with fail;refine HK.out.mono ?_;rintro e wc ⟨y,rfl,hks,hb0⟩;obtain ⟨cs,hRd,-⟩:=hks;obtain ⟨_,ak,ck,rfl,-⟩:=hRd;have B0:=Lib.hid hb0;clear hb0;go_wp2_with fail;refine Go.wp_loop_rounds 1 ?_;have F0:=Lib.hid (Below.refl wc.heap.size wc);rw [rounds_succ];go_wp2_with fail;go_ret;exact ⟨_,rfl,ints_nil _,B0.out.trans (F0.out.mono B0.out.size)⟩
set_option maxHeartbeats 2000000 in
theorem wt_throw  (va:Value) (w:World) (i:Nat) (x:Int) (hx:x=(i:Int)) (hA:Nds w va (flat .throw)) (hl:i+sz .throw≤1000) :
    Calls Tryz.prog 124 #[va,.int .i64 x] w fun e w'=>∃ y,e=.returned y∧Ints w' y ([])∧Below w.heap.size w w':=by
  have KK:=Rw.kidsR_any va (flat .throw) w hA (by rw [Se.flat_len]; omega);rw [show kids (flat .throw)=[] from rfl] at KK;obtain ⟨bA,oA,cA,rfl,hcA,hltA,hwA,hatA⟩:=form hA;obtain ⟨nA,hnA⟩:∃ n,sz .throw=n+1:=⟨sz .throw - 1,by have:=sz_pos .throw; omega⟩
  rw [hnA] at hcA KK ⊢;have g3A:(1:Int)≤(nA:Int)+1:=by omega
  rw [show kd .throw=3 from rfl] at hwA;have SA:=Lib.hid hwA;have HK:=Lib.hid KK;have HX:=Lib.hid hx;have HL:Hid (i+sz .throw≤1000):=Lib.hid hl;have x0:0≤x∧x≤1000:=by have:=sz_pos .throw; omega
  obtain ⟨e00,-⟩:=hwA w (Below.refl _ _);obtain ⟨x0,x1⟩:=x0;clear hx;clear hnA hatA hA hwA KK hl
  go_enter Tryz.func124,Tryz.ntmps124
  go_wp2_with fail;refine HK.out.mono ?_;rintro e wc ⟨y,rfl,hks,hb0⟩;obtain ⟨cs,hRd,-⟩:=hks;obtain ⟨_,ak,ck,rfl,-⟩:=hRd;have B0:=Lib.hid hb0;clear hb0;go_wp2_with fail;refine Go.wp_loop_rounds 1 ?_;have F0:=Lib.hid (Below.refl wc.heap.size wc);rw [rounds_succ];go_wp2_with fail;go_ret;exact ⟨_,rfl,ints_nil _,B0.out.trans (F0.out.mono B0.out.size)⟩
set_option maxHeartbeats 2000000 in
theorem wt_yield  (va:Value) (w:World) (i:Nat) (x:Int) (hx:x=(i:Int)) (hA:Nds w va (flat .yield)) (_hl:i+sz .yield≤1000) :
    Calls Tryz.prog 124 #[va,.int .i64 x] w fun e w'=>∃ y,e=.returned y∧Ints w' y (wtI .yield i)∧Below w.heap.size w w':=by
  obtain ⟨bA,oA,cA,rfl,hcA,hltA,hwA,hatA⟩:=form hA;obtain ⟨nA,hnA⟩:∃ n,sz .yield=n+1:=⟨sz .yield - 1,by have:=sz_pos .yield; omega⟩
  rw [hnA] at hcA ⊢;have g3A:(1:Int)≤(nA:Int)+1:=by omega
  rw [show kd .yield=4 from rfl] at hwA;obtain ⟨e0,-⟩:=hwA w (Below.refl _ _);have HX:=Lib.hid hx;clear hnA hatA hA hwA _hl hx
  go_enter Tryz.func124,Tryz.ntmps124
  go_wp2_with fail;go_ret;exact ⟨_,rfl,by rw [show wtI .yield i=[x] from by rw [HX.out]; rfl]; exact int_new w x _,below1 w _⟩
set_option maxHeartbeats 2000000 in
theorem wt_over (s:Int) (va:Value) (w:World) (i:Nat) (x:Int) (hx:x=(i:Int)) (hA:Nds w va (flat (.over s))) (hl:i+sz (.over s)≤1000) :
    Calls Tryz.prog 124 #[va,.int .i64 x] w fun e w'=>∃ y,e=.returned y∧Ints w' y ([])∧Below w.heap.size w w':=by
  have KK:=Rw.kidsR_any va (flat (.over s)) w hA (by rw [Se.flat_len]; omega);rw [show kids (flat (.over s))=[] from rfl] at KK;obtain ⟨bA,oA,cA,rfl,hcA,hltA,hwA,hatA⟩:=form hA;obtain ⟨nA,hnA⟩:∃ n,sz (.over s)=n+1:=⟨sz (.over s) - 1,by have:=sz_pos (.over s); omega⟩
  rw [hnA] at hcA KK ⊢;have g3A:(1:Int)≤(nA:Int)+1:=by omega
  rw [show kd (.over s)=11 from rfl] at hwA;have SA:=Lib.hid hwA;have HK:=Lib.hid KK;have HX:=Lib.hid hx;have HL:Hid (i+sz (.over s)≤1000):=Lib.hid hl;have x0:0≤x∧x≤1000:=by have:=sz_pos (.over s); omega
  obtain ⟨e00,-⟩:=hwA w (Below.refl _ _);obtain ⟨x0,x1⟩:=x0;clear hx;clear hnA hatA hA hwA KK hl
  go_enter Tryz.func124,Tryz.ntmps124
  go_wp2_with fail;refine HK.out.mono ?_;rintro e wc ⟨y,rfl,hks,hb0⟩;obtain ⟨cs,hRd,-⟩:=hks;obtain ⟨_,ak,ck,rfl,-⟩:=hRd;have B0:=Lib.hid hb0;clear hb0;go_wp2_with fail;refine Go.wp_loop_rounds 1 ?_;have F0:=Lib.hid (Below.refl wc.heap.size wc);rw [rounds_succ];go_wp2_with fail;go_ret;exact ⟨_,rfl,ints_nil _,B0.out.trans (F0.out.mono B0.out.size)⟩
set_option maxHeartbeats 2000000 in
theorem wt_alt (a b:Tm) (va:Value) (w:World) (i:Nat) (x:Int) (hx:x=(i:Int)) (hA:Nds w va (flat (.alt a b))) (_hl:i+sz (.alt a b)≤1000) :
    Calls Tryz.prog 124 #[va,.int .i64 x] w fun e w'=>∃ y,e=.returned y∧Ints w' y (wtI (.alt a b) i)∧Below w.heap.size w w':=by
  obtain ⟨bA,oA,cA,rfl,hcA,hltA,hwA,hatA⟩:=form hA;obtain ⟨nA,hnA⟩:∃ n,sz (.alt a b)=n+1:=⟨sz (.alt a b) - 1,by have:=sz_pos (.alt a b); omega⟩
  rw [hnA] at hcA ⊢;have g3A:(1:Int)≤(nA:Int)+1:=by omega
  rw [show kd (.alt a b)=6 from rfl] at hwA;obtain ⟨e0,-⟩:=hwA w (Below.refl _ _);have HX:=Lib.hid hx;clear hnA hatA hA hwA _hl hx
  go_enter Tryz.func124,Tryz.ntmps124
  go_wp2_with fail;go_ret;exact ⟨_,rfl,by rw [show wtI (.alt a b) i=[x] from by rw [HX.out]; rfl]; exact int_new w x _,below1 w _⟩
set_option maxHeartbeats 2000000 in
theorem wt_pair (a b:Tm) (va:Value) (w:World) (i:Nat) (x:Int) (hx:x=(i:Int)) (hA:Nds w va (flat (.pair a b))) (_hl:i+sz (.pair a b)≤1000) :
    Calls Tryz.prog 124 #[va,.int .i64 x] w fun e w'=>∃ y,e=.returned y∧Ints w' y (wtI (.pair a b) i)∧Below w.heap.size w w':=by
  obtain ⟨bA,oA,cA,rfl,hcA,hltA,hwA,hatA⟩:=form hA;obtain ⟨nA,hnA⟩:∃ n,sz (.pair a b)=n+1:=⟨sz (.pair a b) - 1,by have:=sz_pos (.pair a b); omega⟩
  rw [hnA] at hcA ⊢;have g3A:(1:Int)≤(nA:Int)+1:=by omega
  rw [show kd (.pair a b)=10 from rfl] at hwA;obtain ⟨e0,-⟩:=hwA w (Below.refl _ _);have HX:=Lib.hid hx;clear hnA hatA hA hwA _hl hx
  go_enter Tryz.func124,Tryz.ntmps124
  go_wp2_with fail;go_ret;exact ⟨_,rfl,by rw [show wtI (.pair a b) i=[x] from by rw [HX.out]; rfl]; exact int_new w x _,below1 w _⟩
set_option maxHeartbeats 2000000 in
theorem wt_fin (s:Int) (c:Tm) (va:Value) (w:World) (i:Nat) (x:Int) (hx:x=(i:Int)) (hA:Nds w va (flat (.fin s c))) (hl:i+sz (.fin s c)≤1000) :
    Calls Tryz.prog 124 #[va,.int .i64 x] w fun e w'=>∃ y,e=.returned y∧Ints w' y ([])∧Below w.heap.size w w':=by
  have KK:=Rw.kidsR_any va (flat (.fin s c)) w hA (by rw [Se.flat_len]; omega);rw [show kids (flat (.fin s c))=[flat c] from kids_fin s c] at KK;obtain ⟨bA,oA,cA,rfl,hcA,hltA,hwA,hatA⟩:=form hA;obtain ⟨nA,hnA⟩:∃ n,sz (.fin s c)=n+1:=⟨sz (.fin s c) - 1,by have:=sz_pos (.fin s c); omega⟩
  rw [hnA] at hcA KK ⊢;have g3A:(1:Int)≤(nA:Int)+1:=by omega
  rw [show kd (.fin s c)=14 from rfl] at hwA;have SA:=Lib.hid hwA;have HK:=Lib.hid KK;have HX:=Lib.hid hx;have HL:Hid (i+sz (.fin s c)≤1000):=Lib.hid hl;have x0:0≤x∧x≤1000:=by have:=sz_pos (.fin s c); omega
  obtain ⟨e00,-⟩:=hwA w (Below.refl _ _);obtain ⟨x0,x1⟩:=x0;clear hx;clear hnA hatA hA hwA KK hl
  go_enter Tryz.func124,Tryz.ntmps124
  go_wp2_with fail;refine HK.out.mono ?_;rintro e wc ⟨y,rfl,hks,hb0⟩;obtain ⟨bk,ok,ck,y0,rfl,q0,n0⟩:=one_row hks;have hkl:bk < wc.heap.size:=Ap.cell_lt q0;have KS:Hid (∀ w1,Below wc.heap.size wc w1→w1.cell? ⟨bk,ok,none⟩=some y0):=Lib.hid fun w1 hb=>by rw [hb.cell (p:=⟨bk,ok,none⟩) hkl]; exact q0
  have N0:=Lib.hid (fun w1 (hb:Below wc.heap.size wc w1)=>n0.below hb);have B0:=Lib.hid hb0;clear hks hb0;clear n0;obtain ⟨b0,o0,c0,rfl,-⟩:=form (N0.out _ (Below.refl _ _));obtain ⟨s0,hs0⟩:∃ z,sz c=z:=⟨_,rfl⟩
  have T0:=Lib.hid hs0;rw [hs0] at KS q0 N0;have z0:s0≤1000:=by have:=HL.out; simp only [sz] at this; omega
  clear hs0;go_wp2_with fail;refine Go.wp_loop_rounds 2 ?_;have F0:=Lib.hid (Below.refl wc.heap.size wc);have p0:=KS.out wc F0.out;rw [rounds_succ];go_wp2_with fail;refine (onR_any 14 0 _).mono ?_;rw [show onT 14 0=false from rfl];rintro e w' ⟨rfl,rfl⟩;go_wp2_with fail;rw [rounds_succ];go_wp2_with fail;go_ret;exact ⟨_,rfl,ints_nil _,B0.out.trans (F0.out.mono B0.out.size)⟩
set_option maxHeartbeats 2000000 in
theorem wt_block (a:Tm) (va:Value) (w:World) (i:Nat) (x:Int) (hx:x=(i:Int)) (hA:Nds w va (flat (.block a))) (RA:Hid (Wwt a)) (hl:i+sz (.block a)≤1000) :
    Calls Tryz.prog 124 #[va,.int .i64 x] w fun e w'=>∃ y,e=.returned y∧Ints w' y ([]++wtI a (i+1))∧Below w.heap.size w w':=by
  have KK:=Rw.kidsR_any va (flat (.block a)) w hA (by rw [Se.flat_len]; omega);rw [show kids (flat (.block a))=[flat a] from kids_block a] at KK;obtain ⟨bA,oA,cA,rfl,hcA,hltA,hwA,hatA⟩:=form hA;obtain ⟨nA,hnA⟩:∃ n,sz (.block a)=n+1:=⟨sz (.block a) - 1,by have:=sz_pos (.block a); omega⟩
  rw [hnA] at hcA KK ⊢;have g3A:(1:Int)≤(nA:Int)+1:=by omega
  rw [show kd (.block a)=9 from rfl] at hwA;have SA:=Lib.hid hwA;have HK:=Lib.hid KK;have HX:=Lib.hid hx;have HL:Hid (i+sz (.block a)≤1000):=Lib.hid hl;have x0:0≤x∧x≤1000:=by have:=sz_pos (.block a); omega
  obtain ⟨e00,-⟩:=hwA w (Below.refl _ _);obtain ⟨x0,x1⟩:=x0;clear hx;clear hnA hatA hA hwA KK hl
  go_enter Tryz.func124,Tryz.ntmps124
  go_wp2_with fail;refine HK.out.mono ?_;rintro e wc ⟨y,rfl,hks,hb0⟩;obtain ⟨bk,ok,ck,y0,rfl,q0,n0⟩:=one_row hks;have hkl:bk < wc.heap.size:=Ap.cell_lt q0;have KS:Hid (∀ w1,Below wc.heap.size wc w1→w1.cell? ⟨bk,ok,none⟩=some y0):=Lib.hid fun w1 hb=>by rw [hb.cell (p:=⟨bk,ok,none⟩) hkl]; exact q0
  have N0:=Lib.hid (fun w1 (hb:Below wc.heap.size wc w1)=>n0.below hb);have B0:=Lib.hid hb0;clear hks hb0;clear n0;obtain ⟨b0,o0,c0,rfl,-⟩:=form (N0.out _ (Below.refl _ _));obtain ⟨s0,hs0⟩:∃ z,sz a=z:=⟨_,rfl⟩
  have T0:=Lib.hid hs0;rw [hs0] at KS q0 N0;have z0:s0≤1000:=by have:=HL.out; simp only [sz] at this; omega
  clear hs0;go_wp2_with fail;refine Go.wp_loop_rounds 2 ?_;have F0:=Lib.hid (Below.refl wc.heap.size wc);have p0:=KS.out wc F0.out;rw [rounds_succ];go_wp2_with fail;refine (onR_any 9 0 _).mono ?_;rw [show onT 9 0=true from rfl];rintro e w' ⟨rfl,rfl⟩;go_wp2_with fail;refine (RA.out _ _ (i+1) _ (by have:=HX.out; omega) (by have:=HL.out; simp only [sz] at this; omega) (N0.out _ F0.out)).mono ?_;rintro e w1 ⟨y1,rfl,hi1,hb1⟩;obtain ⟨_,aa1,cc1,rfl,-⟩:=id hi1;have F1:=Lib.hid (F0.out.trans (hb1.mono F0.out.size));have G1:Hid (GotJ w1.heap.size w1 (.slice none 0 0) []):=Lib.hid (GotJ.start _ _ (Nat.le_refl _));obtain ⟨base,hbase⟩:∃ z,w1.heap.size=z:=⟨_,rfl⟩
  rw [hbase] at G1;have HBS:Hid (wc.heap.size≤base):=Lib.hid (hbase ▸ F1.out.size);clear hbase;have hle1:=wtI_len a (i+1);obtain ⟨v2,w2,hrun,hg2,hb2⟩:=G1.out.row hi1 (by have:=HL.out; simp only [sz] at this; simp only [List.length_nil]; omega);have R2:=Lib.hid hrun;have G2:=Lib.hid hg2;have F2:=Lib.hid (F1.out.trans (hb2.mono HBS.out));clear hrun hg2 hb2 hb1 hi1 hle1;have HLE:=Lib.hid (wtI_len a (i+1));have p0:=KS.out w2 F2.out;go_wp2_with (at_builtin; refine Ap.wpList_append_run (by rfl) (.tmp 43) (.tmp 49) _ _ rfl _ _ rfl rfl v2 w2 R2.out ?_);rw [rounds_succ];go_wp2_with fail;go_ret;exact ⟨_,rfl,G2.out.ints,B0.out.trans (F2.out.mono B0.out.size)⟩
set_option maxHeartbeats 2000000 in
theorem wt_seq (a b:Tm) (va:Value) (w:World) (i:Nat) (x:Int) (hx:x=(i:Int)) (hA:Nds w va (flat (.seq a b))) (RA:Hid (Wwt a)) (hl:i+sz (.seq a b)≤1000) :
    Calls Tryz.prog 124 #[va,.int .i64 x] w fun e w'=>∃ y,e=.returned y∧Ints w' y ([]++wtI a (i+1))∧Below w.heap.size w w':=by
  have KK:=Rw.kidsR_any va (flat (.seq a b)) w hA (by rw [Se.flat_len]; omega);rw [show kids (flat (.seq a b))=[flat a,flat b] from kids_seq a b] at KK;obtain ⟨bA,oA,cA,rfl,hcA,hltA,hwA,hatA⟩:=form hA;obtain ⟨nA,hnA⟩:∃ n,sz (.seq a b)=n+1:=⟨sz (.seq a b) - 1,by have:=sz_pos (.seq a b); omega⟩
  rw [hnA] at hcA KK ⊢;have g3A:(1:Int)≤(nA:Int)+1:=by omega
  rw [show kd (.seq a b)=5 from rfl] at hwA;have SA:=Lib.hid hwA;have HK:=Lib.hid KK;have HX:=Lib.hid hx;have HL:Hid (i+sz (.seq a b)≤1000):=Lib.hid hl;have x0:0≤x∧x≤1000:=by have:=sz_pos (.seq a b); omega
  obtain ⟨e00,-⟩:=hwA w (Below.refl _ _);obtain ⟨x0,x1⟩:=x0;clear hx;clear hnA hatA hA hwA KK hl
  go_enter Tryz.func124,Tryz.ntmps124
  go_wp2_with fail;refine HK.out.mono ?_;rintro e wc ⟨y,rfl,hks,hb0⟩;obtain ⟨bk,ok,ck,y0,y1,rfl,q0,q1,n0,n1⟩:=two_rows hks;have hkl:bk < wc.heap.size:=Ap.cell_lt q0;have KS:Hid (∀ w1,Below wc.heap.size wc w1→w1.cell? ⟨bk,ok,none⟩=some y0∧w1.cell? ⟨bk,ok+1,none⟩=some y1):=Lib.hid fun w1 hb=>⟨by rw [hb.cell (p:=⟨bk,ok,none⟩) hkl]; exact q0,by rw [hb.cell (p:=⟨bk,ok+1,none⟩) hkl]; exact q1⟩
  have N0:=Lib.hid (fun w1 (hb:Below wc.heap.size wc w1)=>n0.below hb);have N1:=Lib.hid (fun w1 (hb:Below wc.heap.size wc w1)=>n1.below hb);have B0:=Lib.hid hb0;clear hks hb0;clear n0 n1;obtain ⟨b0,o0,c0,rfl,-⟩:=form (N0.out _ (Below.refl _ _));obtain ⟨s0,hs0⟩:∃ z,sz a=z:=⟨_,rfl⟩
  have T0:=Lib.hid hs0;rw [hs0] at KS q0 N0;have z0:s0≤1000:=by have:=HL.out; simp only [sz] at this; omega
  clear hs0;obtain ⟨b1,o1,c1,rfl,-⟩:=form (N1.out _ (Below.refl _ _));obtain ⟨s1,hs1⟩:∃ z,sz b=z:=⟨_,rfl⟩
  have T1:=Lib.hid hs1;rw [hs1] at KS q1 N1;have z1:s1≤1000:=by have:=HL.out; simp only [sz] at this; omega
  clear hs1;go_wp2_with fail;refine Go.wp_loop_rounds 3 ?_;have F0:=Lib.hid (Below.refl wc.heap.size wc);obtain ⟨p0,p1⟩:=KS.out wc F0.out;rw [rounds_succ];go_wp2_with fail;refine (onR_any 5 0 _).mono ?_;rw [show onT 5 0=true from rfl];rintro e w' ⟨rfl,rfl⟩;go_wp2_with fail;refine (RA.out _ _ (i+1) _ (by have:=HX.out; omega) (by have:=HL.out; simp only [sz] at this; omega) (N0.out _ F0.out)).mono ?_;rintro e w1 ⟨y1,rfl,hi1,hb1⟩;obtain ⟨_,aa1,cc1,rfl,-⟩:=id hi1;have F1:=Lib.hid (F0.out.trans (hb1.mono F0.out.size));have G1:Hid (GotJ w1.heap.size w1 (.slice none 0 0) []):=Lib.hid (GotJ.start _ _ (Nat.le_refl _));obtain ⟨base,hbase⟩:∃ z,w1.heap.size=z:=⟨_,rfl⟩
  rw [hbase] at G1;have HBS:Hid (wc.heap.size≤base):=Lib.hid (hbase ▸ F1.out.size);clear hbase;have hle1:=wtI_len a (i+1);obtain ⟨v2,w2,hrun,hg2,hb2⟩:=G1.out.row hi1 (by have:=HL.out; simp only [sz] at this; simp only [List.length_nil]; omega);have R2:=Lib.hid hrun;have G2:=Lib.hid hg2;have F2:=Lib.hid (F1.out.trans (hb2.mono HBS.out));clear hrun hg2 hb2 hb1 hi1 hle1;have HLE:=Lib.hid (wtI_len a (i+1));obtain ⟨p0,p1⟩:=KS.out w2 F2.out;go_wp2_with (at_builtin; refine Ap.wpList_append_run (by rfl) (.tmp 43) (.tmp 49) _ _ rfl _ _ rfl rfl v2 w2 R2.out ?_);obtain ⟨p0,p1⟩:=KS.out w2 F2.out;rw [rounds_succ];go_wp2_with fail;refine (onR_any 5 1 _).mono ?_;rw [show onT 5 1=false from rfl];rintro e w' ⟨rfl,rfl⟩;go_wp2_with fail;rw [rounds_succ];go_wp2_with fail;go_ret;exact ⟨_,rfl,G2.out.ints,B0.out.trans (F2.out.mono B0.out.size)⟩
set_option maxHeartbeats 2000000 in
theorem wt_par (a b:Tm) (va:Value) (w:World) (i:Nat) (x:Int) (hx:x=(i:Int)) (hA:Nds w va (flat (.par a b))) (RA:Hid (Wwt a)) (RB:Hid (Wwt b)) (hl:i+sz (.par a b)≤1000) :
    Calls Tryz.prog 124 #[va,.int .i64 x] w fun e w'=>∃ y,e=.returned y∧Ints w' y (([]++wtI a (i+1))++wtI b (i+1+sz a))∧Below w.heap.size w w':=by
  have KK:=Rw.kidsR_any va (flat (.par a b)) w hA (by rw [Se.flat_len]; omega);rw [show kids (flat (.par a b))=[flat a,flat b] from kids_par a b] at KK;obtain ⟨bA,oA,cA,rfl,hcA,hltA,hwA,hatA⟩:=form hA;obtain ⟨nA,hnA⟩:∃ n,sz (.par a b)=n+1:=⟨sz (.par a b) - 1,by have:=sz_pos (.par a b); omega⟩
  rw [hnA] at hcA KK ⊢;have g3A:(1:Int)≤(nA:Int)+1:=by omega
  rw [show kd (.par a b)=7 from rfl] at hwA;have SA:=Lib.hid hwA;have HK:=Lib.hid KK;have HX:=Lib.hid hx;have HL:Hid (i+sz (.par a b)≤1000):=Lib.hid hl;have x0:0≤x∧x≤1000:=by have:=sz_pos (.par a b); omega
  obtain ⟨e00,-⟩:=hwA w (Below.refl _ _);obtain ⟨x0,x1⟩:=x0;clear hx;clear hnA hatA hA hwA KK hl
  go_enter Tryz.func124,Tryz.ntmps124
  go_wp2_with fail;refine HK.out.mono ?_;rintro e wc ⟨y,rfl,hks,hb0⟩;obtain ⟨bk,ok,ck,y0,y1,rfl,q0,q1,n0,n1⟩:=two_rows hks;have hkl:bk < wc.heap.size:=Ap.cell_lt q0;have KS:Hid (∀ w1,Below wc.heap.size wc w1→w1.cell? ⟨bk,ok,none⟩=some y0∧w1.cell? ⟨bk,ok+1,none⟩=some y1):=Lib.hid fun w1 hb=>⟨by rw [hb.cell (p:=⟨bk,ok,none⟩) hkl]; exact q0,by rw [hb.cell (p:=⟨bk,ok+1,none⟩) hkl]; exact q1⟩
  have N0:=Lib.hid (fun w1 (hb:Below wc.heap.size wc w1)=>n0.below hb);have N1:=Lib.hid (fun w1 (hb:Below wc.heap.size wc w1)=>n1.below hb);have B0:=Lib.hid hb0;clear hks hb0;clear n0 n1;obtain ⟨b0,o0,c0,rfl,-⟩:=form (N0.out _ (Below.refl _ _));obtain ⟨s0,hs0⟩:∃ z,sz a=z:=⟨_,rfl⟩
  have T0:=Lib.hid hs0;rw [hs0] at KS q0 N0;have z0:s0≤1000:=by have:=HL.out; simp only [sz] at this; omega
  clear hs0;obtain ⟨b1,o1,c1,rfl,-⟩:=form (N1.out _ (Below.refl _ _));obtain ⟨s1,hs1⟩:∃ z,sz b=z:=⟨_,rfl⟩
  have T1:=Lib.hid hs1;rw [hs1] at KS q1 N1;have z1:s1≤1000:=by have:=HL.out; simp only [sz] at this; omega
  clear hs1;go_wp2_with fail;refine Go.wp_loop_rounds 3 ?_;have F0:=Lib.hid (Below.refl wc.heap.size wc);obtain ⟨p0,p1⟩:=KS.out wc F0.out;rw [rounds_succ];go_wp2_with fail;refine (onR_any 7 0 _).mono ?_;rw [show onT 7 0=true from rfl];rintro e w' ⟨rfl,rfl⟩;go_wp2_with fail;refine (RA.out _ _ (i+1) _ (by have:=HX.out; omega) (by have:=HL.out; simp only [sz] at this; omega) (N0.out _ F0.out)).mono ?_;rintro e w1 ⟨y1,rfl,hi1,hb1⟩;obtain ⟨_,aa1,cc1,rfl,-⟩:=id hi1;have F1:=Lib.hid (F0.out.trans (hb1.mono F0.out.size));have G1:Hid (GotJ w1.heap.size w1 (.slice none 0 0) []):=Lib.hid (GotJ.start _ _ (Nat.le_refl _));obtain ⟨base,hbase⟩:∃ z,w1.heap.size=z:=⟨_,rfl⟩
  rw [hbase] at G1;have HBS:Hid (wc.heap.size≤base):=Lib.hid (hbase ▸ F1.out.size);clear hbase;have hle1:=wtI_len a (i+1);obtain ⟨v2,w2,hrun,hg2,hb2⟩:=G1.out.row hi1 (by have:=HL.out; simp only [sz] at this; simp only [List.length_nil]; omega);have R2:=Lib.hid hrun;have G2:=Lib.hid hg2;have F2:=Lib.hid (F1.out.trans (hb2.mono HBS.out));clear hrun hg2 hb2 hb1 hi1 hle1;have HLE:=Lib.hid (wtI_len a (i+1));obtain ⟨p0,p1⟩:=KS.out w2 F2.out;go_wp2_with (at_builtin; refine Ap.wpList_append_run (by rfl) (.tmp 43) (.tmp 49) _ _ rfl _ _ rfl rfl v2 w2 R2.out ?_);obtain ⟨p0,p1⟩:=KS.out w2 F2.out;rw [rounds_succ];go_wp2_with fail;refine (onR_any 7 1 _).mono ?_;rw [show onT 7 1=true from rfl];rintro e w' ⟨rfl,rfl⟩;go_wp2_with fail;refine (RB.out _ _ (i+1+sz a) _ (by have:=HX.out; have:=T0.out; omega) (by have:=HL.out; simp only [sz] at this; omega) (N1.out _ F2.out)).mono ?_;rintro e w3 ⟨y3,rfl,hi3,hb3⟩;obtain ⟨_,aa3,cc3,rfl,-⟩:=id hi3;have F3:=Lib.hid (F2.out.trans (hb3.mono F2.out.size));have G3:=Lib.hid (G2.out.below hb3);have hle3:=wtI_len b (i+1+sz a);obtain ⟨v4,w4,hrun,hg4,hb4⟩:=G3.out.row hi3 (by have:=HL.out; simp only [sz] at this; have:=HLE.out; simp only [List.nil_append]; omega);have R4:=Lib.hid hrun;have G4:=Lib.hid hg4;have F4:=Lib.hid (F3.out.trans (hb4.mono HBS.out));clear hrun hg4 hb4 hb3 hi3 hle3;obtain ⟨p0,p1⟩:=KS.out w4 F4.out;go_wp2_with (at_builtin; refine Ap.wpList_append_run (by rfl) (.tmp 43) (.tmp 49) _ _ rfl _ _ rfl rfl v4 w4 R4.out ?_);rw [rounds_succ];go_wp2_with fail;go_ret;exact ⟨_,rfl,G4.out.ints,B0.out.trans (F4.out.mono B0.out.size)⟩
set_option maxHeartbeats 2000000 in
theorem wt_hand (a b:Tm) (va:Value) (w:World) (i:Nat) (x:Int) (hx:x=(i:Int)) (hA:Nds w va (flat (.hand a b))) (RA:Hid (Wwt a)) (hl:i+sz (.hand a b)≤1000) :
    Calls Tryz.prog 124 #[va,.int .i64 x] w fun e w'=>∃ y,e=.returned y∧Ints w' y ([]++wtI a (i+1))∧Below w.heap.size w w':=by
  have KK:=Rw.kidsR_any va (flat (.hand a b)) w hA (by rw [Se.flat_len]; omega);rw [show kids (flat (.hand a b))=[flat a,flat b] from kids_hand a b] at KK;obtain ⟨bA,oA,cA,rfl,hcA,hltA,hwA,hatA⟩:=form hA;obtain ⟨nA,hnA⟩:∃ n,sz (.hand a b)=n+1:=⟨sz (.hand a b) - 1,by have:=sz_pos (.hand a b); omega⟩
  rw [hnA] at hcA KK ⊢;have g3A:(1:Int)≤(nA:Int)+1:=by omega
  rw [show kd (.hand a b)=8 from rfl] at hwA;have SA:=Lib.hid hwA;have HK:=Lib.hid KK;have HX:=Lib.hid hx;have HL:Hid (i+sz (.hand a b)≤1000):=Lib.hid hl;have x0:0≤x∧x≤1000:=by have:=sz_pos (.hand a b); omega
  obtain ⟨e00,-⟩:=hwA w (Below.refl _ _);obtain ⟨x0,x1⟩:=x0;clear hx;clear hnA hatA hA hwA KK hl
  go_enter Tryz.func124,Tryz.ntmps124
  go_wp2_with fail;refine HK.out.mono ?_;rintro e wc ⟨y,rfl,hks,hb0⟩;obtain ⟨bk,ok,ck,y0,y1,rfl,q0,q1,n0,n1⟩:=two_rows hks;have hkl:bk < wc.heap.size:=Ap.cell_lt q0;have KS:Hid (∀ w1,Below wc.heap.size wc w1→w1.cell? ⟨bk,ok,none⟩=some y0∧w1.cell? ⟨bk,ok+1,none⟩=some y1):=Lib.hid fun w1 hb=>⟨by rw [hb.cell (p:=⟨bk,ok,none⟩) hkl]; exact q0,by rw [hb.cell (p:=⟨bk,ok+1,none⟩) hkl]; exact q1⟩
  have N0:=Lib.hid (fun w1 (hb:Below wc.heap.size wc w1)=>n0.below hb);have N1:=Lib.hid (fun w1 (hb:Below wc.heap.size wc w1)=>n1.below hb);have B0:=Lib.hid hb0;clear hks hb0;clear n0 n1;obtain ⟨b0,o0,c0,rfl,-⟩:=form (N0.out _ (Below.refl _ _));obtain ⟨s0,hs0⟩:∃ z,sz a=z:=⟨_,rfl⟩
  have T0:=Lib.hid hs0;rw [hs0] at KS q0 N0;have z0:s0≤1000:=by have:=HL.out; simp only [sz] at this; omega
  clear hs0;obtain ⟨b1,o1,c1,rfl,-⟩:=form (N1.out _ (Below.refl _ _));obtain ⟨s1,hs1⟩:∃ z,sz b=z:=⟨_,rfl⟩
  have T1:=Lib.hid hs1;rw [hs1] at KS q1 N1;have z1:s1≤1000:=by have:=HL.out; simp only [sz] at this; omega
  clear hs1;go_wp2_with fail;refine Go.wp_loop_rounds 3 ?_;have F0:=Lib.hid (Below.refl wc.heap.size wc);obtain ⟨p0,p1⟩:=KS.out wc F0.out;rw [rounds_succ];go_wp2_with fail;refine (onR_any 8 0 _).mono ?_;rw [show onT 8 0=true from rfl];rintro e w' ⟨rfl,rfl⟩;go_wp2_with fail;refine (RA.out _ _ (i+1) _ (by have:=HX.out; omega) (by have:=HL.out; simp only [sz] at this; omega) (N0.out _ F0.out)).mono ?_;rintro e w1 ⟨y1,rfl,hi1,hb1⟩;obtain ⟨_,aa1,cc1,rfl,-⟩:=id hi1;have F1:=Lib.hid (F0.out.trans (hb1.mono F0.out.size));have G1:Hid (GotJ w1.heap.size w1 (.slice none 0 0) []):=Lib.hid (GotJ.start _ _ (Nat.le_refl _));obtain ⟨base,hbase⟩:∃ z,w1.heap.size=z:=⟨_,rfl⟩
  rw [hbase] at G1;have HBS:Hid (wc.heap.size≤base):=Lib.hid (hbase ▸ F1.out.size);clear hbase;have hle1:=wtI_len a (i+1);obtain ⟨v2,w2,hrun,hg2,hb2⟩:=G1.out.row hi1 (by have:=HL.out; simp only [sz] at this; simp only [List.length_nil]; omega);have R2:=Lib.hid hrun;have G2:=Lib.hid hg2;have F2:=Lib.hid (F1.out.trans (hb2.mono HBS.out));clear hrun hg2 hb2 hb1 hi1 hle1;have HLE:=Lib.hid (wtI_len a (i+1));obtain ⟨p0,p1⟩:=KS.out w2 F2.out;go_wp2_with (at_builtin; refine Ap.wpList_append_run (by rfl) (.tmp 43) (.tmp 49) _ _ rfl _ _ rfl rfl v2 w2 R2.out ?_);obtain ⟨p0,p1⟩:=KS.out w2 F2.out;rw [rounds_succ];go_wp2_with fail;refine (onR_any 8 1 _).mono ?_;rw [show onT 8 1=false from rfl];rintro e w' ⟨rfl,rfl⟩;go_wp2_with fail;rw [rounds_succ];go_wp2_with fail;go_ret;exact ⟨_,rfl,G2.out.ints,B0.out.trans (F2.out.mono B0.out.size)⟩
set_option maxHeartbeats 2000000 in
theorem wt_going (a b:Tm) (va:Value) (w:World) (i:Nat) (x:Int) (hx:x=(i:Int)) (hA:Nds w va (flat (.going a b))) (RA:Hid (Wwt a)) (hl:i+sz (.going a b)≤1000) :
    Calls Tryz.prog 124 #[va,.int .i64 x] w fun e w'=>∃ y,e=.returned y∧Ints w' y ([]++wtI a (i+1))∧Below w.heap.size w w':=by
  have KK:=Rw.kidsR_any va (flat (.going a b)) w hA (by rw [Se.flat_len]; omega);rw [show kids (flat (.going a b))=[flat a,flat b] from kids_going a b] at KK;obtain ⟨bA,oA,cA,rfl,hcA,hltA,hwA,hatA⟩:=form hA;obtain ⟨nA,hnA⟩:∃ n,sz (.going a b)=n+1:=⟨sz (.going a b) - 1,by have:=sz_pos (.going a b); omega⟩
  rw [hnA] at hcA KK ⊢;have g3A:(1:Int)≤(nA:Int)+1:=by omega
  rw [show kd (.going a b)=12 from rfl] at hwA;have SA:=Lib.hid hwA;have HK:=Lib.hid KK;have HX:=Lib.hid hx;have HL:Hid (i+sz (.going a b)≤1000):=Lib.hid hl;have x0:0≤x∧x≤1000:=by have:=sz_pos (.going a b); omega
  obtain ⟨e00,-⟩:=hwA w (Below.refl _ _);obtain ⟨x0,x1⟩:=x0;clear hx;clear hnA hatA hA hwA KK hl
  go_enter Tryz.func124,Tryz.ntmps124
  go_wp2_with fail;refine HK.out.mono ?_;rintro e wc ⟨y,rfl,hks,hb0⟩;obtain ⟨bk,ok,ck,y0,y1,rfl,q0,q1,n0,n1⟩:=two_rows hks;have hkl:bk < wc.heap.size:=Ap.cell_lt q0;have KS:Hid (∀ w1,Below wc.heap.size wc w1→w1.cell? ⟨bk,ok,none⟩=some y0∧w1.cell? ⟨bk,ok+1,none⟩=some y1):=Lib.hid fun w1 hb=>⟨by rw [hb.cell (p:=⟨bk,ok,none⟩) hkl]; exact q0,by rw [hb.cell (p:=⟨bk,ok+1,none⟩) hkl]; exact q1⟩
  have N0:=Lib.hid (fun w1 (hb:Below wc.heap.size wc w1)=>n0.below hb);have N1:=Lib.hid (fun w1 (hb:Below wc.heap.size wc w1)=>n1.below hb);have B0:=Lib.hid hb0;clear hks hb0;clear n0 n1;obtain ⟨b0,o0,c0,rfl,-⟩:=form (N0.out _ (Below.refl _ _));obtain ⟨s0,hs0⟩:∃ z,sz a=z:=⟨_,rfl⟩
  have T0:=Lib.hid hs0;rw [hs0] at KS q0 N0;have z0:s0≤1000:=by have:=HL.out; simp only [sz] at this; omega
  clear hs0;obtain ⟨b1,o1,c1,rfl,-⟩:=form (N1.out _ (Below.refl _ _));obtain ⟨s1,hs1⟩:∃ z,sz b=z:=⟨_,rfl⟩
  have T1:=Lib.hid hs1;rw [hs1] at KS q1 N1;have z1:s1≤1000:=by have:=HL.out; simp only [sz] at this; omega
  clear hs1;go_wp2_with fail;refine Go.wp_loop_rounds 3 ?_;have F0:=Lib.hid (Below.refl wc.heap.size wc);obtain ⟨p0,p1⟩:=KS.out wc F0.out;rw [rounds_succ];go_wp2_with fail;refine (onR_any 12 0 _).mono ?_;rw [show onT 12 0=true from rfl];rintro e w' ⟨rfl,rfl⟩;go_wp2_with fail;refine (RA.out _ _ (i+1) _ (by have:=HX.out; omega) (by have:=HL.out; simp only [sz] at this; omega) (N0.out _ F0.out)).mono ?_;rintro e w1 ⟨y1,rfl,hi1,hb1⟩;obtain ⟨_,aa1,cc1,rfl,-⟩:=id hi1;have F1:=Lib.hid (F0.out.trans (hb1.mono F0.out.size));have G1:Hid (GotJ w1.heap.size w1 (.slice none 0 0) []):=Lib.hid (GotJ.start _ _ (Nat.le_refl _));obtain ⟨base,hbase⟩:∃ z,w1.heap.size=z:=⟨_,rfl⟩
  rw [hbase] at G1;have HBS:Hid (wc.heap.size≤base):=Lib.hid (hbase ▸ F1.out.size);clear hbase;have hle1:=wtI_len a (i+1);obtain ⟨v2,w2,hrun,hg2,hb2⟩:=G1.out.row hi1 (by have:=HL.out; simp only [sz] at this; simp only [List.length_nil]; omega);have R2:=Lib.hid hrun;have G2:=Lib.hid hg2;have F2:=Lib.hid (F1.out.trans (hb2.mono HBS.out));clear hrun hg2 hb2 hb1 hi1 hle1;have HLE:=Lib.hid (wtI_len a (i+1));obtain ⟨p0,p1⟩:=KS.out w2 F2.out;go_wp2_with (at_builtin; refine Ap.wpList_append_run (by rfl) (.tmp 43) (.tmp 49) _ _ rfl _ _ rfl rfl v2 w2 R2.out ?_);obtain ⟨p0,p1⟩:=KS.out w2 F2.out;rw [rounds_succ];go_wp2_with fail;refine (onR_any 12 1 _).mono ?_;rw [show onT 12 1=false from rfl];rintro e w' ⟨rfl,rfl⟩;go_wp2_with fail;rw [rounds_succ];go_wp2_with fail;go_ret;exact ⟨_,rfl,G2.out.ints,B0.out.trans (F2.out.mono B0.out.size)⟩
set_option maxHeartbeats 2000000 in
theorem wt_stack (a b:Tm) (va:Value) (w:World) (i:Nat) (x:Int) (hx:x=(i:Int)) (hA:Nds w va (flat (.stack a b))) (RA:Hid (Wwt a)) (hl:i+sz (.stack a b)≤1000) :
    Calls Tryz.prog 124 #[va,.int .i64 x] w fun e w'=>∃ y,e=.returned y∧Ints w' y ([]++wtI a (i+1))∧Below w.heap.size w w':=by
  have KK:=Rw.kidsR_any va (flat (.stack a b)) w hA (by rw [Se.flat_len]; omega);rw [show kids (flat (.stack a b))=[flat a,flat b] from kids_stack a b] at KK;obtain ⟨bA,oA,cA,rfl,hcA,hltA,hwA,hatA⟩:=form hA;obtain ⟨nA,hnA⟩:∃ n,sz (.stack a b)=n+1:=⟨sz (.stack a b) - 1,by have:=sz_pos (.stack a b); omega⟩
  rw [hnA] at hcA KK ⊢;have g3A:(1:Int)≤(nA:Int)+1:=by omega
  rw [show kd (.stack a b)=13 from rfl] at hwA;have SA:=Lib.hid hwA;have HK:=Lib.hid KK;have HX:=Lib.hid hx;have HL:Hid (i+sz (.stack a b)≤1000):=Lib.hid hl;have x0:0≤x∧x≤1000:=by have:=sz_pos (.stack a b); omega
  obtain ⟨e00,-⟩:=hwA w (Below.refl _ _);obtain ⟨x0,x1⟩:=x0;clear hx;clear hnA hatA hA hwA KK hl
  go_enter Tryz.func124,Tryz.ntmps124
  go_wp2_with fail;refine HK.out.mono ?_;rintro e wc ⟨y,rfl,hks,hb0⟩;obtain ⟨bk,ok,ck,y0,y1,rfl,q0,q1,n0,n1⟩:=two_rows hks;have hkl:bk < wc.heap.size:=Ap.cell_lt q0;have KS:Hid (∀ w1,Below wc.heap.size wc w1→w1.cell? ⟨bk,ok,none⟩=some y0∧w1.cell? ⟨bk,ok+1,none⟩=some y1):=Lib.hid fun w1 hb=>⟨by rw [hb.cell (p:=⟨bk,ok,none⟩) hkl]; exact q0,by rw [hb.cell (p:=⟨bk,ok+1,none⟩) hkl]; exact q1⟩
  have N0:=Lib.hid (fun w1 (hb:Below wc.heap.size wc w1)=>n0.below hb);have N1:=Lib.hid (fun w1 (hb:Below wc.heap.size wc w1)=>n1.below hb);have B0:=Lib.hid hb0;clear hks hb0;clear n0 n1;obtain ⟨b0,o0,c0,rfl,-⟩:=form (N0.out _ (Below.refl _ _));obtain ⟨s0,hs0⟩:∃ z,sz a=z:=⟨_,rfl⟩
  have T0:=Lib.hid hs0;rw [hs0] at KS q0 N0;have z0:s0≤1000:=by have:=HL.out; simp only [sz] at this; omega
  clear hs0;obtain ⟨b1,o1,c1,rfl,-⟩:=form (N1.out _ (Below.refl _ _));obtain ⟨s1,hs1⟩:∃ z,sz b=z:=⟨_,rfl⟩
  have T1:=Lib.hid hs1;rw [hs1] at KS q1 N1;have z1:s1≤1000:=by have:=HL.out; simp only [sz] at this; omega
  clear hs1;go_wp2_with fail;refine Go.wp_loop_rounds 3 ?_;have F0:=Lib.hid (Below.refl wc.heap.size wc);obtain ⟨p0,p1⟩:=KS.out wc F0.out;rw [rounds_succ];go_wp2_with fail;refine (onR_any 13 0 _).mono ?_;rw [show onT 13 0=true from rfl];rintro e w' ⟨rfl,rfl⟩;go_wp2_with fail;refine (RA.out _ _ (i+1) _ (by have:=HX.out; omega) (by have:=HL.out; simp only [sz] at this; omega) (N0.out _ F0.out)).mono ?_;rintro e w1 ⟨y1,rfl,hi1,hb1⟩;obtain ⟨_,aa1,cc1,rfl,-⟩:=id hi1;have F1:=Lib.hid (F0.out.trans (hb1.mono F0.out.size));have G1:Hid (GotJ w1.heap.size w1 (.slice none 0 0) []):=Lib.hid (GotJ.start _ _ (Nat.le_refl _));obtain ⟨base,hbase⟩:∃ z,w1.heap.size=z:=⟨_,rfl⟩
  rw [hbase] at G1;have HBS:Hid (wc.heap.size≤base):=Lib.hid (hbase ▸ F1.out.size);clear hbase;have hle1:=wtI_len a (i+1);obtain ⟨v2,w2,hrun,hg2,hb2⟩:=G1.out.row hi1 (by have:=HL.out; simp only [sz] at this; simp only [List.length_nil]; omega);have R2:=Lib.hid hrun;have G2:=Lib.hid hg2;have F2:=Lib.hid (F1.out.trans (hb2.mono HBS.out));clear hrun hg2 hb2 hb1 hi1 hle1;have HLE:=Lib.hid (wtI_len a (i+1));obtain ⟨p0,p1⟩:=KS.out w2 F2.out;go_wp2_with (at_builtin; refine Ap.wpList_append_run (by rfl) (.tmp 43) (.tmp 49) _ _ rfl _ _ rfl rfl v2 w2 R2.out ?_);obtain ⟨p0,p1⟩:=KS.out w2 F2.out;rw [rounds_succ];go_wp2_with fail;refine (onR_any 13 1 _).mono ?_;rw [show onT 13 1=false from rfl];rintro e w' ⟨rfl,rfl⟩;go_wp2_with fail;rw [rounds_succ];go_wp2_with fail;go_ret;exact ⟨_,rfl,G2.out.ints,B0.out.trans (F2.out.mono B0.out.size)⟩
theorem waitsR_any:∀ t:Tm,Wwt t:=by
  intro t
  induction t with
  | act s=>exact fun v w i x hx hl hv=>wt_act s v w i x hx hv hl
  | yield=>exact fun v w i x hx hl hv=>wt_yield v w i x hx hv hl
  | skip=>exact fun v w i x hx hl hv=>wt_skip v w i x hx hv hl
  | throw=>exact fun v w i x hx hl hv=>wt_throw v w i x hx hv hl
  | over s=>exact fun v w i x hx hl hv=>wt_over s v w i x hx hv hl
  | fin s c _=>exact fun v w i x hx hl hv=>wt_fin s c v w i x hx hv hl
  | alt a b _ _=>exact fun v w i x hx hl hv=>wt_alt a b v w i x hx hv hl
  | pair a b _ _=>exact fun v w i x hx hl hv=>wt_pair a b v w i x hx hv hl
  | block a ia=>exact fun v w i x hx hl hv=>wt_block a v w i x hx hv (Lib.hid ia) hl
  | seq a b ia _=>exact fun v w i x hx hl hv=>wt_seq a b v w i x hx hv (Lib.hid ia) hl
  | hand a b ia _=>exact fun v w i x hx hl hv=>wt_hand a b v w i x hx hv (Lib.hid ia) hl
  | going a b ia _=>exact fun v w i x hx hl hv=>wt_going a b v w i x hx hv (Lib.hid ia) hl
  | stack a b ia _=>exact fun v w i x hx hl hv=>wt_stack a b v w i x hx hv (Lib.hid ia) hl
  | par a b ia ib=>
    intro v w i x hx hl hv;rw [wtI_par];exact wt_par a b v w i x hx hv (Lib.hid ia) (Lib.hid ib) hl
set_option maxHeartbeats 1000000 in
theorem actR_any (v:Value) (l:List Nd) (w:World) (hv:Nds w v l) (hl:l.length≤1000) (hm:Nms l) :
    Calls Tryz.prog 84 #[v] w fun e w'=>∃ y,e=.returned y∧Ints w' y (av l)∧Below w.heap.size w w':=by
  have HS:=Lib.hid (setR_any v l w hv hl hm)
  cases hs:setB l with
  | false=>
    rw [av_no hs];rw [hs] at HS;obtain ⟨_,a,c,rfl,-⟩:=id hv;clear hv hm hs
    go_enter Tryz.func84,Tryz.ntmps84
    go_wp2_with fail;refine HS.out.mono ?_;rintro e w1 ⟨rfl,hb1⟩;have D1:=Lib.hid hb1;clear hb1;go_wp2_with fail;go_ret;exact ⟨_,rfl,ints_nil _,D1.out⟩
  | true=>
    obtain ⟨t,rfl,hg,hn⟩:=set_iff.1 hs;rw [av_go hg hn];rw [hs] at HS;have HB:=Lib.hid (fun w1 (hb:Below w.heap.size w w1)=>waitsR_any t v w1 0 0 rfl (by have:=hg.2.1; omega) (hv.below hb));obtain ⟨_,a,c,rfl,-⟩:=id hv;clear hv hm hs hg hn
    go_enter Tryz.func84,Tryz.ntmps84
    go_wp2_with fail;refine HS.out.mono ?_;rintro e w1 ⟨rfl,hb1⟩;have D1:=Lib.hid hb1;clear hb1;go_wp2_with fail;refine (HB.out _ D1.out).mono ?_;rintro e w2 ⟨y,rfl,hi,hb2⟩;have D2:=Lib.hid (D1.out.trans (hb2.mono D1.out.size));have I2:=Lib.hid hi;clear hb2 hi;go_wp2_with fail;go_ret;exact ⟨_,rfl,I2.out,D2.out⟩
end Go.Proofs.YtaapnkoooofalaaGreat.Do
