/- The program's Next and Refuse: the walks. The contracts of package step, met. -/
import Derived.Test.YtaapnkoooofalaaGreatQ32
import Derived.Test.YtaapnkoooofalaaGreatQ36
import Derived.Test.YtaapnkoooofalaaGreatQ03
import Derived.Test.YtaapnkoooofalaaGreatQ34

namespace Go.Proofs.YtaapnkoooofalaaGreat.St
open Go Go.RowKit Rw So Se Do Sp Me
set_option maxRecDepth 20000
abbrev LL:=List (List Nd)
theorem at_keep {w:World} {b o:Nat} {l:List Nd} (h:At w b o l) (q:Nat) (hq:q < l.length):∀ w',Below w.heap.size w w'→w'.cell? ⟨b,o+q*3,none⟩=some (.int .i64 l[q].k)∧w'.cell? ⟨b,o+q*3+1,none⟩=some (.string l[q].n):=fun w' hb=>
  ⟨by rw [hb.cell (Ap.cell_lt (h q hq).1)]; exact (h q hq).1,by rw [hb.cell (Ap.cell_lt (h q hq).2.1)]; exact (h q hq).2.1⟩
def RPx (b o c n q bM:Nat) (kk hw:Int) (nm:ByteArray) (ls:LL) (X R:List Nd) (k:Nat) (v:Value) (w':World):Prop:=match k with
  | 0=>v=.slice (some ⟨b,o,none⟩) n c
  | 1=>v=.pointer (some ⟨bM,0,none⟩)
  | 2=>v=.int .i64 (q:Int)
  | 3=>v=.slice (some ⟨b,o,none⟩) n c
  | 4=>v=.pointer (some ⟨bM,0,none⟩)
  | 5=>v=.int .i64 (q:Int)
  | 6=>v=.pointer (some ⟨b,o+q*3,none⟩)
  | 7=>v=.pointer (some ⟨b,o+q*3,none⟩)
  | 8=>v=.int .i64 kk
  | 9=>v=.pointer (some ⟨bM,1,none⟩)
  | 10=>v=.int .i64 hw
  | 11=>FnV w' v ls X
  | 12=>Nds w' v R
  | 13=>v=.slice (some ⟨b,o,none⟩) n c
  | 14=>v=.pointer (some ⟨bM,0,none⟩)
  | 15=>v=.int .i64 (q:Int)
  | 16=>v=.pointer (some ⟨b,o+q*3,none⟩)
  | 17=>v=.pointer (some ⟨b,o+q*3+1,none⟩)
  | 18=>v=.string nm
  | 19=>Nds w' v R
  | 20=>v=.string nm
  | 21=>v=.int .i64 0
  | _=>True
theorem RPx.below {b o c n q bM:Nat} {kk hw:Int} {nm:ByteArray} {ls:LL} {X R:List Nd} {k:Nat} {v:Value} {w w':World} (h:RPx b o c n q bM kk hw nm ls X R k v w) (hb:Below w.heap.size w w'):RPx b o c n q bM kk hw nm ls X R k v w':=by
  unfold RPx at h ⊢
  split at h
  case h_12=>exact FnV.below h hb
  case h_13=>exact Nds.below h hb
  case h_20=>exact Nds.below h hb
  all_goals exact h
theorem RPx.put {w4:World} {b o c n q bM:Nat} {kk hw:Int} {nm:ByteArray} {ls:LL} {X R:List Nd} {v:Value} {w w':World} {f:Nat→Bool} {us:Nat→Value} {i:Nat} (g:Rg.Kept (fun w'=>Below w4.heap.size w4 w') (RPx b o c n q bM kk hw nm ls X R) f us w) (hb:Below w.heap.size w w') (hv:RPx b o c n q bM kk hw nm ls X R i v w') :
    Rg.Kept (fun w'=>Below w4.heap.size w4 w') (RPx b o c n q bM kk hw nm ls X R) (Rg.upd f i true) (Rg.upd us i v) w':=
  Rg.Kept.put (Base:=fun w'=>Below w4.heap.size w4 w') (R:=RPx b o c n q bM kk hw nm ls X R) (fun _ _ h hb=>h.trans (hb.mono h.size)) (fun _ _ _ _ h hb=>RPx.below h hb) g hb hv
set_option maxHeartbeats 8000000 in
theorem next_core (b o c n q:Nat) (kk hw:Int) (nm:ByteArray) (ls:List (List Nd)) (X R:List Nd) (w:World) (hq:q < n)
    (hA:∀ w',Below w.heap.size w w'→w'.cell? ⟨b,o+q*3,none⟩=some (.int .i64 kk)∧w'.cell? ⟨b,o+q*3+1,none⟩=some (.string nm))
    (hI:∀ w1,Below w.heap.size w w1→Calls Tryz.prog 24 #[.slice (some ⟨b,o,none⟩) n c,.agg #[.int .i64 (q:Int),.int .i64 hw]] w1 fun e w'=>e=.returned (.bool true)∧Below w1.heap.size w1 w')
    (hD:∀ w1,Calls Tryz.prog 26 #[.int .i64 kk,.int .i64 hw] w1 (OutF w1 ls X))
    (hF:∀ w1 f,Below w.heap.size w w1→FnV w1 f ls X→Calls Tryz.prog 25 #[.slice (some ⟨b,o,none⟩) n c,.int .i64 (q:Int),f] w1 (OutL R w1)) :
    Calls Tryz.prog 7 #[.slice (some ⟨b,o,none⟩) n c,.agg #[.int .i64 (q:Int),.int .i64 hw]] w fun e w'=>∃ y,e=.returned (.tuple #[y,.string nm,.int .i64 0])∧Nds w' y R∧Below w.heap.size w w':=by
  unfold OutF at hD;unfold OutL at hF;have HI:=Lib.hid hI;have HD:=Lib.hid hD;have HF:=Lib.hid hF;have D0:=Lib.hid (below1 w (.cells #[.int .i64 (q:Int),.int .i64 hw] 24));have CM0:=Lib.hid (bm_keep3 (Bm.new w ⟨(q:Int),hw⟩));obtain ⟨bM,hbM⟩:∃ bM,w.heap.size=bM:=⟨_,rfl⟩
  obtain ⟨w0,hw0⟩:∃ w0,w.alloc (.cells #[.int .i64 (q:Int),.int .i64 hw] 24)=w0:=⟨_,rfl⟩
  change Hid (∀ w',Below (w.alloc (.cells #[.int .i64 (q:Int),.int .i64 hw] 24)).heap.size (w.alloc (.cells #[.int .i64 (q:Int),.int .i64 hw] 24)) w'→w'.cell? ⟨w.heap.size,0,none⟩=some (.int .i64 (q:Int))∧w'.cell? ⟨w.heap.size,1,none⟩=some (.int .i64 hw)) at CM0;rw [hw0] at D0;have CA0:=Lib.hid (fun (w':World) (hb:Below w0.heap.size w0 w')=>hA w' (D0.out.trans (hb.mono D0.out.size)));rw [hbM,hw0] at CM0;obtain ⟨c0,c1⟩:=CM0.out w0 (Below.refl _ _);have hq2:(q:Int) < (n:Int):=by omega
  clear hI hD hF hA
  go_enter Tryz.func7,Tryz.ntmps7
  go_wp2_with fail;refine (HI.out _ D0.out).mono ?_;rintro e w4 ⟨rfl,hb4⟩;have D4:=Lib.hid (D0.out.trans (hb4.mono D0.out.size));have CM:=Lib.hid (fun (w':World) (hb:Below w4.heap.size w4 w')=>CM0.out w' (hb4.trans (Below.mono hb hb4.size)));have CA:=Lib.hid (fun (w':World) (hb:Below w4.heap.size w4 w')=>CA0.out w' (hb4.trans (Below.mono hb hb4.size)));clear hb4 CM0 CA0 c0 c1 hbM hw0 HI;go_wp2_with fail;refine Rg.wp_region_kept (by kernel_rfl) [(0,some 11),(1,some 12),(2,some 13),(3,some 14),(4,some 15),(5,some 16),(6,some 17),(7,some 18),(8,some 19),(9,some 20),(10,some 21),(11,some 22),(12,some 23),(13,some 24),(14,some 25),(15,some 26),(16,some 27),(17,some 28),(18,some 29),(19,some 4),(20,some 5),(21,some 6)] (by rfl) (by kernel_rfl) (by kernel_rfl) (fun w'=>Below w4.heap.size w4 w') (RPx b o c n q bM kk hw nm ls X R) (Below.refl _ _).drew ?_ ⟨⟨⟨⟨⟨⟨⟨⟨⟨⟨⟨⟨⟨⟨⟨⟨⟨⟨⟨⟨⟨⟨True.intro,?_⟩,?_⟩,?_⟩,?_⟩,?_⟩,?_⟩,?_⟩,?_⟩,?_⟩,?_⟩,?_⟩,?_⟩,?_⟩,?_⟩,?_⟩,?_⟩,?_⟩,?_⟩,?_⟩,?_⟩,?_⟩,?_⟩ ?_
  · intro k v w' hk;unfold RPx
    split
    case h_23=>trivial
    all_goals exact absurd hk (by decide)
  · intro o ho f us wl al ha g hf hdep K hKf;obtain rfl:=Option.some.inj ho;have hB:=g.1;have hK:∀ v w',RPx b o c n q bM kk hw nm ls X R 0 v w'→Below wl.heap.size wl w'→K (al.put (some 11) v) w':=fun v w' hv hb=>hKf v w' (RPx.put g hb hv)
    have e0:al.tmps[0]?.getD undef=.slice (some ⟨b,o,none⟩) n c:=by rw [← Rg.eval_getD,ha]; exact (Rg.puts_eval_ne _ _ _ (by rfl)).trans rfl
    have HB:=Lib.hid hB;clear ha hdep g hf hKf hB;refine Rg.wpOp_of rfl rfl ?_;go_simp;exact hK _ _ rfl (Below.refl _ _)
  · intro o ho f us wl al ha g hf hdep K hKf;obtain rfl:=Option.some.inj ho;have hB:=g.1;have hK:∀ v w',RPx b o c n q bM kk hw nm ls X R 1 v w'→Below wl.heap.size wl w'→K (al.put (some 12) v) w':=fun v w' hv hb=>hKf v w' (RPx.put g hb hv)
    have e3:al.tmps[3]?.getD undef=.pointer (some ⟨bM,0,none⟩):=by rw [← Rg.eval_getD,ha]; exact (Rg.puts_eval_ne _ _ _ (by rfl)).trans rfl
    have HB:=Lib.hid hB;clear ha hdep g hf hKf hB;refine Rg.wpOp_of rfl rfl ?_;go_simp;exact hK _ _ rfl (Below.refl _ _)
  · intro o ho f us wl al ha g hf hdep K hKf;obtain rfl:=Option.some.inj ho;have hB:=g.1;have hK:∀ v w',RPx b o c n q bM kk hw nm ls X R 2 v w'→Below wl.heap.size wl w'→K (al.put (some 13) v) w':=fun v w' hv hb=>hKf v w' (RPx.put g hb hv)
    have d1:RPx b o c n q bM kk hw nm ls X R 1 (us 1) wl:=g.2 1 (hdep ⟨1,.data⟩ (by simp) rfl);have e12:al.tmps[12]?.getD undef=us 1:=by rw [← Rg.eval_getD,ha]; exact Rg.puts_eval _ _ _ (by rfl) (by simp) (by simp)
    have f1:us 1=.pointer (some ⟨bM,0,none⟩):=d1;obtain ⟨c0,c1⟩:=CM.out _ hB;have HB:=Lib.hid hB;clear ha hdep g hf hKf d1 hB;refine Rg.wpOp_of rfl rfl ?_;go_simp;exact hK _ _ rfl (Below.refl _ _)
  · intro o ho f us wl al ha g hf hdep K hKf;obtain rfl:=Option.some.inj ho;have hB:=g.1;have hK:∀ v w',RPx b o c n q bM kk hw nm ls X R 3 v w'→Below wl.heap.size wl w'→K (al.put (some 14) v) w':=fun v w' hv hb=>hKf v w' (RPx.put g hb hv)
    have e0:al.tmps[0]?.getD undef=.slice (some ⟨b,o,none⟩) n c:=by rw [← Rg.eval_getD,ha]; exact (Rg.puts_eval_ne _ _ _ (by rfl)).trans rfl
    have HB:=Lib.hid hB;clear ha hdep g hf hKf hB;refine Rg.wpOp_of rfl rfl ?_;go_simp;exact hK _ _ rfl (Below.refl _ _)
  · intro o ho f us wl al ha g hf hdep K hKf;obtain rfl:=Option.some.inj ho;have hB:=g.1;have hK:∀ v w',RPx b o c n q bM kk hw nm ls X R 4 v w'→Below wl.heap.size wl w'→K (al.put (some 15) v) w':=fun v w' hv hb=>hKf v w' (RPx.put g hb hv)
    have e3:al.tmps[3]?.getD undef=.pointer (some ⟨bM,0,none⟩):=by rw [← Rg.eval_getD,ha]; exact (Rg.puts_eval_ne _ _ _ (by rfl)).trans rfl
    have HB:=Lib.hid hB;clear ha hdep g hf hKf hB;refine Rg.wpOp_of rfl rfl ?_;go_simp;exact hK _ _ rfl (Below.refl _ _)
  · intro o ho f us wl al ha g hf hdep K hKf;obtain rfl:=Option.some.inj ho;have hB:=g.1;have hK:∀ v w',RPx b o c n q bM kk hw nm ls X R 5 v w'→Below wl.heap.size wl w'→K (al.put (some 16) v) w':=fun v w' hv hb=>hKf v w' (RPx.put g hb hv)
    have d4:RPx b o c n q bM kk hw nm ls X R 4 (us 4) wl:=g.2 4 (hdep ⟨4,.data⟩ (by simp) rfl);have e15:al.tmps[15]?.getD undef=us 4:=by rw [← Rg.eval_getD,ha]; exact Rg.puts_eval _ _ _ (by rfl) (by simp) (by simp)
    have f4:us 4=.pointer (some ⟨bM,0,none⟩):=d4;obtain ⟨c0,c1⟩:=CM.out _ hB;have HB:=Lib.hid hB;clear ha hdep g hf hKf d4 hB;refine Rg.wpOp_of rfl rfl ?_;go_simp;exact hK _ _ rfl (Below.refl _ _)
  · intro o ho f us wl al ha g hf hdep K hKf;obtain rfl:=Option.some.inj ho;have hB:=g.1;have hK:∀ v w',RPx b o c n q bM kk hw nm ls X R 6 v w'→Below wl.heap.size wl w'→K (al.put (some 17) v) w':=fun v w' hv hb=>hKf v w' (RPx.put g hb hv)
    have d3:RPx b o c n q bM kk hw nm ls X R 3 (us 3) wl:=g.2 3 (hdep ⟨3,.data⟩ (by simp) rfl);have e14:al.tmps[14]?.getD undef=us 3:=by rw [← Rg.eval_getD,ha]; exact Rg.puts_eval _ _ _ (by rfl) (by simp) (by simp)
    have d5:RPx b o c n q bM kk hw nm ls X R 5 (us 5) wl:=g.2 5 (hdep ⟨5,.data⟩ (by simp) rfl);have e16:al.tmps[16]?.getD undef=us 5:=by rw [← Rg.eval_getD,ha]; exact Rg.puts_eval _ _ _ (by rfl) (by simp) (by simp)
    have f3:us 3=.slice (some ⟨b,o,none⟩) n c:=d3;have f5:us 5=.int .i64 (q:Int):=d5;have HB:=Lib.hid hB;clear ha hdep g hf hKf d3 d5 hB;refine Rg.wpOp_of rfl rfl ?_;go_simp;exact hK _ _ rfl (Below.refl _ _)
  · intro o ho f us wl al ha g hf hdep K hKf;obtain rfl:=Option.some.inj ho;have hB:=g.1;have hK:∀ v w',RPx b o c n q bM kk hw nm ls X R 7 v w'→Below wl.heap.size wl w'→K (al.put (some 18) v) w':=fun v w' hv hb=>hKf v w' (RPx.put g hb hv)
    have d6:RPx b o c n q bM kk hw nm ls X R 6 (us 6) wl:=g.2 6 (hdep ⟨6,.data⟩ (by simp) rfl);have e17:al.tmps[17]?.getD undef=us 6:=by rw [← Rg.eval_getD,ha]; exact Rg.puts_eval _ _ _ (by rfl) (by simp) (by simp)
    have f6:us 6=.pointer (some ⟨b,o+q*3,none⟩):=d6;have HB:=Lib.hid hB;clear ha hdep g hf hKf d6 hB;refine Rg.wpOp_of rfl rfl ?_;go_simp;exact hK _ _ rfl (Below.refl _ _)
  · intro o ho f us wl al ha g hf hdep K hKf;obtain rfl:=Option.some.inj ho;have hB:=g.1;have hK:∀ v w',RPx b o c n q bM kk hw nm ls X R 8 v w'→Below wl.heap.size wl w'→K (al.put (some 19) v) w':=fun v w' hv hb=>hKf v w' (RPx.put g hb hv)
    have d7:RPx b o c n q bM kk hw nm ls X R 7 (us 7) wl:=g.2 7 (hdep ⟨7,.data⟩ (by simp) rfl);have e18:al.tmps[18]?.getD undef=us 7:=by rw [← Rg.eval_getD,ha]; exact Rg.puts_eval _ _ _ (by rfl) (by simp) (by simp)
    have f7:us 7=.pointer (some ⟨b,o+q*3,none⟩):=d7;obtain ⟨g0,g1⟩:=CA.out _ hB;have HB:=Lib.hid hB;clear ha hdep g hf hKf d7 hB;refine Rg.wpOp_of rfl rfl ?_;go_simp;exact hK _ _ rfl (Below.refl _ _)
  · intro o ho f us wl al ha g hf hdep K hKf;obtain rfl:=Option.some.inj ho;have hB:=g.1;have hK:∀ v w',RPx b o c n q bM kk hw nm ls X R 9 v w'→Below wl.heap.size wl w'→K (al.put (some 20) v) w':=fun v w' hv hb=>hKf v w' (RPx.put g hb hv)
    have e3:al.tmps[3]?.getD undef=.pointer (some ⟨bM,0,none⟩):=by rw [← Rg.eval_getD,ha]; exact (Rg.puts_eval_ne _ _ _ (by rfl)).trans rfl
    have HB:=Lib.hid hB;clear ha hdep g hf hKf hB;refine Rg.wpOp_of rfl rfl ?_;go_simp;exact hK _ _ rfl (Below.refl _ _)
  · intro o ho f us wl al ha g hf hdep K hKf;obtain rfl:=Option.some.inj ho;have hB:=g.1;have hK:∀ v w',RPx b o c n q bM kk hw nm ls X R 10 v w'→Below wl.heap.size wl w'→K (al.put (some 21) v) w':=fun v w' hv hb=>hKf v w' (RPx.put g hb hv)
    have d9:RPx b o c n q bM kk hw nm ls X R 9 (us 9) wl:=g.2 9 (hdep ⟨9,.data⟩ (by simp) rfl);have e20:al.tmps[20]?.getD undef=us 9:=by rw [← Rg.eval_getD,ha]; exact Rg.puts_eval _ _ _ (by rfl) (by simp) (by simp)
    have f9:us 9=.pointer (some ⟨bM,1,none⟩):=d9;obtain ⟨c0,c1⟩:=CM.out _ hB;have HB:=Lib.hid hB;clear ha hdep g hf hKf d9 hB;refine Rg.wpOp_of rfl rfl ?_;go_simp;exact hK _ _ rfl (Below.refl _ _)
  · intro o ho f us wl al ha g hf hdep K hKf;obtain rfl:=Option.some.inj ho;have hB:=g.1;have hK:∀ v w',RPx b o c n q bM kk hw nm ls X R 11 v w'→Below wl.heap.size wl w'→K (al.put (some 22) v) w':=fun v w' hv hb=>hKf v w' (RPx.put g hb hv)
    have d8:RPx b o c n q bM kk hw nm ls X R 8 (us 8) wl:=g.2 8 (hdep ⟨8,.data⟩ (by simp) rfl);have e19:al.tmps[19]?.getD undef=us 8:=by rw [← Rg.eval_getD,ha]; exact Rg.puts_eval _ _ _ (by rfl) (by simp) (by simp)
    have d10:RPx b o c n q bM kk hw nm ls X R 10 (us 10) wl:=g.2 10 (hdep ⟨10,.data⟩ (by simp) rfl);have e21:al.tmps[21]?.getD undef=us 10:=by rw [← Rg.eval_getD,ha]; exact Rg.puts_eval _ _ _ (by rfl) (by simp) (by simp)
    have f8:us 8=.int .i64 kk:=d8;have f10:us 10=.int .i64 hw:=d10;have HB:=Lib.hid hB;clear ha hdep g hf hKf d8 d10 hB;refine Rg.wpOp_of rfl rfl ?_;go_simp;refine (HD.out _).mono ?_;rintro e wn ⟨f,rfl,hf,hb⟩;exact hK _ _ hf hb
  · intro o ho f us wl al ha g hf hdep K hKf;obtain rfl:=Option.some.inj ho;have hB:=g.1;have hK:∀ v w',RPx b o c n q bM kk hw nm ls X R 12 v w'→Below wl.heap.size wl w'→K (al.put (some 23) v) w':=fun v w' hv hb=>hKf v w' (RPx.put g hb hv)
    have d0:RPx b o c n q bM kk hw nm ls X R 0 (us 0) wl:=g.2 0 (hdep ⟨0,.data⟩ (by simp) rfl);have e11:al.tmps[11]?.getD undef=us 0:=by rw [← Rg.eval_getD,ha]; exact Rg.puts_eval _ _ _ (by rfl) (by simp) (by simp)
    have d2:RPx b o c n q bM kk hw nm ls X R 2 (us 2) wl:=g.2 2 (hdep ⟨2,.data⟩ (by simp) rfl);have e13:al.tmps[13]?.getD undef=us 2:=by rw [← Rg.eval_getD,ha]; exact Rg.puts_eval _ _ _ (by rfl) (by simp) (by simp)
    have d11:RPx b o c n q bM kk hw nm ls X R 11 (us 11) wl:=g.2 11 (hdep ⟨11,.data⟩ (by simp) rfl);have e22:al.tmps[22]?.getD undef=us 11:=by rw [← Rg.eval_getD,ha]; exact Rg.puts_eval _ _ _ (by rfl) (by simp) (by simp)
    have f0:us 0=.slice (some ⟨b,o,none⟩) n c:=d0;have f2:us 2=.int .i64 (q:Int):=d2;have D11:Hid (FnV wl (us 11) ls X):=d11;have HB:=Lib.hid hB;clear ha hdep g hf hKf d0 d2 d11 hB;refine Rg.wpOp_of rfl rfl ?_;go_simp;refine (HF.out _ _ (D4.out.trans (HB.out.mono D4.out.size)) D11.out).mono ?_;rintro e wn ⟨y,rfl,hy,hb⟩;exact hK _ _ hy hb
  · intro o ho f us wl al ha g hf hdep K hKf;obtain rfl:=Option.some.inj ho;have hB:=g.1;have hK:∀ v w',RPx b o c n q bM kk hw nm ls X R 13 v w'→Below wl.heap.size wl w'→K (al.put (some 24) v) w':=fun v w' hv hb=>hKf v w' (RPx.put g hb hv)
    have e0:al.tmps[0]?.getD undef=.slice (some ⟨b,o,none⟩) n c:=by rw [← Rg.eval_getD,ha]; exact (Rg.puts_eval_ne _ _ _ (by rfl)).trans rfl
    have HB:=Lib.hid hB;clear ha hdep g hf hKf hB;refine Rg.wpOp_of rfl rfl ?_;go_simp;exact hK _ _ rfl (Below.refl _ _)
  · intro o ho f us wl al ha g hf hdep K hKf;obtain rfl:=Option.some.inj ho;have hB:=g.1;have hK:∀ v w',RPx b o c n q bM kk hw nm ls X R 14 v w'→Below wl.heap.size wl w'→K (al.put (some 25) v) w':=fun v w' hv hb=>hKf v w' (RPx.put g hb hv)
    have e3:al.tmps[3]?.getD undef=.pointer (some ⟨bM,0,none⟩):=by rw [← Rg.eval_getD,ha]; exact (Rg.puts_eval_ne _ _ _ (by rfl)).trans rfl
    have HB:=Lib.hid hB;clear ha hdep g hf hKf hB;refine Rg.wpOp_of rfl rfl ?_;go_simp;exact hK _ _ rfl (Below.refl _ _)
  · intro o ho f us wl al ha g hf hdep K hKf;obtain rfl:=Option.some.inj ho;have hB:=g.1;have hK:∀ v w',RPx b o c n q bM kk hw nm ls X R 15 v w'→Below wl.heap.size wl w'→K (al.put (some 26) v) w':=fun v w' hv hb=>hKf v w' (RPx.put g hb hv)
    have d14:RPx b o c n q bM kk hw nm ls X R 14 (us 14) wl:=g.2 14 (hdep ⟨14,.data⟩ (by simp) rfl);have e25:al.tmps[25]?.getD undef=us 14:=by rw [← Rg.eval_getD,ha]; exact Rg.puts_eval _ _ _ (by rfl) (by simp) (by simp)
    have f14:us 14=.pointer (some ⟨bM,0,none⟩):=d14;obtain ⟨c0,c1⟩:=CM.out _ hB;have HB:=Lib.hid hB;clear ha hdep g hf hKf d14 hB;refine Rg.wpOp_of rfl rfl ?_;go_simp;exact hK _ _ rfl (Below.refl _ _)
  · intro o ho f us wl al ha g hf hdep K hKf;obtain rfl:=Option.some.inj ho;have hB:=g.1;have hK:∀ v w',RPx b o c n q bM kk hw nm ls X R 16 v w'→Below wl.heap.size wl w'→K (al.put (some 27) v) w':=fun v w' hv hb=>hKf v w' (RPx.put g hb hv)
    have d13:RPx b o c n q bM kk hw nm ls X R 13 (us 13) wl:=g.2 13 (hdep ⟨13,.data⟩ (by simp) rfl);have e24:al.tmps[24]?.getD undef=us 13:=by rw [← Rg.eval_getD,ha]; exact Rg.puts_eval _ _ _ (by rfl) (by simp) (by simp)
    have d15:RPx b o c n q bM kk hw nm ls X R 15 (us 15) wl:=g.2 15 (hdep ⟨15,.data⟩ (by simp) rfl);have e26:al.tmps[26]?.getD undef=us 15:=by rw [← Rg.eval_getD,ha]; exact Rg.puts_eval _ _ _ (by rfl) (by simp) (by simp)
    have f13:us 13=.slice (some ⟨b,o,none⟩) n c:=d13;have f15:us 15=.int .i64 (q:Int):=d15;have HB:=Lib.hid hB;clear ha hdep g hf hKf d13 d15 hB;refine Rg.wpOp_of rfl rfl ?_;go_simp;exact hK _ _ rfl (Below.refl _ _)
  · intro o ho f us wl al ha g hf hdep K hKf;obtain rfl:=Option.some.inj ho;have hB:=g.1;have hK:∀ v w',RPx b o c n q bM kk hw nm ls X R 17 v w'→Below wl.heap.size wl w'→K (al.put (some 28) v) w':=fun v w' hv hb=>hKf v w' (RPx.put g hb hv)
    have d16:RPx b o c n q bM kk hw nm ls X R 16 (us 16) wl:=g.2 16 (hdep ⟨16,.data⟩ (by simp) rfl);have e27:al.tmps[27]?.getD undef=us 16:=by rw [← Rg.eval_getD,ha]; exact Rg.puts_eval _ _ _ (by rfl) (by simp) (by simp)
    have f16:us 16=.pointer (some ⟨b,o+q*3,none⟩):=d16;have HB:=Lib.hid hB;clear ha hdep g hf hKf d16 hB;refine Rg.wpOp_of rfl rfl ?_;go_simp;exact hK _ _ rfl (Below.refl _ _)
  · intro o ho f us wl al ha g hf hdep K hKf;obtain rfl:=Option.some.inj ho;have hB:=g.1;have hK:∀ v w',RPx b o c n q bM kk hw nm ls X R 18 v w'→Below wl.heap.size wl w'→K (al.put (some 29) v) w':=fun v w' hv hb=>hKf v w' (RPx.put g hb hv)
    have d17:RPx b o c n q bM kk hw nm ls X R 17 (us 17) wl:=g.2 17 (hdep ⟨17,.data⟩ (by simp) rfl);have e28:al.tmps[28]?.getD undef=us 17:=by rw [← Rg.eval_getD,ha]; exact Rg.puts_eval _ _ _ (by rfl) (by simp) (by simp)
    have f17:us 17=.pointer (some ⟨b,o+q*3+1,none⟩):=d17;obtain ⟨g0,g1⟩:=CA.out _ hB;have HB:=Lib.hid hB;clear ha hdep g hf hKf d17 hB;refine Rg.wpOp_of rfl rfl ?_;go_simp;exact hK _ _ rfl (Below.refl _ _)
  · intro o ho f us wl al ha g hf hdep K hKf;obtain rfl:=Option.some.inj ho;have hB:=g.1;have hK:∀ v w',RPx b o c n q bM kk hw nm ls X R 19 v w'→Below wl.heap.size wl w'→K (al.put (some 4) v) w':=fun v w' hv hb=>hKf v w' (RPx.put g hb hv)
    have d12:RPx b o c n q bM kk hw nm ls X R 12 (us 12) wl:=g.2 12 (hdep ⟨12,.data⟩ (by simp) rfl);have e23:al.tmps[23]?.getD undef=us 12:=by rw [← Rg.eval_getD,ha]; exact Rg.puts_eval _ _ _ (by rfl) (by simp) (by simp)
    have D12:Hid (Nds wl (us 12) R):=d12;have HB:=Lib.hid hB;clear ha hdep g hf hKf d12 hB;refine Rg.wpOp_of rfl rfl ?_;go_simp;exact hK _ _ D12.out (Below.refl _ _)
  · intro o ho f us wl al ha g hf hdep K hKf;obtain rfl:=Option.some.inj ho;have hB:=g.1;have hK:∀ v w',RPx b o c n q bM kk hw nm ls X R 20 v w'→Below wl.heap.size wl w'→K (al.put (some 5) v) w':=fun v w' hv hb=>hKf v w' (RPx.put g hb hv)
    have d18:RPx b o c n q bM kk hw nm ls X R 18 (us 18) wl:=g.2 18 (hdep ⟨18,.data⟩ (by simp) rfl);have e29:al.tmps[29]?.getD undef=us 18:=by rw [← Rg.eval_getD,ha]; exact Rg.puts_eval _ _ _ (by rfl) (by simp) (by simp)
    have f18:us 18=.string nm:=d18;have HB:=Lib.hid hB;clear ha hdep g hf hKf d18 hB;refine Rg.wpOp_of rfl rfl ?_;go_simp;exact hK _ _ rfl (Below.refl _ _)
  · intro o ho f us wl al ha g hf hdep K hKf;obtain rfl:=Option.some.inj ho;have hB:=g.1;have hK:∀ v w',RPx b o c n q bM kk hw nm ls X R 21 v w'→Below wl.heap.size wl w'→K (al.put (some 6) v) w':=fun v w' hv hb=>hKf v w' (RPx.put g hb hv)
    have HB:=Lib.hid hB;clear ha hdep g hf hKf hB;refine Rg.wpOp_of rfl rfl ?_;go_simp;exact hK _ _ rfl (Below.refl _ _)
  · intro us wz hB hR;have hr:Nds wz (us 19) R:=hR 19;have f1:us 20=.string nm:=hR 20;have f2:us 21=.int .i64 0:=hR 21;have DZ:=Lib.hid (D4.out.trans (hB.mono D4.out.size));have NZ:=Lib.hid hr;simp only [Rg.puts,Act.put,List.setIfInBounds_toArray,List.set_cons_zero,List.set_cons_succ,f1,f2];clear hB hR;generalize us 19=y at *;obtain ⟨_,ay,cy,rfl,-⟩:=id hr;clear hr;go_wp2_with fail
    go_ret3
    exact ⟨_,rfl,NZ.out,DZ.out⟩
def RPf (b o c n q bM:Nat) (ls:LL) (R:List Nd) (k:Nat) (v:Value) (w':World):Prop:=match k with
  | 0=>v=.slice (some ⟨b,o,none⟩) n c
  | 1=>v=.pointer (some ⟨bM,0,none⟩)
  | 2=>v=.int .i64 (q:Int)
  | 3=>v=.agg #[.int .i64 3,.string ⟨#[]⟩,.int .i64 0]
  | 4=>Nds w' v [nOf 3]
  | 5=>FnV w' v ls [nOf 3]
  | 6=>Nds w' v R
  | 7=>Nds w' v R
  | 8=>v=.int .i64 0
  | _=>True
theorem RPf.below {b o c n q bM:Nat} {ls:LL} {R:List Nd} {k:Nat} {v:Value} {w w':World} (h:RPf b o c n q bM ls R k v w) (hb:Below w.heap.size w w'):RPf b o c n q bM ls R k v w':=by
  unfold RPf at h ⊢
  split at h
  case h_5=>exact Nds.below h hb
  case h_6=>exact FnV.below h hb
  case h_7=>exact Nds.below h hb
  case h_8=>exact Nds.below h hb
  all_goals exact h
theorem RPf.put {w4:World} {b o c n q bM:Nat} {ls:LL} {R:List Nd} {v:Value} {w w':World} {f:Nat→Bool} {us:Nat→Value} {i:Nat} (g:Rg.Kept (fun w'=>Below w4.heap.size w4 w') (RPf b o c n q bM ls R) f us w) (hb:Below w.heap.size w w') (hv:RPf b o c n q bM ls R i v w') :
    Rg.Kept (fun w'=>Below w4.heap.size w4 w') (RPf b o c n q bM ls R) (Rg.upd f i true) (Rg.upd us i v) w':=
  Rg.Kept.put (Base:=fun w'=>Below w4.heap.size w4 w') (R:=RPf b o c n q bM ls R) (fun _ _ h hb=>h.trans (hb.mono h.size)) (fun _ _ _ _ h hb=>RPf.below h hb) g hb hv
set_option maxHeartbeats 8000000 in
theorem refuse_core (b o c n q:Nat) (ls:List (List Nd)) (R:List Nd) (w:World)
    (hI:∀ w1,Below w.heap.size w w1→Calls Tryz.prog 24 #[.slice (some ⟨b,o,none⟩) n c,.agg #[.int .i64 (q:Int),.int .i64 1]] w1 fun e w'=>e=.returned (.bool true)∧Below w1.heap.size w1 w')
    (hF:∀ w1 f,Below w.heap.size w w1→FnV w1 f ls [nOf 3]→Calls Tryz.prog 25 #[.slice (some ⟨b,o,none⟩) n c,.int .i64 (q:Int),f] w1 (OutL R w1)) :
    Calls Tryz.prog 9 #[.slice (some ⟨b,o,none⟩) n c,.agg #[.int .i64 (q:Int),.int .i64 1]] w fun e w'=>∃ y,e=.returned (.tuple #[y,.int .i64 0])∧Nds w' y R∧Below w.heap.size w w':=by
  unfold OutL at hF;have HI:=Lib.hid hI;have HD:=Lib.hid (fun s w1 hs=>always_any s [nOf 3] ls w1 hs);unfold OutF at HD;have HF:=Lib.hid hF;have D0:=Lib.hid (below1 w (.cells #[.int .i64 (q:Int),.int .i64 1] 24));have CM0:=Lib.hid (bm_keep3 (Bm.new w ⟨(q:Int),1⟩));obtain ⟨bM,hbM⟩:∃ bM,w.heap.size=bM:=⟨_,rfl⟩
  obtain ⟨w0,hw0⟩:∃ w0,w.alloc (.cells #[.int .i64 (q:Int),.int .i64 1] 24)=w0:=⟨_,rfl⟩
  change Hid (∀ w',Below (w.alloc (.cells #[.int .i64 (q:Int),.int .i64 1] 24)).heap.size (w.alloc (.cells #[.int .i64 (q:Int),.int .i64 1] 24)) w'→w'.cell? ⟨w.heap.size,0,none⟩=some (.int .i64 (q:Int))∧w'.cell? ⟨w.heap.size,1,none⟩=some (.int .i64 1)) at CM0;rw [hw0] at D0;rw [hbM,hw0] at CM0;obtain ⟨c0,c1⟩:=CM0.out w0 (Below.refl _ _);clear hI hF
  go_enter Tryz.func9,Tryz.ntmps9
  go_wp2_with fail;refine (HI.out _ D0.out).mono ?_;rintro e w4 ⟨rfl,hb4⟩;have D4:=Lib.hid (D0.out.trans (hb4.mono D0.out.size));have CM:=Lib.hid (fun (w':World) (hb:Below w4.heap.size w4 w')=>CM0.out w' (hb4.trans (Below.mono hb hb4.size)));clear hb4 CM0 c0 c1 hbM hw0 HI;go_wp2_with fail;refine Rg.wp_region_kept (by kernel_rfl) [(0,some 15),(1,some 16),(2,some 17),(3,some 18),(4,some 19),(5,some 20),(6,some 21),(7,some 4),(8,some 5)] (by rfl) (by kernel_rfl) (by kernel_rfl) (fun w'=>Below w4.heap.size w4 w') (RPf b o c n q bM ls R) (Below.refl _ _).drew ?_ ⟨⟨⟨⟨⟨⟨⟨⟨⟨True.intro,?_⟩,?_⟩,?_⟩,?_⟩,?_⟩,?_⟩,?_⟩,?_⟩,?_⟩ ?_
  · intro k v w' hk;unfold RPf
    split
    case h_10=>trivial
    all_goals exact absurd hk (by decide)
  · intro o ho f us wl al ha g hf hdep K hKf;obtain rfl:=Option.some.inj ho;have hB:=g.1;have hK:∀ v w',RPf b o c n q bM ls R 0 v w'→Below wl.heap.size wl w'→K (al.put (some 15) v) w':=fun v w' hv hb=>hKf v w' (RPf.put g hb hv)
    have e0:al.tmps[0]?.getD undef=.slice (some ⟨b,o,none⟩) n c:=by rw [← Rg.eval_getD,ha]; exact (Rg.puts_eval_ne _ _ _ (by rfl)).trans rfl
    have HB:=Lib.hid hB;clear ha hdep g hf hKf hB;refine Rg.wpOp_of rfl rfl ?_;go_simp;exact hK _ _ rfl (Below.refl _ _)
  · intro o ho f us wl al ha g hf hdep K hKf;obtain rfl:=Option.some.inj ho;have hB:=g.1;have hK:∀ v w',RPf b o c n q bM ls R 1 v w'→Below wl.heap.size wl w'→K (al.put (some 16) v) w':=fun v w' hv hb=>hKf v w' (RPf.put g hb hv)
    have e3:al.tmps[3]?.getD undef=.pointer (some ⟨bM,0,none⟩):=by rw [← Rg.eval_getD,ha]; exact (Rg.puts_eval_ne _ _ _ (by rfl)).trans rfl
    have HB:=Lib.hid hB;clear ha hdep g hf hKf hB;refine Rg.wpOp_of rfl rfl ?_;go_simp;exact hK _ _ rfl (Below.refl _ _)
  · intro o ho f us wl al ha g hf hdep K hKf;obtain rfl:=Option.some.inj ho;have hB:=g.1;have hK:∀ v w',RPf b o c n q bM ls R 2 v w'→Below wl.heap.size wl w'→K (al.put (some 17) v) w':=fun v w' hv hb=>hKf v w' (RPf.put g hb hv)
    have d1:RPf b o c n q bM ls R 1 (us 1) wl:=g.2 1 (hdep ⟨1,.data⟩ (by simp) rfl);have e16:al.tmps[16]?.getD undef=us 1:=by rw [← Rg.eval_getD,ha]; exact Rg.puts_eval _ _ _ (by rfl) (by simp) (by simp)
    have f1:us 1=.pointer (some ⟨bM,0,none⟩):=d1;obtain ⟨c0,c1⟩:=CM.out _ hB;have HB:=Lib.hid hB;clear ha hdep g hf hKf d1 hB;refine Rg.wpOp_of rfl rfl ?_;go_simp;exact hK _ _ rfl (Below.refl _ _)
  · intro o ho f us wl al ha g hf hdep K hKf;obtain rfl:=Option.some.inj ho;have hB:=g.1;have hK:∀ v w',RPf b o c n q bM ls R 3 v w'→Below wl.heap.size wl w'→K (al.put (some 18) v) w':=fun v w' hv hb=>hKf v w' (RPf.put g hb hv)
    have HB:=Lib.hid hB;clear ha hdep g hf hKf hB;refine Rg.wpOp_of rfl rfl ?_;go_simp;exact hK _ _ rfl (Below.refl _ _)
  · intro o ho f us wl al ha g hf hdep K hKf;obtain rfl:=Option.some.inj ho;have hB:=g.1;have hK:∀ v w',RPf b o c n q bM ls R 4 v w'→Below wl.heap.size wl w'→K (al.put (some 19) v) w':=fun v w' hv hb=>hKf v w' (RPf.put g hb hv)
    have d3:RPf b o c n q bM ls R 3 (us 3) wl:=g.2 3 (hdep ⟨3,.data⟩ (by simp) rfl);have e18:al.tmps[18]?.getD undef=us 3:=by rw [← Rg.eval_getD,ha]; exact Rg.puts_eval _ _ _ (by rfl) (by simp) (by simp)
    have f3:us 3=.agg #[.int .i64 3,.string ⟨#[]⟩,.int .i64 0]:=d3;have HB:=Lib.hid hB;clear ha hdep g hf hKf d3 hB;refine Rg.wpOp_of rfl rfl ?_;go_simp;exact hK _ _ (Se.nds_new _ [nOf 3] _) (below1 _ _)
  · intro o ho f us wl al ha g hf hdep K hKf;obtain rfl:=Option.some.inj ho;have hB:=g.1;have hK:∀ v w',RPf b o c n q bM ls R 5 v w'→Below wl.heap.size wl w'→K (al.put (some 20) v) w':=fun v w' hv hb=>hKf v w' (RPf.put g hb hv)
    have d4:RPf b o c n q bM ls R 4 (us 4) wl:=g.2 4 (hdep ⟨4,.data⟩ (by simp) rfl);have e19:al.tmps[19]?.getD undef=us 4:=by rw [← Rg.eval_getD,ha]; exact Rg.puts_eval _ _ _ (by rfl) (by simp) (by simp)
    have D4:Hid (Nds wl (us 4) [nOf 3]):=d4;have HB:=Lib.hid hB;clear ha hdep g hf hKf d4 hB;refine Rg.wpOp_of rfl rfl ?_;go_simp;refine (HD.out _ _ D4.out).mono ?_;rintro e wn ⟨f,rfl,hf,hb⟩;exact hK _ _ hf hb
  · intro o ho f us wl al ha g hf hdep K hKf;obtain rfl:=Option.some.inj ho;have hB:=g.1;have hK:∀ v w',RPf b o c n q bM ls R 6 v w'→Below wl.heap.size wl w'→K (al.put (some 21) v) w':=fun v w' hv hb=>hKf v w' (RPf.put g hb hv)
    have d0:RPf b o c n q bM ls R 0 (us 0) wl:=g.2 0 (hdep ⟨0,.data⟩ (by simp) rfl);have e15:al.tmps[15]?.getD undef=us 0:=by rw [← Rg.eval_getD,ha]; exact Rg.puts_eval _ _ _ (by rfl) (by simp) (by simp)
    have d2:RPf b o c n q bM ls R 2 (us 2) wl:=g.2 2 (hdep ⟨2,.data⟩ (by simp) rfl);have e17:al.tmps[17]?.getD undef=us 2:=by rw [← Rg.eval_getD,ha]; exact Rg.puts_eval _ _ _ (by rfl) (by simp) (by simp)
    have d5:RPf b o c n q bM ls R 5 (us 5) wl:=g.2 5 (hdep ⟨5,.data⟩ (by simp) rfl);have e20:al.tmps[20]?.getD undef=us 5:=by rw [← Rg.eval_getD,ha]; exact Rg.puts_eval _ _ _ (by rfl) (by simp) (by simp)
    have f0:us 0=.slice (some ⟨b,o,none⟩) n c:=d0;have f2:us 2=.int .i64 (q:Int):=d2;have D5:Hid (FnV wl (us 5) ls [nOf 3]):=d5;have HB:=Lib.hid hB;clear ha hdep g hf hKf d0 d2 d5 hB;refine Rg.wpOp_of rfl rfl ?_;go_simp;refine (HF.out _ _ (D4.out.trans (HB.out.mono D4.out.size)) D5.out).mono ?_;rintro e wn ⟨y,rfl,hy,hb⟩;exact hK _ _ hy hb
  · intro o ho f us wl al ha g hf hdep K hKf;obtain rfl:=Option.some.inj ho;have hB:=g.1;have hK:∀ v w',RPf b o c n q bM ls R 7 v w'→Below wl.heap.size wl w'→K (al.put (some 4) v) w':=fun v w' hv hb=>hKf v w' (RPf.put g hb hv)
    have d6:RPf b o c n q bM ls R 6 (us 6) wl:=g.2 6 (hdep ⟨6,.data⟩ (by simp) rfl);have e21:al.tmps[21]?.getD undef=us 6:=by rw [← Rg.eval_getD,ha]; exact Rg.puts_eval _ _ _ (by rfl) (by simp) (by simp)
    have D6:Hid (Nds wl (us 6) R):=d6;have HB:=Lib.hid hB;clear ha hdep g hf hKf d6 hB;refine Rg.wpOp_of rfl rfl ?_;go_simp;exact hK _ _ D6.out (Below.refl _ _)
  · intro o ho f us wl al ha g hf hdep K hKf;obtain rfl:=Option.some.inj ho;have hB:=g.1;have hK:∀ v w',RPf b o c n q bM ls R 8 v w'→Below wl.heap.size wl w'→K (al.put (some 5) v) w':=fun v w' hv hb=>hKf v w' (RPf.put g hb hv)
    have HB:=Lib.hid hB;clear ha hdep g hf hKf hB;refine Rg.wpOp_of rfl rfl ?_;go_simp;exact hK _ _ rfl (Below.refl _ _)
  · intro us wz hB hR;have hr:Nds wz (us 7) R:=hR 7;have f2:us 8=.int .i64 0:=hR 8;have DZ:=Lib.hid (D4.out.trans (hB.mono D4.out.size));have NZ:=Lib.hid hr;simp only [Rg.puts,Act.put,List.setIfInBounds_toArray,List.set_cons_zero,List.set_cons_succ,f2];clear hB hR;generalize us 7=y at *;obtain ⟨_,ay,cy,rfl,-⟩:=id hr;clear hr;go_wp2_with fail;go_ret2;exact ⟨_,rfl,NZ.out,DZ.out⟩
end Go.Proofs.YtaapnkoooofalaaGreat.St

namespace Go.Proofs.YtaapnkoooofalaaGreat.St
open Go Go.RowKit Rw So Se Do Sp Me
set_option maxRecDepth 20000
theorem way_of {s u:Tm} {h:Int} {o:Option ByteArray} (k:Made s h o u) (q:List Nd):Way (kn (flat s++q) 0) h∧(kn (flat s++q) 0≠1→kn (flat s++q) 0≠4→(kids (flat s++q)).length=2)∧nmAt (flat s++q) 0=o.getD ⟨#[]⟩:=by
  have two:∀ (n:Nd) (a b:Tm),ar n.k=2→kids ((n::(flat a++flat b))++q)=[flat a,flat b]:=fun n a b hk=>by
    have:=kidsA_two (n:=n) a b q hk;rw [List.cons_append,List.append_assoc];exact this
  cases k with
  | act s=>exact ⟨.inl ⟨rfl,rfl⟩,fun h=>absurd rfl h,rfl⟩
  | altl _ b=>exact ⟨.inr (.inr (.inr (.inl ⟨rfl,rfl⟩))),fun _ _=>by rw [show flat (.alt u b)=nOf 6::(flat u++flat b) from rfl,two _ _ _ rfl]; rfl,rfl⟩
  | altr a _=>exact ⟨.inr (.inr (.inr (.inr (.inl ⟨rfl,rfl⟩)))),fun _ _=>by rw [show flat (.alt a u)=nOf 6::(flat a++flat u) from rfl,two _ _ _ rfl]; rfl,rfl⟩
  | yieldg=>exact ⟨.inr (.inl ⟨rfl,rfl⟩),fun _ h=>absurd rfl h,rfl⟩
  | yields=>exact ⟨.inr (.inr (.inl ⟨rfl,rfl⟩)),fun _ h=>absurd rfl h,rfl⟩
  | pairg a b=>exact ⟨.inr (.inr (.inr (.inr (.inr (.inl ⟨rfl,rfl⟩))))),fun _ _=>by rw [show flat (.pair a b)=nOf 10::(flat a++flat b) from rfl,two _ _ _ rfl]; rfl,rfl⟩
  | pairs a b=>exact ⟨.inr (.inr (.inr (.inr (.inr (.inr ⟨rfl,rfl⟩))))),fun _ _=>by rw [show flat (.pair a b)=nOf 10::(flat a++flat b) from rfl,two _ _ _ rfl]; rfl,rfl⟩
theorem kids_sum (l:List Nd):(kids l).flatten.length≤l.length:=by
  by_cases h:size l=0
  · rw [show kids l=[] from if_pos h]; simp
  · cases l with
    | nil=>exact absurd rfl h
    | cons n r=>
      have:=congrArg List.length (kids_flat h);rw [List.length_cons,List.length_take] at this;omega
theorem put_at (l:List Nd) (q:Nat) (x:List Nd) (hq:q < l.length):putR l (q:Int) x=putN l q x:=if_neg (by omega)
set_option maxHeartbeats 1000000 in
theorem nextP_no (v:Value) (l:List Nd) (m:Mv) (w:World) (hv:Nds w v l) (hl:l.length≤1000) (hm:Nms l) (h0:m∉enR l) :
    Calls Tryz.prog 7 #[v,mvV m] w fun e w'=>∃ y,e=.returned (.tuple #[y,.string (nxS l m),.int .i64 (nxE l m)])∧Nds w' y (nxL l m)∧Below w.heap.size w w':=by
  rw [show nxL l m=[] from if_neg h0,show nxS l m=⟨#[]⟩ from if_neg fun h=>h0 h.1,show nxE l m=120 from if_neg h0];have HI:=Lib.hid (fun w1 (hb:Below w.heap.size w w1)=>isP_any v l m w1 (hv.below hb) hl hm);rw [decide_eq_false h0] at HI;have D0:=Lib.hid (below1 w (.cells #[.int .i64 m.p,.int .i64 m.h] 24));obtain ⟨mp,mh⟩:=m;obtain ⟨_,a,c,rfl,-⟩:=id hv;clear hv hm h0
  go_enter Tryz.func7,Tryz.ntmps7
  go_wp2_with fail;refine (HI.out _ D0.out).mono ?_;rintro e w1 ⟨rfl,hb⟩;have D:=Lib.hid (D0.out.trans (hb.mono D0.out.size));clear hb;go_wp2_with fail
  go_ret3
  exact ⟨_,rfl,nds_nil _,D.out⟩
set_option maxHeartbeats 1000000 in
theorem refuseP_no (v:Value) (l:List Nd) (m:Mv) (w:World) (hv:Nds w v l) (hl:l.length≤1000) (hm:Nms l) (h0:¬ (m∈enR l∧m.h=1)) :
    Calls Tryz.prog 9 #[v,mvV m] w fun e w'=>∃ y,e=.returned (.tuple #[y,.int .i64 (rfE l m)])∧Nds w' y (rfL l m)∧Below w.heap.size w w':=by
  rw [show rfL l m=[] from if_neg h0,show rfE l m=120 from if_neg h0];have HI:=Lib.hid (fun w1 (hb:Below w.heap.size w w1)=>isP_any v l m w1 (hv.below hb) hl hm);have D0:=Lib.hid (below1 w (.cells #[.int .i64 m.p,.int .i64 m.h] 24));have CM:=Lib.hid (bm_keep3 (Bm.new w m));obtain ⟨_,a,c,rfl,-⟩:=id hv;obtain ⟨mp,mh⟩:=m;obtain ⟨c0,c1⟩:=CM.out _ (Below.refl _ _);change (w.alloc (.cells #[.int .i64 mp,.int .i64 mh] 24)).cell? ⟨w.heap.size,0,none⟩=some (.int .i64 mp) at c0;change (w.alloc (.cells #[.int .i64 mp,.int .i64 mh] 24)).cell? ⟨w.heap.size,1,none⟩=some (.int .i64 mh) at c1
  by_cases h1:mh=1
  · have h2:(⟨mp,mh⟩:Mv)∉enR l:=fun h=>h0 ⟨h,h1⟩
    rw [decide_eq_false h2] at HI;subst h1;clear hv hm h0 h2 CM
    go_enter Tryz.func9,Tryz.ntmps9
    go_wp2_with fail;refine (HI.out _ D0.out).mono ?_;rintro e w1 ⟨rfl,hb⟩;have D:=Lib.hid (D0.out.trans (hb.mono D0.out.size));clear hb;go_wp2_with fail;go_ret2;exact ⟨_,rfl,nds_nil _,D.out⟩
  · clear hv hm h0 CM HI;have hb:(mh != 1)=true:=bne_iff_ne.2 h1
    go_enter Tryz.func9,Tryz.ntmps9
    go_wp2_with fail;go_ret2;exact ⟨_,rfl,nds_nil _,D0.out⟩
theorem nextP_any (v:Value) (l:List Nd) (m:Mv) (w:World) (hv:Nds w v l) (hl:l.length≤1000) (hm:Nms l) :
    Calls Tryz.prog 7 #[v,mvV m] w fun e w'=>∃ y,e=.returned (.tuple #[y,.string (nxS l m),.int .i64 (nxE l m)])∧Nds w' y (nxL l m)∧Below w.heap.size w w':=by
  by_cases h0:m∈enR l
  · obtain ⟨t,rfl,hg,hn⟩:=en_set h0;obtain ⟨mo,h1,rfl⟩:=en_mo hg hn h0;obtain ⟨n1,n2,n3⟩:=nx_of hg hn h1;have hI:=fun w1 (hb:Below w.heap.size w w1)=>isP_any v (flat t) (mvOf mo) w1 (hv.below hb) hl hm
    rw [decide_eq_true h0] at hI;obtain ⟨pre,s,post,u,e1,e2,e3,hmd⟩:=mv_put t true 0 mo h1;obtain ⟨p1,p2⟩:=put_row pre (flat s) post (flat u) (tre_flat s);have hr:=mo_goes hg h1;have ht:=hg.2.1;have hr2:=hr.2.1;have l1:=congrArg List.length e1;have l3:=congrArg List.length e3;rw [Se.flat_len] at l1 l3;simp only [List.length_append,Se.flat_len] at l1 l3;have hq:pre.length < (flat t).length:=by rw [Se.flat_len,l1]; have:=sz_pos s; omega
    have e2':mo.p=pre.length:=by omega
    have ev:mvV (mvOf mo)=.agg #[.int .i64 (pre.length:Int),.int .i64 mo.h]:=by
      show Value.agg #[.int .i64 (mo.p:Int),.int .i64 mo.h]=_
      rw [e2']
    rw [n1,n2,n3,ev];rw [ev] at hI;obtain ⟨w1,w2,w3⟩:=way_of hmd post;have d1:(flat t).drop pre.length=flat s++post:=by rw [e1]; exact p2
    have pR:putR (flat t) (pre.length:Int) (flat u)=flat mo.r:=by rw [put_at _ _ _ hq,e1,p1,← e3]
    have hX:mdK (kids ((flat t).drop pre.length)) (kn (flat s++post) 0) mo.h=flat u:=by
      rw [d1,← mdR_K];exact md_made hmd post
    have hget:(flat t)[pre.length]?=(flat s++post)[0]?:=by
      rw [e1,List.getElem?_append_right (Nat.le_refl _),Nat.sub_self]
    have hk:(flat t)[pre.length].k=kn (flat s++post) 0∧(flat t)[pre.length].n=nmAt (flat s++post) 0:=by
      rw [List.getElem?_eq_getElem hq] at hget
      constructor
      · unfold kn;rw [show ((0:Int)).toNat=0 from rfl,← hget]
      · unfold nmAt;rw [← hget]
    rcases hv.form with ⟨hz,_⟩ | ⟨b,o,c,rfl,hc,hat⟩
    · rw [hz] at hq; simp at hq
    have hA:=at_keep hat pre.length hq;rw [hk.1,hk.2,w3] at hA;refine next_core b o c (flat t).length pre.length (kn (flat s++post) 0) mo.h (mo.l.getD ⟨#[]⟩) (kids ((flat t).drop pre.length)) (flat u) _ w hq hA hI ?_ ?_
    · intro wx
      have:=done_any (kn (flat s++post) 0) mo.h w1 (kids ((flat t).drop pre.length)) wx (by rw [d1]; exact w2) (by
        have:=kids_sum ((flat t).drop pre.length);rw [List.length_drop] at this;omega)
      rwa [hX] at this
    · intro wx f hb hf;have:=after_any _ f (flat t) (flat u) pre.length wx (hv.below hb) (by rw [Se.flat_len]; omega) (by rw [Se.flat_len]; omega) hq hf (by rw [pR]; exact nms_goes hr.1) (by rw [pR,Se.flat_len]; omega)
      rwa [pR,st_go hr] at this
  · exact nextP_no v l m w hv hl hm h0
theorem refuseP_any (v:Value) (l:List Nd) (m:Mv) (w:World) (hv:Nds w v l) (hl:l.length≤1000) (hm:Nms l) :
    Calls Tryz.prog 9 #[v,mvV m] w fun e w'=>∃ y,e=.returned (.tuple #[y,.int .i64 (rfE l m)])∧Nds w' y (rfL l m)∧Below w.heap.size w w':=by
  by_cases h0:m∈enR l∧m.h=1
  · have h0':=h0.1;obtain ⟨t,rfl,hg,hn⟩:=en_set h0';obtain ⟨mo,h1,rfl⟩:=en_mo hg hn h0';have hh:mo.h=1:=h0.2;obtain ⟨n1,n2⟩:=rf_of hg hn h1 hh;have hI:=fun w1 (hb:Below w.heap.size w w1)=>isP_any v (flat t) (mvOf mo) w1 (hv.below hb) hl hm
    rw [decide_eq_true h0'] at hI;obtain ⟨s,hs,_,hp,_⟩:=refused hn h1 hh;obtain ⟨pre,post,e1,e2⟩:=plug_row t 0 mo.p hp;have hsub:=plug_sub t 0 mo.p hp;have et:flat t=pre++(flat (sub t 0 mo.p)++post):=by rw [← e2,hsub]
    have hr:=rf_goes hg hp hs;have ht:=hg.2.1;have hr2:=hr.2.1;have l1:=congrArg List.length et;rw [Se.flat_len] at l1;simp only [List.length_append,Se.flat_len] at l1;have hq:pre.length < (flat t).length:=by rw [Se.flat_len,l1]; have:=sz_pos (sub t 0 mo.p); omega
    have e2':mo.p=pre.length:=by omega
    have ev:mvV (mvOf mo)=.agg #[.int .i64 (pre.length:Int),.int .i64 1]:=by
      show Value.agg #[.int .i64 (mo.p:Int),.int .i64 mo.h]=_
      rw [e2',hh]
    rw [n1,n2,ev];rw [ev] at hI
    have pR:putR (flat t) (pre.length:Int) [nOf 3]=flat (plug t 0 mo.p .throw):=by
      rw [put_at _ _ _ hq];have:=(put_row pre (flat (sub t 0 mo.p)) post [nOf 3] (tre_flat _)).1;rw [← et] at this;rw [this];exact (e2 .throw).symm
    rcases hv.form with ⟨hz,_⟩ | ⟨b,o,c,rfl,hc,hat⟩
    · rw [hz] at hq; simp at hq
    refine refuse_core b o c (flat t).length pre.length (kids ((flat t).drop pre.length)) _ w hI ?_;intro wx f hb hf;have:=after_any _ f (flat t) [nOf 3] pre.length wx (hv.below hb) (by rw [Se.flat_len]; omega) (by simp) hq hf (by rw [pR]; exact nms_goes hr.1) (by rw [pR,Se.flat_len]; omega)
    rwa [pR,st_go hr] at this
  · exact refuseP_no v l m w hv hl hm h0
theorem con:Con:=⟨putP_any,nextP_any,refuseP_any⟩
end Go.Proofs.YtaapnkoooofalaaGreat.St
