/- The document's Next, Refuse: the walks. A map whose elements read as themselves; an entry set by a composite literal. -/
import Derived.Test.YtaapnkoooofalaaGreatQ31
import Derived.Test.YtaapnkoooofalaaGreatQ32
import Derived.Test.YtaapnkoooofalaaGreatQ03
import Derived.OwnWalk
import Derived.Maps.Views
import Derived.Maps.OwnOps
import Derived.Deep.DeepCutAuto

namespace Go.Proofs.YtaapnkoooofalaaGreat.St
open Go Go.RowKit Rw So Se Do Sp Me
set_option maxRecDepth 20000
theorem at_drop {w:World} {b off:Nat} {l:List Nd} (h:At w b off l) (p:Nat):At w b (off+p*3) (l.drop p):=fun k hk=>by
  rw [List.length_drop] at hk;have:=h (p+k) (by omega);rw [List.getElem_drop,show off+p*3+k*3=off+(p+k)*3 by omega];exact this
theorem bm_keep {w:World} {b:Nat} {m:Mv} (h:Bm w b m):∀ w',Below w.heap.size w w'→w'.cell? ⟨b,0,none⟩=some (.int .i64 m.p)∧w'.cell? ⟨b,1,none⟩=some (.int .i64 m.h):=fun _ hb=>⟨(h.below hb h.lt).cells.1,(h.below hb h.lt).cells.2.1⟩
def RNx (b off n c p bM:Nat) (hh:Int) (nm:ByteArray) (U R Z:List Nd) (k:Nat) (v:Value) (w':World):Prop:=match k with
  | 0=>v=.slice (some ⟨b,off,none⟩) n c
  | 1=>v=.pointer (some ⟨bM,0,none⟩)
  | 2=>v=.int .i64 (p:Int)
  | 3=>v=.slice (some ⟨b,off,none⟩) n c
  | 4=>v=.pointer (some ⟨bM,0,none⟩)
  | 5=>v=.int .i64 (p:Int)
  | 6=>v=.slice (some ⟨b,off+p*3,none⟩) (n - p) (c - p)
  | 7=>v=.pointer (some ⟨bM,1,none⟩)
  | 8=>v=.int .i64 hh
  | 9=>Nds w' v U
  | 10=>Nds w' v R
  | 11=>Nds w' v Z
  | 12=>v=.string nm
  | 13=>Nds w' v Z
  | 14=>v=.string nm
  | 15=>v=.int .i64 0
  | _=>True
theorem RNx.below {b off n c p bM:Nat} {hh:Int} {nm:ByteArray} {U R Z:List Nd} {k:Nat} {v:Value} {w w':World} (h:RNx b off n c p bM hh nm U R Z k v w) (hb:Below w.heap.size w w'):RNx b off n c p bM hh nm U R Z k v w':=by
  unfold RNx at h ⊢
  split at h
  case h_10=>exact Nds.below h hb
  case h_11=>exact Nds.below h hb
  case h_12=>exact Nds.below h hb
  case h_14=>exact Nds.below h hb
  all_goals exact h
theorem RNx.put {w4:World} {b off n c p bM:Nat} {hh:Int} {nm:ByteArray} {U R Z:List Nd} {v:Value} {w w':World} {f:Nat→Bool} {us:Nat→Value} {i:Nat} (g:Rg.Kept (fun w'=>Below w4.heap.size w4 w') (RNx b off n c p bM hh nm U R Z) f us w) (hb:Below w.heap.size w w') (hv:RNx b off n c p bM hh nm U R Z i v w') :
    Rg.Kept (fun w'=>Below w4.heap.size w4 w') (RNx b off n c p bM hh nm U R Z) (Rg.upd f i true) (Rg.upd us i v) w':=
  Rg.Kept.put (Base:=fun w'=>Below w4.heap.size w4 w') (R:=RNx b off n c p bM hh nm U R Z) (fun _ _ h hb=>h.trans (hb.mono h.size)) (fun _ _ _ _ h hb=>RNx.below h hb) g hb hv
set_option maxHeartbeats 4000000 in
theorem next_go (b off c n p:Nat) (h:Int) (nm:ByteArray) (l U R Z:List Nd) (w:World) (hat:At w b off l) (hn:l.length=n) (hc:n≤c) (hp:p < n) (hnm:l[p].n=nm∨h≠1) (hem:h≠1→nm=⟨#[]⟩)
    (HI:∀ w1,Below w.heap.size w w1→Calls Tryz.prog 27 #[.slice (some ⟨b,off,none⟩) n c,mvV ⟨(p:Int),h⟩] w1 fun e w'=>e=.returned (.bool true)∧Below w1.heap.size w1 w')
    (hmd:∀ w1,Below w.heap.size w w1→Calls Tryz.prog 30 #[.slice (some ⟨b,off+p*3,none⟩) (n - p) (c - p),.int .i64 h] w1 fun e w'=>∃ y,e=.returned y∧Nds w' y U∧Below w1.heap.size w1 w')
    (hpu:∀ y w1,Below w.heap.size w w1→Nds w1 y U→Calls Tryz.prog 29 #[.slice (some ⟨b,off,none⟩) n c,.int .i64 (p:Int),y] w1 fun e w'=>∃ y,e=.returned y∧Nds w' y R∧Below w1.heap.size w1 w')
    (hst:∀ y w1,Nds w1 y R→Calls Tryz.prog 28 #[y] w1 fun e w'=>∃ y,e=.returned y∧Nds w' y Z∧Below w1.heap.size w1 w') :
    Calls Tryz.prog 8 #[.slice (some ⟨b,off,none⟩) n c,mvV ⟨(p:Int),h⟩] w fun e w'=>∃ y,e=.returned (.tuple #[y,.string nm,.int .i64 0])∧Nds w' y Z∧Below w.heap.size w w':=by
  have D0:=Lib.hid (below1 w (.cells #[.int .i64 (p:Int),.int .i64 h] 24));have M0:=Lib.hid (Bm.new w ⟨(p:Int),h⟩);have HIS:=Lib.hid (HI _ D0.out);have HMD:=Lib.hid hmd;have HPU:=Lib.hid hpu;have HST:=Lib.hid hst
  have HNM:Hid (h=1→∀ w',Below w.heap.size w w'→w'.cell? ⟨b,off+p*3+1,none⟩=some (.string nm)):=Lib.hid fun h1 w' hb=>by
    have e:=(hat p (by omega)).2.1;rw [hnm.resolve_right (fun k=>k h1)] at e;rw [hb.cell (Ap.cell_lt e)];exact e
  have HEM:=Lib.hid hem;have hpn:(p:Int) < n:=by omega
  have hcn:p < c:=by omega
  obtain ⟨bM,hbM⟩:∃ bM,w.heap.size=bM:=⟨_,rfl⟩
  clear hat hn HI hmd hpu hst hnm hem
  by_cases h1:h=1
  · have HN1:=Lib.hid (HNM.out h1);subst h1;clear HNM HEM
    go_enter Tryz.func8,Tryz.ntmps8
    go_wp2_with fail;refine HIS.out.mono ?_;rintro e w4 ⟨rfl,hb1⟩;have D4:=Lib.hid (D0.out.trans (hb1.mono D0.out.size));have M4:=M0.out.below hb1 M0.out.lt;have CM:=Lib.hid (bm_keep M4);obtain ⟨c0,c1⟩:=CM.out _ (Below.refl _ _);have c2:=HN1.out _ D4.out;rw [hbM] at CM c0 c1;simp only at CM c0 c1;clear hb1 M4 M0 D0 HIS;go_wp2_with fail;clear hbM c0 c1 c2 HN1;refine Rg.wp_region_kept (by kernel_rfl) [(0,some 21),(1,some 22),(2,some 23),(3,some 24),(4,some 25),(5,some 26),(6,some 27),(7,some 28),(8,some 29),(9,some 30),(10,some 31),(11,some 32),(12,some 33),(13,some 4),(14,some 5),(15,some 6)] (by rfl) (by kernel_rfl) (by kernel_rfl) (fun w'=>Below w4.heap.size w4 w') (RNx b off n c p bM 1 nm U R Z) (Below.refl _ _).drew ?_ ⟨⟨⟨⟨⟨⟨⟨⟨⟨⟨⟨⟨⟨⟨⟨⟨True.intro,?_⟩,?_⟩,?_⟩,?_⟩,?_⟩,?_⟩,?_⟩,?_⟩,?_⟩,?_⟩,?_⟩,?_⟩,?_⟩,?_⟩,?_⟩,?_⟩ ?_
    · intro k v w' hk;unfold RNx
      split
      case h_17=>trivial
      all_goals exact absurd hk (by decide)
    · intro o ho f us wl al ha g hf hdep K hKf;obtain rfl:=Option.some.inj ho;have hB:=g.1;have hK:∀ v w',RNx b off n c p bM 1 nm U R Z 0 v w'→Below wl.heap.size wl w'→K (al.put (some 21) v) w':=fun v w' hv hb=>hKf v w' (RNx.put g hb hv)
      have e0:al.tmps[0]?.getD undef=.slice (some ⟨b,off,none⟩) n c:=by rw [← Rg.eval_getD,ha]; exact (Rg.puts_eval_ne _ _ _ (by rfl)).trans rfl
      have HB:=Lib.hid hB;clear ha hdep g hf hKf hB;refine Rg.wpOp_of rfl rfl ?_;go_simp;exact hK _ _ rfl (Below.refl _ _)
    · intro o ho f us wl al ha g hf hdep K hKf;obtain rfl:=Option.some.inj ho;have hB:=g.1;have hK:∀ v w',RNx b off n c p bM 1 nm U R Z 1 v w'→Below wl.heap.size wl w'→K (al.put (some 22) v) w':=fun v w' hv hb=>hKf v w' (RNx.put g hb hv)
      have e3:al.tmps[3]?.getD undef=.pointer (some ⟨bM,0,none⟩):=by rw [← Rg.eval_getD,ha]; exact (Rg.puts_eval_ne _ _ _ (by rfl)).trans rfl
      have HB:=Lib.hid hB;clear ha hdep g hf hKf hB;refine Rg.wpOp_of rfl rfl ?_;go_simp;exact hK _ _ rfl (Below.refl _ _)
    · intro o ho f us wl al ha g hf hdep K hKf;obtain rfl:=Option.some.inj ho;have hB:=g.1;have hK:∀ v w',RNx b off n c p bM 1 nm U R Z 2 v w'→Below wl.heap.size wl w'→K (al.put (some 23) v) w':=fun v w' hv hb=>hKf v w' (RNx.put g hb hv)
      have d1:RNx b off n c p bM 1 nm U R Z 1 (us 1) wl:=g.2 1 (hdep ⟨1,.data⟩ (by simp) rfl);have e22:al.tmps[22]?.getD undef=us 1:=by rw [← Rg.eval_getD,ha]; exact Rg.puts_eval _ _ _ (by rfl) (by simp) (by simp)
      have f1:us 1=.pointer (some ⟨bM,0,none⟩):=d1;obtain ⟨c0,c1⟩:=CM.out _ hB;have HB:=Lib.hid hB;clear ha hdep g hf hKf d1 hB;refine Rg.wpOp_of rfl rfl ?_;go_simp;exact hK _ _ rfl (Below.refl _ _)
    · intro o ho f us wl al ha g hf hdep K hKf;obtain rfl:=Option.some.inj ho;have hB:=g.1;have hK:∀ v w',RNx b off n c p bM 1 nm U R Z 3 v w'→Below wl.heap.size wl w'→K (al.put (some 24) v) w':=fun v w' hv hb=>hKf v w' (RNx.put g hb hv)
      have e0:al.tmps[0]?.getD undef=.slice (some ⟨b,off,none⟩) n c:=by rw [← Rg.eval_getD,ha]; exact (Rg.puts_eval_ne _ _ _ (by rfl)).trans rfl
      have HB:=Lib.hid hB;clear ha hdep g hf hKf hB;refine Rg.wpOp_of rfl rfl ?_;go_simp;exact hK _ _ rfl (Below.refl _ _)
    · intro o ho f us wl al ha g hf hdep K hKf;obtain rfl:=Option.some.inj ho;have hB:=g.1;have hK:∀ v w',RNx b off n c p bM 1 nm U R Z 4 v w'→Below wl.heap.size wl w'→K (al.put (some 25) v) w':=fun v w' hv hb=>hKf v w' (RNx.put g hb hv)
      have e3:al.tmps[3]?.getD undef=.pointer (some ⟨bM,0,none⟩):=by rw [← Rg.eval_getD,ha]; exact (Rg.puts_eval_ne _ _ _ (by rfl)).trans rfl
      have HB:=Lib.hid hB;clear ha hdep g hf hKf hB;refine Rg.wpOp_of rfl rfl ?_;go_simp;exact hK _ _ rfl (Below.refl _ _)
    · intro o ho f us wl al ha g hf hdep K hKf;obtain rfl:=Option.some.inj ho;have hB:=g.1;have hK:∀ v w',RNx b off n c p bM 1 nm U R Z 5 v w'→Below wl.heap.size wl w'→K (al.put (some 26) v) w':=fun v w' hv hb=>hKf v w' (RNx.put g hb hv)
      have d4:RNx b off n c p bM 1 nm U R Z 4 (us 4) wl:=g.2 4 (hdep ⟨4,.data⟩ (by simp) rfl);have e25:al.tmps[25]?.getD undef=us 4:=by rw [← Rg.eval_getD,ha]; exact Rg.puts_eval _ _ _ (by rfl) (by simp) (by simp)
      have f4:us 4=.pointer (some ⟨bM,0,none⟩):=d4;obtain ⟨c0,c1⟩:=CM.out _ hB;have HB:=Lib.hid hB;clear ha hdep g hf hKf d4 hB;refine Rg.wpOp_of rfl rfl ?_;go_simp;exact hK _ _ rfl (Below.refl _ _)
    · intro o ho f us wl al ha g hf hdep K hKf;obtain rfl:=Option.some.inj ho;have hB:=g.1;have hK:∀ v w',RNx b off n c p bM 1 nm U R Z 6 v w'→Below wl.heap.size wl w'→K (al.put (some 27) v) w':=fun v w' hv hb=>hKf v w' (RNx.put g hb hv)
      have d3:RNx b off n c p bM 1 nm U R Z 3 (us 3) wl:=g.2 3 (hdep ⟨3,.data⟩ (by simp) rfl);have e24:al.tmps[24]?.getD undef=us 3:=by rw [← Rg.eval_getD,ha]; exact Rg.puts_eval _ _ _ (by rfl) (by simp) (by simp)
      have d5:RNx b off n c p bM 1 nm U R Z 5 (us 5) wl:=g.2 5 (hdep ⟨5,.data⟩ (by simp) rfl);have e26:al.tmps[26]?.getD undef=us 5:=by rw [← Rg.eval_getD,ha]; exact Rg.puts_eval _ _ _ (by rfl) (by simp) (by simp)
      have f3:us 3=.slice (some ⟨b,off,none⟩) n c:=d3;have f5:us 5=.int .i64 (p:Int):=d5;have HB:=Lib.hid hB;clear ha hdep g hf hKf d3 d5 hB;refine Rg.wpOp_of rfl rfl ?_;go_simp;rw [if_pos (Nat.le_of_lt hp),if_neg (by omega)];exact hK _ _ rfl (Below.refl _ _)
    · intro o ho f us wl al ha g hf hdep K hKf;obtain rfl:=Option.some.inj ho;have hB:=g.1;have hK:∀ v w',RNx b off n c p bM 1 nm U R Z 7 v w'→Below wl.heap.size wl w'→K (al.put (some 28) v) w':=fun v w' hv hb=>hKf v w' (RNx.put g hb hv)
      have e3:al.tmps[3]?.getD undef=.pointer (some ⟨bM,0,none⟩):=by rw [← Rg.eval_getD,ha]; exact (Rg.puts_eval_ne _ _ _ (by rfl)).trans rfl
      have HB:=Lib.hid hB;clear ha hdep g hf hKf hB;refine Rg.wpOp_of rfl rfl ?_;go_simp;exact hK _ _ rfl (Below.refl _ _)
    · intro o ho f us wl al ha g hf hdep K hKf;obtain rfl:=Option.some.inj ho;have hB:=g.1;have hK:∀ v w',RNx b off n c p bM 1 nm U R Z 8 v w'→Below wl.heap.size wl w'→K (al.put (some 29) v) w':=fun v w' hv hb=>hKf v w' (RNx.put g hb hv)
      have d7:RNx b off n c p bM 1 nm U R Z 7 (us 7) wl:=g.2 7 (hdep ⟨7,.data⟩ (by simp) rfl);have e28:al.tmps[28]?.getD undef=us 7:=by rw [← Rg.eval_getD,ha]; exact Rg.puts_eval _ _ _ (by rfl) (by simp) (by simp)
      have f7:us 7=.pointer (some ⟨bM,1,none⟩):=d7;obtain ⟨c0,c1⟩:=CM.out _ hB;have HB:=Lib.hid hB;clear ha hdep g hf hKf d7 hB;refine Rg.wpOp_of rfl rfl ?_;go_simp;exact hK _ _ rfl (Below.refl _ _)
    · intro o ho f us wl al ha g hf hdep K hKf;obtain rfl:=Option.some.inj ho;have hB:=g.1;have hK:∀ v w',RNx b off n c p bM 1 nm U R Z 9 v w'→Below wl.heap.size wl w'→K (al.put (some 30) v) w':=fun v w' hv hb=>hKf v w' (RNx.put g hb hv)
      have d6:RNx b off n c p bM 1 nm U R Z 6 (us 6) wl:=g.2 6 (hdep ⟨6,.data⟩ (by simp) rfl);have e27:al.tmps[27]?.getD undef=us 6:=by rw [← Rg.eval_getD,ha]; exact Rg.puts_eval _ _ _ (by rfl) (by simp) (by simp)
      have d8:RNx b off n c p bM 1 nm U R Z 8 (us 8) wl:=g.2 8 (hdep ⟨8,.data⟩ (by simp) rfl);have e29:al.tmps[29]?.getD undef=us 8:=by rw [← Rg.eval_getD,ha]; exact Rg.puts_eval _ _ _ (by rfl) (by simp) (by simp)
      have f6:us 6=.slice (some ⟨b,off+p*3,none⟩) (n - p) (c - p):=d6;have f8:us 8=.int .i64 1:=d8;have HB:=Lib.hid hB;clear ha hdep g hf hKf d6 d8 hB;refine Rg.wpOp_of rfl rfl ?_;go_simp;refine (HMD.out _ (D4.out.trans (HB.out.mono D4.out.size))).mono ?_;rintro e wn ⟨y,rfl,hy,hb⟩;exact hK _ _ hy hb
    · intro o ho f us wl al ha g hf hdep K hKf;obtain rfl:=Option.some.inj ho;have hB:=g.1;have hK:∀ v w',RNx b off n c p bM 1 nm U R Z 10 v w'→Below wl.heap.size wl w'→K (al.put (some 31) v) w':=fun v w' hv hb=>hKf v w' (RNx.put g hb hv)
      have d0:RNx b off n c p bM 1 nm U R Z 0 (us 0) wl:=g.2 0 (hdep ⟨0,.data⟩ (by simp) rfl);have e21:al.tmps[21]?.getD undef=us 0:=by rw [← Rg.eval_getD,ha]; exact Rg.puts_eval _ _ _ (by rfl) (by simp) (by simp)
      have d2:RNx b off n c p bM 1 nm U R Z 2 (us 2) wl:=g.2 2 (hdep ⟨2,.data⟩ (by simp) rfl);have e23:al.tmps[23]?.getD undef=us 2:=by rw [← Rg.eval_getD,ha]; exact Rg.puts_eval _ _ _ (by rfl) (by simp) (by simp)
      have d9:RNx b off n c p bM 1 nm U R Z 9 (us 9) wl:=g.2 9 (hdep ⟨9,.data⟩ (by simp) rfl);have e30:al.tmps[30]?.getD undef=us 9:=by rw [← Rg.eval_getD,ha]; exact Rg.puts_eval _ _ _ (by rfl) (by simp) (by simp)
      have f0:us 0=.slice (some ⟨b,off,none⟩) n c:=d0;have f2:us 2=.int .i64 (p:Int):=d2;have D9:Hid (Nds wl (us 9) U):=d9;have HB:=Lib.hid hB;clear ha hdep g hf hKf d0 d2 d9 hB;refine Rg.wpOp_of rfl rfl ?_;go_simp;refine (HPU.out _ _ (D4.out.trans (HB.out.mono D4.out.size)) D9.out).mono ?_;rintro e wn ⟨y,rfl,hy,hb⟩;exact hK _ _ hy hb
    · intro o ho f us wl al ha g hf hdep K hKf;obtain rfl:=Option.some.inj ho;have hB:=g.1;have hK:∀ v w',RNx b off n c p bM 1 nm U R Z 11 v w'→Below wl.heap.size wl w'→K (al.put (some 32) v) w':=fun v w' hv hb=>hKf v w' (RNx.put g hb hv)
      have d10:RNx b off n c p bM 1 nm U R Z 10 (us 10) wl:=g.2 10 (hdep ⟨10,.data⟩ (by simp) rfl);have e31:al.tmps[31]?.getD undef=us 10:=by rw [← Rg.eval_getD,ha]; exact Rg.puts_eval _ _ _ (by rfl) (by simp) (by simp)
      have D10:Hid (Nds wl (us 10) R):=d10;have HB:=Lib.hid hB;clear ha hdep g hf hKf d10 hB;refine Rg.wpOp_of rfl rfl ?_;go_simp;refine (HST.out _ _ D10.out).mono ?_;rintro e wn ⟨y,rfl,hy,hb⟩;exact hK _ _ hy hb
    · intro o ho f us wl al ha g hf hdep K hKf;obtain rfl:=Option.some.inj ho;have hB:=g.1;have hK:∀ v w',RNx b off n c p bM 1 nm U R Z 12 v w'→Below wl.heap.size wl w'→K (al.put (some 33) v) w':=fun v w' hv hb=>hKf v w' (RNx.put g hb hv)
      have e7:al.tmps[7]?.getD undef=.string nm:=by rw [← Rg.eval_getD,ha]; exact (Rg.puts_eval_ne _ _ _ (by rfl)).trans rfl
      have HB:=Lib.hid hB;clear ha hdep g hf hKf hB;refine Rg.wpOp_of rfl rfl ?_;go_simp;exact hK _ _ rfl (Below.refl _ _)
    · intro o ho f us wl al ha g hf hdep K hKf;obtain rfl:=Option.some.inj ho;have hB:=g.1;have hK:∀ v w',RNx b off n c p bM 1 nm U R Z 13 v w'→Below wl.heap.size wl w'→K (al.put (some 4) v) w':=fun v w' hv hb=>hKf v w' (RNx.put g hb hv)
      have d11:RNx b off n c p bM 1 nm U R Z 11 (us 11) wl:=g.2 11 (hdep ⟨11,.data⟩ (by simp) rfl);have e32:al.tmps[32]?.getD undef=us 11:=by rw [← Rg.eval_getD,ha]; exact Rg.puts_eval _ _ _ (by rfl) (by simp) (by simp)
      have D11:Hid (Nds wl (us 11) Z):=d11;have HB:=Lib.hid hB;clear ha hdep g hf hKf d11 hB;refine Rg.wpOp_of rfl rfl ?_;go_simp;exact hK _ _ D11.out (Below.refl _ _)
    · intro o ho f us wl al ha g hf hdep K hKf;obtain rfl:=Option.some.inj ho;have hB:=g.1;have hK:∀ v w',RNx b off n c p bM 1 nm U R Z 14 v w'→Below wl.heap.size wl w'→K (al.put (some 5) v) w':=fun v w' hv hb=>hKf v w' (RNx.put g hb hv)
      have d12:RNx b off n c p bM 1 nm U R Z 12 (us 12) wl:=g.2 12 (hdep ⟨12,.data⟩ (by simp) rfl);have e33:al.tmps[33]?.getD undef=us 12:=by rw [← Rg.eval_getD,ha]; exact Rg.puts_eval _ _ _ (by rfl) (by simp) (by simp)
      have f12:us 12=.string nm:=d12;have HB:=Lib.hid hB;clear ha hdep g hf hKf d12 hB;refine Rg.wpOp_of rfl rfl ?_;go_simp;exact hK _ _ rfl (Below.refl _ _)
    · intro o ho f us wl al ha g hf hdep K hKf;obtain rfl:=Option.some.inj ho;have hB:=g.1;have hK:∀ v w',RNx b off n c p bM 1 nm U R Z 15 v w'→Below wl.heap.size wl w'→K (al.put (some 6) v) w':=fun v w' hv hb=>hKf v w' (RNx.put g hb hv)
      have HB:=Lib.hid hB;clear ha hdep g hf hKf hB;refine Rg.wpOp_of rfl rfl ?_;go_simp;exact hK _ _ rfl (Below.refl _ _)
    · intro us wz hB hR;have f4:Nds wz (us 13) Z:=hR 13;have f5:us 14=.string nm:=hR 14;have f6:us 15=.int .i64 0:=hR 15;have F4:=Lib.hid f4;have DZ:=Lib.hid (D4.out.trans (hB.mono D4.out.size));clear hB hR f4;simp only [Rg.puts,Act.put,List.setIfInBounds_toArray,List.set_cons_zero,List.set_cons_succ,f5,f6];go_wp2_with fail
      go_ret3
      exact ⟨_,rfl,F4.out,DZ.out⟩
  · have HN1:=Lib.hid (HEM.out h1);have g1:(h == 1)=false:=beq_eq_false_iff_ne.2 h1;obtain rfl:nm=⟨#[]⟩:=HN1.out;clear HNM HEM HN1 h1
    go_enter Tryz.func8,Tryz.ntmps8
    go_wp2_with fail;refine HIS.out.mono ?_;rintro e w4 ⟨rfl,hb1⟩;have D4:=Lib.hid (D0.out.trans (hb1.mono D0.out.size));have M4:=M0.out.below hb1 M0.out.lt;have CM:=Lib.hid (bm_keep M4);obtain ⟨c0,c1⟩:=CM.out _ (Below.refl _ _);rw [hbM] at CM c0 c1;simp only at CM c0 c1;clear hb1 M4 M0 D0 HIS;go_wp2_with fail;clear hbM c0 c1 g1;refine Rg.wp_region_kept (by kernel_rfl) [(0,some 21),(1,some 22),(2,some 23),(3,some 24),(4,some 25),(5,some 26),(6,some 27),(7,some 28),(8,some 29),(9,some 30),(10,some 31),(11,some 32),(12,some 33),(13,some 4),(14,some 5),(15,some 6)] (by rfl) (by kernel_rfl) (by kernel_rfl) (fun w'=>Below w4.heap.size w4 w') (RNx b off n c p bM h ⟨#[]⟩ U R Z) (Below.refl _ _).drew ?_ ⟨⟨⟨⟨⟨⟨⟨⟨⟨⟨⟨⟨⟨⟨⟨⟨True.intro,?_⟩,?_⟩,?_⟩,?_⟩,?_⟩,?_⟩,?_⟩,?_⟩,?_⟩,?_⟩,?_⟩,?_⟩,?_⟩,?_⟩,?_⟩,?_⟩ ?_
    · intro k v w' hk;unfold RNx
      split
      case h_17=>trivial
      all_goals exact absurd hk (by decide)
    · intro o ho f us wl al ha g hf hdep K hKf;obtain rfl:=Option.some.inj ho;have hB:=g.1;have hK:∀ v w',RNx b off n c p bM h ⟨#[]⟩ U R Z 0 v w'→Below wl.heap.size wl w'→K (al.put (some 21) v) w':=fun v w' hv hb=>hKf v w' (RNx.put g hb hv)
      have e0:al.tmps[0]?.getD undef=.slice (some ⟨b,off,none⟩) n c:=by rw [← Rg.eval_getD,ha]; exact (Rg.puts_eval_ne _ _ _ (by rfl)).trans rfl
      have HB:=Lib.hid hB;clear ha hdep g hf hKf hB;refine Rg.wpOp_of rfl rfl ?_;go_simp;exact hK _ _ rfl (Below.refl _ _)
    · intro o ho f us wl al ha g hf hdep K hKf;obtain rfl:=Option.some.inj ho;have hB:=g.1;have hK:∀ v w',RNx b off n c p bM h ⟨#[]⟩ U R Z 1 v w'→Below wl.heap.size wl w'→K (al.put (some 22) v) w':=fun v w' hv hb=>hKf v w' (RNx.put g hb hv)
      have e3:al.tmps[3]?.getD undef=.pointer (some ⟨bM,0,none⟩):=by rw [← Rg.eval_getD,ha]; exact (Rg.puts_eval_ne _ _ _ (by rfl)).trans rfl
      have HB:=Lib.hid hB;clear ha hdep g hf hKf hB;refine Rg.wpOp_of rfl rfl ?_;go_simp;exact hK _ _ rfl (Below.refl _ _)
    · intro o ho f us wl al ha g hf hdep K hKf;obtain rfl:=Option.some.inj ho;have hB:=g.1;have hK:∀ v w',RNx b off n c p bM h ⟨#[]⟩ U R Z 2 v w'→Below wl.heap.size wl w'→K (al.put (some 23) v) w':=fun v w' hv hb=>hKf v w' (RNx.put g hb hv)
      have d1:RNx b off n c p bM h ⟨#[]⟩ U R Z 1 (us 1) wl:=g.2 1 (hdep ⟨1,.data⟩ (by simp) rfl);have e22:al.tmps[22]?.getD undef=us 1:=by rw [← Rg.eval_getD,ha]; exact Rg.puts_eval _ _ _ (by rfl) (by simp) (by simp)
      have f1:us 1=.pointer (some ⟨bM,0,none⟩):=d1;obtain ⟨c0,c1⟩:=CM.out _ hB;have HB:=Lib.hid hB;clear ha hdep g hf hKf d1 hB;refine Rg.wpOp_of rfl rfl ?_;go_simp;exact hK _ _ rfl (Below.refl _ _)
    · intro o ho f us wl al ha g hf hdep K hKf;obtain rfl:=Option.some.inj ho;have hB:=g.1;have hK:∀ v w',RNx b off n c p bM h ⟨#[]⟩ U R Z 3 v w'→Below wl.heap.size wl w'→K (al.put (some 24) v) w':=fun v w' hv hb=>hKf v w' (RNx.put g hb hv)
      have e0:al.tmps[0]?.getD undef=.slice (some ⟨b,off,none⟩) n c:=by rw [← Rg.eval_getD,ha]; exact (Rg.puts_eval_ne _ _ _ (by rfl)).trans rfl
      have HB:=Lib.hid hB;clear ha hdep g hf hKf hB;refine Rg.wpOp_of rfl rfl ?_;go_simp;exact hK _ _ rfl (Below.refl _ _)
    · intro o ho f us wl al ha g hf hdep K hKf;obtain rfl:=Option.some.inj ho;have hB:=g.1;have hK:∀ v w',RNx b off n c p bM h ⟨#[]⟩ U R Z 4 v w'→Below wl.heap.size wl w'→K (al.put (some 25) v) w':=fun v w' hv hb=>hKf v w' (RNx.put g hb hv)
      have e3:al.tmps[3]?.getD undef=.pointer (some ⟨bM,0,none⟩):=by rw [← Rg.eval_getD,ha]; exact (Rg.puts_eval_ne _ _ _ (by rfl)).trans rfl
      have HB:=Lib.hid hB;clear ha hdep g hf hKf hB;refine Rg.wpOp_of rfl rfl ?_;go_simp;exact hK _ _ rfl (Below.refl _ _)
    · intro o ho f us wl al ha g hf hdep K hKf;obtain rfl:=Option.some.inj ho;have hB:=g.1;have hK:∀ v w',RNx b off n c p bM h ⟨#[]⟩ U R Z 5 v w'→Below wl.heap.size wl w'→K (al.put (some 26) v) w':=fun v w' hv hb=>hKf v w' (RNx.put g hb hv)
      have d4:RNx b off n c p bM h ⟨#[]⟩ U R Z 4 (us 4) wl:=g.2 4 (hdep ⟨4,.data⟩ (by simp) rfl);have e25:al.tmps[25]?.getD undef=us 4:=by rw [← Rg.eval_getD,ha]; exact Rg.puts_eval _ _ _ (by rfl) (by simp) (by simp)
      have f4:us 4=.pointer (some ⟨bM,0,none⟩):=d4;obtain ⟨c0,c1⟩:=CM.out _ hB;have HB:=Lib.hid hB;clear ha hdep g hf hKf d4 hB;refine Rg.wpOp_of rfl rfl ?_;go_simp;exact hK _ _ rfl (Below.refl _ _)
    · intro o ho f us wl al ha g hf hdep K hKf;obtain rfl:=Option.some.inj ho;have hB:=g.1;have hK:∀ v w',RNx b off n c p bM h ⟨#[]⟩ U R Z 6 v w'→Below wl.heap.size wl w'→K (al.put (some 27) v) w':=fun v w' hv hb=>hKf v w' (RNx.put g hb hv)
      have d3:RNx b off n c p bM h ⟨#[]⟩ U R Z 3 (us 3) wl:=g.2 3 (hdep ⟨3,.data⟩ (by simp) rfl);have e24:al.tmps[24]?.getD undef=us 3:=by rw [← Rg.eval_getD,ha]; exact Rg.puts_eval _ _ _ (by rfl) (by simp) (by simp)
      have d5:RNx b off n c p bM h ⟨#[]⟩ U R Z 5 (us 5) wl:=g.2 5 (hdep ⟨5,.data⟩ (by simp) rfl);have e26:al.tmps[26]?.getD undef=us 5:=by rw [← Rg.eval_getD,ha]; exact Rg.puts_eval _ _ _ (by rfl) (by simp) (by simp)
      have f3:us 3=.slice (some ⟨b,off,none⟩) n c:=d3;have f5:us 5=.int .i64 (p:Int):=d5;have HB:=Lib.hid hB;clear ha hdep g hf hKf d3 d5 hB;refine Rg.wpOp_of rfl rfl ?_;go_simp;rw [if_pos (Nat.le_of_lt hp),if_neg (by omega)];exact hK _ _ rfl (Below.refl _ _)
    · intro o ho f us wl al ha g hf hdep K hKf;obtain rfl:=Option.some.inj ho;have hB:=g.1;have hK:∀ v w',RNx b off n c p bM h ⟨#[]⟩ U R Z 7 v w'→Below wl.heap.size wl w'→K (al.put (some 28) v) w':=fun v w' hv hb=>hKf v w' (RNx.put g hb hv)
      have e3:al.tmps[3]?.getD undef=.pointer (some ⟨bM,0,none⟩):=by rw [← Rg.eval_getD,ha]; exact (Rg.puts_eval_ne _ _ _ (by rfl)).trans rfl
      have HB:=Lib.hid hB;clear ha hdep g hf hKf hB;refine Rg.wpOp_of rfl rfl ?_;go_simp;exact hK _ _ rfl (Below.refl _ _)
    · intro o ho f us wl al ha g hf hdep K hKf;obtain rfl:=Option.some.inj ho;have hB:=g.1;have hK:∀ v w',RNx b off n c p bM h ⟨#[]⟩ U R Z 8 v w'→Below wl.heap.size wl w'→K (al.put (some 29) v) w':=fun v w' hv hb=>hKf v w' (RNx.put g hb hv)
      have d7:RNx b off n c p bM h ⟨#[]⟩ U R Z 7 (us 7) wl:=g.2 7 (hdep ⟨7,.data⟩ (by simp) rfl);have e28:al.tmps[28]?.getD undef=us 7:=by rw [← Rg.eval_getD,ha]; exact Rg.puts_eval _ _ _ (by rfl) (by simp) (by simp)
      have f7:us 7=.pointer (some ⟨bM,1,none⟩):=d7;obtain ⟨c0,c1⟩:=CM.out _ hB;have HB:=Lib.hid hB;clear ha hdep g hf hKf d7 hB;refine Rg.wpOp_of rfl rfl ?_;go_simp;exact hK _ _ rfl (Below.refl _ _)
    · intro o ho f us wl al ha g hf hdep K hKf;obtain rfl:=Option.some.inj ho;have hB:=g.1;have hK:∀ v w',RNx b off n c p bM h ⟨#[]⟩ U R Z 9 v w'→Below wl.heap.size wl w'→K (al.put (some 30) v) w':=fun v w' hv hb=>hKf v w' (RNx.put g hb hv)
      have d6:RNx b off n c p bM h ⟨#[]⟩ U R Z 6 (us 6) wl:=g.2 6 (hdep ⟨6,.data⟩ (by simp) rfl);have e27:al.tmps[27]?.getD undef=us 6:=by rw [← Rg.eval_getD,ha]; exact Rg.puts_eval _ _ _ (by rfl) (by simp) (by simp)
      have d8:RNx b off n c p bM h ⟨#[]⟩ U R Z 8 (us 8) wl:=g.2 8 (hdep ⟨8,.data⟩ (by simp) rfl);have e29:al.tmps[29]?.getD undef=us 8:=by rw [← Rg.eval_getD,ha]; exact Rg.puts_eval _ _ _ (by rfl) (by simp) (by simp)
      have f6:us 6=.slice (some ⟨b,off+p*3,none⟩) (n - p) (c - p):=d6;have f8:us 8=.int .i64 h:=d8;have HB:=Lib.hid hB;clear ha hdep g hf hKf d6 d8 hB;refine Rg.wpOp_of rfl rfl ?_;go_simp;refine (HMD.out _ (D4.out.trans (HB.out.mono D4.out.size))).mono ?_;rintro e wn ⟨y,rfl,hy,hb⟩;exact hK _ _ hy hb
    · intro o ho f us wl al ha g hf hdep K hKf;obtain rfl:=Option.some.inj ho;have hB:=g.1;have hK:∀ v w',RNx b off n c p bM h ⟨#[]⟩ U R Z 10 v w'→Below wl.heap.size wl w'→K (al.put (some 31) v) w':=fun v w' hv hb=>hKf v w' (RNx.put g hb hv)
      have d0:RNx b off n c p bM h ⟨#[]⟩ U R Z 0 (us 0) wl:=g.2 0 (hdep ⟨0,.data⟩ (by simp) rfl);have e21:al.tmps[21]?.getD undef=us 0:=by rw [← Rg.eval_getD,ha]; exact Rg.puts_eval _ _ _ (by rfl) (by simp) (by simp)
      have d2:RNx b off n c p bM h ⟨#[]⟩ U R Z 2 (us 2) wl:=g.2 2 (hdep ⟨2,.data⟩ (by simp) rfl);have e23:al.tmps[23]?.getD undef=us 2:=by rw [← Rg.eval_getD,ha]; exact Rg.puts_eval _ _ _ (by rfl) (by simp) (by simp)
      have d9:RNx b off n c p bM h ⟨#[]⟩ U R Z 9 (us 9) wl:=g.2 9 (hdep ⟨9,.data⟩ (by simp) rfl);have e30:al.tmps[30]?.getD undef=us 9:=by rw [← Rg.eval_getD,ha]; exact Rg.puts_eval _ _ _ (by rfl) (by simp) (by simp)
      have f0:us 0=.slice (some ⟨b,off,none⟩) n c:=d0;have f2:us 2=.int .i64 (p:Int):=d2;have D9:Hid (Nds wl (us 9) U):=d9;have HB:=Lib.hid hB;clear ha hdep g hf hKf d0 d2 d9 hB;refine Rg.wpOp_of rfl rfl ?_;go_simp;refine (HPU.out _ _ (D4.out.trans (HB.out.mono D4.out.size)) D9.out).mono ?_;rintro e wn ⟨y,rfl,hy,hb⟩;exact hK _ _ hy hb
    · intro o ho f us wl al ha g hf hdep K hKf;obtain rfl:=Option.some.inj ho;have hB:=g.1;have hK:∀ v w',RNx b off n c p bM h ⟨#[]⟩ U R Z 11 v w'→Below wl.heap.size wl w'→K (al.put (some 32) v) w':=fun v w' hv hb=>hKf v w' (RNx.put g hb hv)
      have d10:RNx b off n c p bM h ⟨#[]⟩ U R Z 10 (us 10) wl:=g.2 10 (hdep ⟨10,.data⟩ (by simp) rfl);have e31:al.tmps[31]?.getD undef=us 10:=by rw [← Rg.eval_getD,ha]; exact Rg.puts_eval _ _ _ (by rfl) (by simp) (by simp)
      have D10:Hid (Nds wl (us 10) R):=d10;have HB:=Lib.hid hB;clear ha hdep g hf hKf d10 hB;refine Rg.wpOp_of rfl rfl ?_;go_simp;refine (HST.out _ _ D10.out).mono ?_;rintro e wn ⟨y,rfl,hy,hb⟩;exact hK _ _ hy hb
    · intro o ho f us wl al ha g hf hdep K hKf;obtain rfl:=Option.some.inj ho;have hB:=g.1;have hK:∀ v w',RNx b off n c p bM h ⟨#[]⟩ U R Z 12 v w'→Below wl.heap.size wl w'→K (al.put (some 33) v) w':=fun v w' hv hb=>hKf v w' (RNx.put g hb hv)
      have e7:al.tmps[7]?.getD undef=.string ⟨#[]⟩:=by rw [← Rg.eval_getD,ha]; exact (Rg.puts_eval_ne _ _ _ (by rfl)).trans rfl
      have HB:=Lib.hid hB;clear ha hdep g hf hKf hB;refine Rg.wpOp_of rfl rfl ?_;go_simp;exact hK _ _ rfl (Below.refl _ _)
    · intro o ho f us wl al ha g hf hdep K hKf;obtain rfl:=Option.some.inj ho;have hB:=g.1;have hK:∀ v w',RNx b off n c p bM h ⟨#[]⟩ U R Z 13 v w'→Below wl.heap.size wl w'→K (al.put (some 4) v) w':=fun v w' hv hb=>hKf v w' (RNx.put g hb hv)
      have d11:RNx b off n c p bM h ⟨#[]⟩ U R Z 11 (us 11) wl:=g.2 11 (hdep ⟨11,.data⟩ (by simp) rfl);have e32:al.tmps[32]?.getD undef=us 11:=by rw [← Rg.eval_getD,ha]; exact Rg.puts_eval _ _ _ (by rfl) (by simp) (by simp)
      have D11:Hid (Nds wl (us 11) Z):=d11;have HB:=Lib.hid hB;clear ha hdep g hf hKf d11 hB;refine Rg.wpOp_of rfl rfl ?_;go_simp;exact hK _ _ D11.out (Below.refl _ _)
    · intro o ho f us wl al ha g hf hdep K hKf;obtain rfl:=Option.some.inj ho;have hB:=g.1;have hK:∀ v w',RNx b off n c p bM h ⟨#[]⟩ U R Z 14 v w'→Below wl.heap.size wl w'→K (al.put (some 5) v) w':=fun v w' hv hb=>hKf v w' (RNx.put g hb hv)
      have d12:RNx b off n c p bM h ⟨#[]⟩ U R Z 12 (us 12) wl:=g.2 12 (hdep ⟨12,.data⟩ (by simp) rfl);have e33:al.tmps[33]?.getD undef=us 12:=by rw [← Rg.eval_getD,ha]; exact Rg.puts_eval _ _ _ (by rfl) (by simp) (by simp)
      have f12:us 12=.string ⟨#[]⟩:=d12;have HB:=Lib.hid hB;clear ha hdep g hf hKf d12 hB;refine Rg.wpOp_of rfl rfl ?_;go_simp;exact hK _ _ rfl (Below.refl _ _)
    · intro o ho f us wl al ha g hf hdep K hKf;obtain rfl:=Option.some.inj ho;have hB:=g.1;have hK:∀ v w',RNx b off n c p bM h ⟨#[]⟩ U R Z 15 v w'→Below wl.heap.size wl w'→K (al.put (some 6) v) w':=fun v w' hv hb=>hKf v w' (RNx.put g hb hv)
      have HB:=Lib.hid hB;clear ha hdep g hf hKf hB;refine Rg.wpOp_of rfl rfl ?_;go_simp;exact hK _ _ rfl (Below.refl _ _)
    · intro us wz hB hR;have f4:Nds wz (us 13) Z:=hR 13;have f5:us 14=.string ⟨#[]⟩:=hR 14;have f6:us 15=.int .i64 0:=hR 15;have F4:=Lib.hid f4;have DZ:=Lib.hid (D4.out.trans (hB.mono D4.out.size));clear hB hR f4;simp only [Rg.puts,Act.put,List.setIfInBounds_toArray,List.set_cons_zero,List.set_cons_succ,f5,f6];go_wp2_with fail
      go_ret3
      exact ⟨_,rfl,F4.out,DZ.out⟩
def RRf (b off n c p bM:Nat) (U R Z:List Nd) (k:Nat) (v:Value) (w':World):Prop:=match k with
  | 0=>v=.slice (some ⟨b,off,none⟩) n c
  | 1=>v=.pointer (some ⟨bM,0,none⟩)
  | 2=>v=.int .i64 (p:Int)
  | 3=>Nds w' v U
  | 4=>Nds w' v R
  | 5=>Nds w' v Z
  | 6=>Nds w' v Z
  | 7=>v=.int .i64 0
  | _=>True
theorem RRf.below {b off n c p bM:Nat} {U R Z:List Nd} {k:Nat} {v:Value} {w w':World} (h:RRf b off n c p bM U R Z k v w) (hb:Below w.heap.size w w'):RRf b off n c p bM U R Z k v w':=by
  unfold RRf at h ⊢
  split at h
  case h_4=>exact Nds.below h hb
  case h_5=>exact Nds.below h hb
  case h_6=>exact Nds.below h hb
  case h_7=>exact Nds.below h hb
  all_goals exact h
theorem RRf.put {w4:World} {b off n c p bM:Nat} {U R Z:List Nd} {v:Value} {w w':World} {f:Nat→Bool} {us:Nat→Value} {i:Nat} (g:Rg.Kept (fun w'=>Below w4.heap.size w4 w') (RRf b off n c p bM U R Z) f us w) (hb:Below w.heap.size w w') (hv:RRf b off n c p bM U R Z i v w') :
    Rg.Kept (fun w'=>Below w4.heap.size w4 w') (RRf b off n c p bM U R Z) (Rg.upd f i true) (Rg.upd us i v) w':=
  Rg.Kept.put (Base:=fun w'=>Below w4.heap.size w4 w') (R:=RRf b off n c p bM U R Z) (fun _ _ h hb=>h.trans (hb.mono h.size)) (fun _ _ _ _ h hb=>RRf.below h hb) g hb hv
set_option maxHeartbeats 4000000 in
theorem refuse_go (b off c n p:Nat) (U R Z:List Nd) (w:World) (_hp:p < n)
    (HI:∀ w1,Below w.heap.size w w1→Calls Tryz.prog 27 #[.slice (some ⟨b,off,none⟩) n c,mvV ⟨(p:Int),1⟩] w1 fun e w'=>e=.returned (.bool true)∧Below w1.heap.size w1 w')
    (hlf:∀ w1,Calls Tryz.prog 32 #[.int .i64 3,.int .i64 0] w1 fun e w'=>∃ y,e=.returned y∧Nds w' y U∧Below w1.heap.size w1 w')
    (hpu:∀ y w1,Below w.heap.size w w1→Nds w1 y U→Calls Tryz.prog 29 #[.slice (some ⟨b,off,none⟩) n c,.int .i64 (p:Int),y] w1 fun e w'=>∃ y,e=.returned y∧Nds w' y R∧Below w1.heap.size w1 w')
    (hst:∀ y w1,Nds w1 y R→Calls Tryz.prog 28 #[y] w1 fun e w'=>∃ y,e=.returned y∧Nds w' y Z∧Below w1.heap.size w1 w') :
    Calls Tryz.prog 10 #[.slice (some ⟨b,off,none⟩) n c,mvV ⟨(p:Int),1⟩] w fun e w'=>∃ y,e=.returned (.tuple #[y,.int .i64 0])∧Nds w' y Z∧Below w.heap.size w w':=by
  have D0:=Lib.hid (below1 w (.cells #[.int .i64 (p:Int),.int .i64 1] 24));have M0:=Lib.hid (Bm.new w ⟨(p:Int),1⟩);have HIS:=Lib.hid (HI _ D0.out);have HLF:=Lib.hid hlf;have HPU:=Lib.hid hpu;have HST:=Lib.hid hst;obtain ⟨bM,hbM⟩:∃ bM,w.heap.size=bM:=⟨_,rfl⟩
  clear HI hlf hpu hst
  go_enter Tryz.func10,Tryz.ntmps10
  go_wp2_with fail;refine HIS.out.mono ?_;rintro e w4 ⟨rfl,hb1⟩;have D4:=Lib.hid (D0.out.trans (hb1.mono D0.out.size));have M4:=M0.out.below hb1 M0.out.lt;have CM:=Lib.hid (bm_keep M4);obtain ⟨c0,c1⟩:=CM.out _ (Below.refl _ _);rw [hbM] at CM c0 c1;simp only at CM c0 c1;clear hb1 M4 M0 D0 HIS;go_wp2_with fail;clear hbM c0 c1;refine Rg.wp_region_kept (by kernel_rfl) [(0,some 15),(1,some 16),(2,some 17),(3,some 18),(4,some 19),(5,some 20),(6,some 4),(7,some 5)] (by rfl) (by kernel_rfl) (by kernel_rfl) (fun w'=>Below w4.heap.size w4 w') (RRf b off n c p bM U R Z) (Below.refl _ _).drew ?_ ⟨⟨⟨⟨⟨⟨⟨⟨True.intro,?_⟩,?_⟩,?_⟩,?_⟩,?_⟩,?_⟩,?_⟩,?_⟩ ?_
  · intro k v w' hk;unfold RRf
    split
    case h_9=>trivial
    all_goals exact absurd hk (by decide)
  · intro o ho f us wl al ha g hf hdep K hKf;obtain rfl:=Option.some.inj ho;have hB:=g.1;have hK:∀ v w',RRf b off n c p bM U R Z 0 v w'→Below wl.heap.size wl w'→K (al.put (some 15) v) w':=fun v w' hv hb=>hKf v w' (RRf.put g hb hv)
    have e0:al.tmps[0]?.getD undef=.slice (some ⟨b,off,none⟩) n c:=by rw [← Rg.eval_getD,ha]; exact (Rg.puts_eval_ne _ _ _ (by rfl)).trans rfl
    have HB:=Lib.hid hB;clear ha hdep g hf hKf hB;refine Rg.wpOp_of rfl rfl ?_;go_simp;exact hK _ _ rfl (Below.refl _ _)
  · intro o ho f us wl al ha g hf hdep K hKf;obtain rfl:=Option.some.inj ho;have hB:=g.1;have hK:∀ v w',RRf b off n c p bM U R Z 1 v w'→Below wl.heap.size wl w'→K (al.put (some 16) v) w':=fun v w' hv hb=>hKf v w' (RRf.put g hb hv)
    have e3:al.tmps[3]?.getD undef=.pointer (some ⟨bM,0,none⟩):=by rw [← Rg.eval_getD,ha]; exact (Rg.puts_eval_ne _ _ _ (by rfl)).trans rfl
    have HB:=Lib.hid hB;clear ha hdep g hf hKf hB;refine Rg.wpOp_of rfl rfl ?_;go_simp;exact hK _ _ rfl (Below.refl _ _)
  · intro o ho f us wl al ha g hf hdep K hKf;obtain rfl:=Option.some.inj ho;have hB:=g.1;have hK:∀ v w',RRf b off n c p bM U R Z 2 v w'→Below wl.heap.size wl w'→K (al.put (some 17) v) w':=fun v w' hv hb=>hKf v w' (RRf.put g hb hv)
    have d1:RRf b off n c p bM U R Z 1 (us 1) wl:=g.2 1 (hdep ⟨1,.data⟩ (by simp) rfl);have e16:al.tmps[16]?.getD undef=us 1:=by rw [← Rg.eval_getD,ha]; exact Rg.puts_eval _ _ _ (by rfl) (by simp) (by simp)
    have f1:us 1=.pointer (some ⟨bM,0,none⟩):=d1;obtain ⟨c0,c1⟩:=CM.out _ hB;have HB:=Lib.hid hB;clear ha hdep g hf hKf d1 hB;refine Rg.wpOp_of rfl rfl ?_;go_simp;exact hK _ _ rfl (Below.refl _ _)
  · intro o ho f us wl al ha g hf hdep K hKf;obtain rfl:=Option.some.inj ho;have hB:=g.1;have hK:∀ v w',RRf b off n c p bM U R Z 3 v w'→Below wl.heap.size wl w'→K (al.put (some 18) v) w':=fun v w' hv hb=>hKf v w' (RRf.put g hb hv)
    have HB:=Lib.hid hB;clear ha hdep g hf hKf hB;refine Rg.wpOp_of rfl rfl ?_;go_simp;refine (HLF.out _).mono ?_;rintro e wn ⟨y,rfl,hy,hb⟩;exact hK _ _ hy hb
  · intro o ho f us wl al ha g hf hdep K hKf;obtain rfl:=Option.some.inj ho;have hB:=g.1;have hK:∀ v w',RRf b off n c p bM U R Z 4 v w'→Below wl.heap.size wl w'→K (al.put (some 19) v) w':=fun v w' hv hb=>hKf v w' (RRf.put g hb hv)
    have d0:RRf b off n c p bM U R Z 0 (us 0) wl:=g.2 0 (hdep ⟨0,.data⟩ (by simp) rfl);have e15:al.tmps[15]?.getD undef=us 0:=by rw [← Rg.eval_getD,ha]; exact Rg.puts_eval _ _ _ (by rfl) (by simp) (by simp)
    have d2:RRf b off n c p bM U R Z 2 (us 2) wl:=g.2 2 (hdep ⟨2,.data⟩ (by simp) rfl);have e17:al.tmps[17]?.getD undef=us 2:=by rw [← Rg.eval_getD,ha]; exact Rg.puts_eval _ _ _ (by rfl) (by simp) (by simp)
    have d3:RRf b off n c p bM U R Z 3 (us 3) wl:=g.2 3 (hdep ⟨3,.data⟩ (by simp) rfl);have e18:al.tmps[18]?.getD undef=us 3:=by rw [← Rg.eval_getD,ha]; exact Rg.puts_eval _ _ _ (by rfl) (by simp) (by simp)
    have f0:us 0=.slice (some ⟨b,off,none⟩) n c:=d0;have f2:us 2=.int .i64 (p:Int):=d2;have D3:Hid (Nds wl (us 3) U):=d3;have HB:=Lib.hid hB;clear ha hdep g hf hKf d0 d2 d3 hB;refine Rg.wpOp_of rfl rfl ?_;go_simp;refine (HPU.out _ _ (D4.out.trans (HB.out.mono D4.out.size)) D3.out).mono ?_;rintro e wn ⟨y,rfl,hy,hb⟩;exact hK _ _ hy hb
  · intro o ho f us wl al ha g hf hdep K hKf;obtain rfl:=Option.some.inj ho;have hB:=g.1;have hK:∀ v w',RRf b off n c p bM U R Z 5 v w'→Below wl.heap.size wl w'→K (al.put (some 20) v) w':=fun v w' hv hb=>hKf v w' (RRf.put g hb hv)
    have d4:RRf b off n c p bM U R Z 4 (us 4) wl:=g.2 4 (hdep ⟨4,.data⟩ (by simp) rfl);have e19:al.tmps[19]?.getD undef=us 4:=by rw [← Rg.eval_getD,ha]; exact Rg.puts_eval _ _ _ (by rfl) (by simp) (by simp)
    have D4:Hid (Nds wl (us 4) R):=d4;have HB:=Lib.hid hB;clear ha hdep g hf hKf d4 hB;refine Rg.wpOp_of rfl rfl ?_;go_simp;refine (HST.out _ _ D4.out).mono ?_;rintro e wn ⟨y,rfl,hy,hb⟩;exact hK _ _ hy hb
  · intro o ho f us wl al ha g hf hdep K hKf;obtain rfl:=Option.some.inj ho;have hB:=g.1;have hK:∀ v w',RRf b off n c p bM U R Z 6 v w'→Below wl.heap.size wl w'→K (al.put (some 4) v) w':=fun v w' hv hb=>hKf v w' (RRf.put g hb hv)
    have d5:RRf b off n c p bM U R Z 5 (us 5) wl:=g.2 5 (hdep ⟨5,.data⟩ (by simp) rfl);have e20:al.tmps[20]?.getD undef=us 5:=by rw [← Rg.eval_getD,ha]; exact Rg.puts_eval _ _ _ (by rfl) (by simp) (by simp)
    have D5:Hid (Nds wl (us 5) Z):=d5;have HB:=Lib.hid hB;clear ha hdep g hf hKf d5 hB;refine Rg.wpOp_of rfl rfl ?_;go_simp;exact hK _ _ D5.out (Below.refl _ _)
  · intro o ho f us wl al ha g hf hdep K hKf;obtain rfl:=Option.some.inj ho;have hB:=g.1;have hK:∀ v w',RRf b off n c p bM U R Z 7 v w'→Below wl.heap.size wl w'→K (al.put (some 5) v) w':=fun v w' hv hb=>hKf v w' (RRf.put g hb hv)
    have HB:=Lib.hid hB;clear ha hdep g hf hKf hB;refine Rg.wpOp_of rfl rfl ?_;go_simp;exact hK _ _ rfl (Below.refl _ _)
  · intro us wz hB hR;have f4:Nds wz (us 6) Z:=hR 6;have f6:us 7=.int .i64 0:=hR 7;have F4:=Lib.hid f4;have DZ:=Lib.hid (D4.out.trans (hB.mono D4.out.size));clear hB hR f4;simp only [Rg.puts,Act.put,List.setIfInBounds_toArray,List.set_cons_zero,List.set_cons_succ,f6];go_wp2_with fail;go_ret2;exact ⟨_,rfl,F4.out,DZ.out⟩
end Go.Proofs.YtaapnkoooofalaaGreat.St

namespace Go.Proofs.YtaapnkoooofalaaGreat.Me
open Go Go.RowKit Go.Maps Go.WideMaps Rw So Se Do
set_option maxRecDepth 20000
def hE (v:Value):Option (DataW Value × List MemPlace):=some (.held v,[])
theorem lawI:Keyed Tryz.prog 3:=int_keyed Tryz.underlying3
theorem keyI (k:Int) (h:(Lit.int .i64 k).wf=true):keyOf Tryz.prog 3 (.int .i64 k)=some (.int .i64 k):=keyOf_int_mk Tryz.underlying3 h
theorem zeroW (w:World):(zeroValue 86).run Tryz.prog w=.ok (.slice none 0 0) w:=by kernel_rfl
def WD (f:Int→Value) (D:DataW Value):Prop:=∀ k:Int,D.atKey (.int .i64 k) (.held (.slice none 0 0))=.held (f k)
theorem look {w:World} {b n:Nat} {f:Int→Value} {D:DataW Value} (h:w.ownsMap Tryz.prog 3 hE b n D) (hd:WD f D) (k:Int) (hk:(Lit.int .i64 k).wf=true) :
    (Instr.lookup 87 (.map (some b)) (.int .i64 k) false).run Tryz.prog w=.ok (f k) w:=by
  obtain ⟨v,ps,hrun,hv⟩:=h.lookup lawI Tryz.underlying87 (zeroW w) (show hE (.slice none 0 0)=some (.held (.slice none 0 0),[]) from rfl) (keyI k hk);rw [hd k] at hv;rw [hrun];injection hv with hv;injection hv with hv;injection hv with hv;rw [hv]
end Go.Proofs.YtaapnkoooofalaaGreat.Me
