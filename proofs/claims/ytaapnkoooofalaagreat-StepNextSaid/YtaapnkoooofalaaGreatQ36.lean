/- The program's Enabled, round, Pick: the walks. The program's round, Pick: the walks. The program's Is: the walk. What the laws ask of package move. -/
import Derived.Test.YtaapnkoooofalaaGreatQ34
import Derived.Test.YtaapnkoooofalaaGreatQ03

namespace Go.Proofs.YtaapnkoooofalaaGreat.Me
open Go Go.RowKit Rw So Se Do
set_option maxRecDepth 20000
end Go.Proofs.YtaapnkoooofalaaGreat.Me

namespace Go.Proofs.YtaapnkoooofalaaGreat.Me
open Go Go.RowKit Rw So Se Do
set_option maxRecDepth 20000
end Go.Proofs.YtaapnkoooofalaaGreat.Me

namespace Go.Proofs.YtaapnkoooofalaaGreat.Me
open Go Go.RowKit Rw So Se Do
set_option maxRecDepth 20000
theorem mem_enR {l:List Nd} {m:Mv}:m∈enR l↔m.p∈av l∧m∈hw (kn l m.p) (fr l m.p) m.p:=by
  unfold enR;rw [List.mem_flatMap]
  constructor
  · rintro ⟨z,hz,hm⟩;obtain rfl:=(hw_up _ _ _).2 m hm;exact ⟨hz,hm⟩
  · rintro ⟨hz,hm⟩;exact ⟨m.p,hz,hm⟩
theorem bm_keep3 {w:World} {b:Nat} {m:Mv} (h:Bm w b m):∀ w',Below w.heap.size w w'→w'.cell? ⟨b,0,none⟩=some (.int .i64 m.p)∧w'.cell? ⟨b,1,none⟩=some (.int .i64 m.h):=fun _ hb=>⟨(h.below hb h.lt).cells.1,(h.below hb h.lt).cells.2.1⟩
def RIy (n0 c0:Nat) (a0:Option Addr) (mp mh:Int) (V:List Int) (R:List Mv) (y:Bool) (bM:Nat) (k:Nat) (v:Value) (w':World):Prop:=match k with
  | 0=>v=.slice a0 n0 c0
  | 1=>Ints w' v V
  | 2=>v=.pointer (some ⟨bM,0,none⟩)
  | 3=>v=.int .i64 mp
  | 4=>v=.bool true
  | 5=>v=.bool true
  | 6=>v=.slice a0 n0 c0
  | 7=>v=.pointer (some ⟨bM,0,none⟩)
  | 8=>v=.int .i64 mp
  | 9=>Mvs w' v R
  | 10=>v=.agg #[.int .i64 mp,.int .i64 mh]
  | 11=>v=.bool y
  | 12=>v=.bool y
  | 13=>v=.bool y
  | _=>True
theorem RIy.below {n0 c0:Nat} {a0:Option Addr} {mp mh:Int} {V:List Int} {R:List Mv} {y:Bool} {bM:Nat} {k:Nat} {v:Value} {w w':World} (h:RIy n0 c0 a0 mp mh V R y bM k v w) (hb:Below w.heap.size w w'):RIy n0 c0 a0 mp mh V R y bM k v w':=by
  unfold RIy at h ⊢
  split at h
  case h_2=>exact Ints.below h hb
  case h_10=>exact Mvs.below h hb
  all_goals exact h
theorem RIy.put {w4:World} {n0 c0:Nat} {a0:Option Addr} {mp mh:Int} {V:List Int} {R:List Mv} {y:Bool} {bM:Nat} {v:Value} {w w':World} {f:Nat→Bool} {us:Nat→Value} {i:Nat} (g:Rg.Kept (fun w'=>Below w4.heap.size w4 w') (RIy n0 c0 a0 mp mh V R y bM) f us w) (hb:Below w.heap.size w w') (hv:RIy n0 c0 a0 mp mh V R y bM i v w') :
    Rg.Kept (fun w'=>Below w4.heap.size w4 w') (RIy n0 c0 a0 mp mh V R y bM) (Rg.upd f i true) (Rg.upd us i v) w':=
  Rg.Kept.put (Base:=fun w'=>Below w4.heap.size w4 w') (R:=RIy n0 c0 a0 mp mh V R y bM) (fun _ _ h hb=>h.trans (hb.mono h.size)) (fun _ _ _ _ h hb=>RIy.below h hb) g hb hv
set_option maxHeartbeats 4000000 in
theorem is_yes (n0 c0:Nat) (a0:Option Addr) (mp mh:Int) (V:List Int) (R:List Mv) (y:Bool) (w:World) (hA:∀ w1,Below w.heap.size w w1→Calls Tryz.prog 39 #[.slice a0 n0 c0] w1 fun e w'=>∃ y,e=.returned y∧Ints w' y V∧Below w1.heap.size w1 w') (hV:V.length≤1000000) (hq:decide (mp∈V)=true)
    (hM:∀ w1,Below w.heap.size w w1→Calls Tryz.prog 40 #[.slice a0 n0 c0,.int .i64 mp] w1 fun e w'=>∃ y,e=.returned y∧Mvs w' y R∧Below w1.heap.size w1 w') (hR:R.length≤1000000) (hy:decide ((⟨mp,mh⟩:Mv)∈R)=y):Calls Tryz.prog 24 #[.slice a0 n0 c0,.agg #[.int .i64 mp,.int .i64 mh]] w fun e w'=>e=.returned (.bool y)∧Below w.heap.size w w':=by
  have HA:=Lib.hid hA;have HQ:=Lib.hid (fun w1 v (h:Ints w1 v V)=>hq ▸ Rx.has_any v V mp w1 h hV);have HM:=Lib.hid hM;have HR:=Lib.hid (fun w1 v (h:Mvs w1 v R)=>hy ▸ hasM_any v R ⟨mp,mh⟩ w1 h hR);have D4:=Lib.hid (below1 w (.cells #[.int .i64 mp,.int .i64 mh] 24));have CM:=Lib.hid (bm_keep3 (Bm.new w ⟨mp,mh⟩));obtain ⟨bM,hbM⟩:∃ bM,w.heap.size=bM:=⟨_,rfl⟩
  obtain ⟨w4,hw4⟩:∃ w4,w.alloc (.cells #[.int .i64 mp,.int .i64 mh] 24)=w4:=⟨_,rfl⟩
  change Hid (∀ w',Below (w.alloc (.cells #[.int .i64 mp,.int .i64 mh] 24)).heap.size (w.alloc (.cells #[.int .i64 mp,.int .i64 mh] 24)) w'→w'.cell? ⟨w.heap.size,0,none⟩=some (.int .i64 mp)∧w'.cell? ⟨w.heap.size,1,none⟩=some (.int .i64 mh)) at CM;rw [hbM,hw4] at CM;rw [hw4] at D4;clear hA hV hq hM hR hy
  go_enter Tryz.func24,Tryz.ntmps24
  go_wp2_with fail;clear hbM hw4;refine Rg.wp_region_kept (by kernel_rfl) [(0,some 5),(1,some 6),(2,some 7),(3,some 8),(4,some 9),(5,some 10),(6,some 11),(7,some 12),(8,some 13),(9,some 14),(10,some 15),(11,some 16),(12,some 17),(13,some 4)] (by rfl) (by kernel_rfl) (by kernel_rfl) (fun w'=>Below w4.heap.size w4 w') (RIy n0 c0 a0 mp mh V R y bM) (Below.refl _ _).drew ?_ ⟨⟨⟨⟨⟨⟨⟨⟨⟨⟨⟨⟨⟨⟨True.intro,?_⟩,?_⟩,?_⟩,?_⟩,?_⟩,?_⟩,?_⟩,?_⟩,?_⟩,?_⟩,?_⟩,?_⟩,?_⟩,?_⟩ ?_
  · intro k v w' hk;unfold RIy
    split
    case h_15=>trivial
    all_goals exact absurd hk (by decide)
  · intro o ho f us wl al ha g hf hdep K hKf;obtain rfl:=Option.some.inj ho;have hB:=g.1;have hK:∀ v w',RIy n0 c0 a0 mp mh V R y bM 0 v w'→Below wl.heap.size wl w'→K (al.put (some 5) v) w':=fun v w' hv hb=>hKf v w' (RIy.put g hb hv)
    have e0:al.tmps[0]?.getD undef=.slice a0 n0 c0:=by rw [← Rg.eval_getD,ha]; exact (Rg.puts_eval_ne _ _ _ (by rfl)).trans rfl
    have HB:=Lib.hid hB;clear ha hdep g hf hKf hB;refine Rg.wpOp_of rfl rfl ?_;go_simp;exact hK _ _ rfl (Below.refl _ _)
  · intro o ho f us wl al ha g hf hdep K hKf;obtain rfl:=Option.some.inj ho;have hB:=g.1;have hK:∀ v w',RIy n0 c0 a0 mp mh V R y bM 1 v w'→Below wl.heap.size wl w'→K (al.put (some 6) v) w':=fun v w' hv hb=>hKf v w' (RIy.put g hb hv)
    have d0:RIy n0 c0 a0 mp mh V R y bM 0 (us 0) wl:=g.2 0 (hdep ⟨0,.data⟩ (by simp) rfl);have e5:al.tmps[5]?.getD undef=us 0:=by rw [← Rg.eval_getD,ha]; exact Rg.puts_eval _ _ _ (by rfl) (by simp) (by simp)
    have f0:us 0=.slice a0 n0 c0:=d0;have HB:=Lib.hid hB;clear ha hdep g hf hKf d0 hB;refine Rg.wpOp_of rfl rfl ?_;go_simp;refine (HA.out _ (D4.out.trans (HB.out.mono D4.out.size))).mono ?_;rintro e wn ⟨y,rfl,hy,hb⟩;exact hK _ _ hy hb
  · intro o ho f us wl al ha g hf hdep K hKf;obtain rfl:=Option.some.inj ho;have hB:=g.1;have hK:∀ v w',RIy n0 c0 a0 mp mh V R y bM 2 v w'→Below wl.heap.size wl w'→K (al.put (some 7) v) w':=fun v w' hv hb=>hKf v w' (RIy.put g hb hv)
    have e3:al.tmps[3]?.getD undef=.pointer (some ⟨bM,0,none⟩):=by rw [← Rg.eval_getD,ha]; exact (Rg.puts_eval_ne _ _ _ (by rfl)).trans rfl
    have HB:=Lib.hid hB;clear ha hdep g hf hKf hB;refine Rg.wpOp_of rfl rfl ?_;go_simp;exact hK _ _ rfl (Below.refl _ _)
  · intro o ho f us wl al ha g hf hdep K hKf;obtain rfl:=Option.some.inj ho;have hB:=g.1;have hK:∀ v w',RIy n0 c0 a0 mp mh V R y bM 3 v w'→Below wl.heap.size wl w'→K (al.put (some 8) v) w':=fun v w' hv hb=>hKf v w' (RIy.put g hb hv)
    have d2:RIy n0 c0 a0 mp mh V R y bM 2 (us 2) wl:=g.2 2 (hdep ⟨2,.data⟩ (by simp) rfl);have e7:al.tmps[7]?.getD undef=us 2:=by rw [← Rg.eval_getD,ha]; exact Rg.puts_eval _ _ _ (by rfl) (by simp) (by simp)
    have f2:us 2=.pointer (some ⟨bM,0,none⟩):=d2;obtain ⟨c0,c1⟩:=CM.out _ hB;have HB:=Lib.hid hB;clear ha hdep g hf hKf d2 hB;refine Rg.wpOp_of rfl rfl ?_;go_simp;exact hK _ _ rfl (Below.refl _ _)
  · intro o ho f us wl al ha g hf hdep K hKf;obtain rfl:=Option.some.inj ho;have hB:=g.1;have hK:∀ v w',RIy n0 c0 a0 mp mh V R y bM 4 v w'→Below wl.heap.size wl w'→K (al.put (some 9) v) w':=fun v w' hv hb=>hKf v w' (RIy.put g hb hv)
    have d1:RIy n0 c0 a0 mp mh V R y bM 1 (us 1) wl:=g.2 1 (hdep ⟨1,.data⟩ (by simp) rfl);have e6:al.tmps[6]?.getD undef=us 1:=by rw [← Rg.eval_getD,ha]; exact Rg.puts_eval _ _ _ (by rfl) (by simp) (by simp)
    have d3:RIy n0 c0 a0 mp mh V R y bM 3 (us 3) wl:=g.2 3 (hdep ⟨3,.data⟩ (by simp) rfl);have e8:al.tmps[8]?.getD undef=us 3:=by rw [← Rg.eval_getD,ha]; exact Rg.puts_eval _ _ _ (by rfl) (by simp) (by simp)
    have D1:Hid (Ints wl (us 1) V):=d1;have f3:us 3=.int .i64 mp:=d3;have HB:=Lib.hid hB;clear ha hdep g hf hKf d1 d3 hB;refine Rg.wpOp_of rfl rfl ?_;go_simp;refine (HQ.out _ _ D1.out).mono ?_;rintro e wn ⟨rfl,hb⟩;exact hK _ _ rfl hb
  · intro o ho f us wl al ha g hf hdep K hKf;obtain rfl:=Option.some.inj ho;have hB:=g.1;have hK:∀ v w',RIy n0 c0 a0 mp mh V R y bM 5 v w'→Below wl.heap.size wl w'→K (al.put (some 10) v) w':=fun v w' hv hb=>hKf v w' (RIy.put g hb hv)
    have d4:RIy n0 c0 a0 mp mh V R y bM 4 (us 4) wl:=g.2 4 (hdep ⟨4,.data⟩ (by simp) rfl);have e9:al.tmps[9]?.getD undef=us 4:=by rw [← Rg.eval_getD,ha]; exact Rg.puts_eval _ _ _ (by rfl) (by simp) (by simp)
    have f4:us 4=.bool true:=d4;have HB:=Lib.hid hB;clear ha hdep g hf hKf d4 hB;refine Rg.wpOp_of rfl rfl ?_;go_simp;exact hK _ _ rfl (Below.refl _ _)
  · intro o ho f us wl al ha g hf hdep K hKf;obtain rfl:=Option.some.inj ho;have hB:=g.1;have hK:∀ v w',RIy n0 c0 a0 mp mh V R y bM 6 v w'→Below wl.heap.size wl w'→K (al.put (some 11) v) w':=fun v w' hv hb=>hKf v w' (RIy.put g hb hv)
    have e0:al.tmps[0]?.getD undef=.slice a0 n0 c0:=by rw [← Rg.eval_getD,ha]; exact (Rg.puts_eval_ne _ _ _ (by rfl)).trans rfl
    have dg:RIy n0 c0 a0 mp mh V R y bM 5 (us 5) wl:=g.2 5 (hdep ⟨5,.guard⟩ (by simp) rfl);have gg:al.eval (.tmp 10)=.bool true:=by rw [ha]; exact (Rg.puts_eval _ _ _ (by rfl) (by simp) (by simp)).trans dg
    have HB:=Lib.hid hB;clear ha hdep g hf hKf hB;refine Rg.wpOp_of rfl (Rg.wanted_of rfl (Rg.yielded_of (d:=10) (by rfl) gg)) ?_;go_simp;exact hK _ _ rfl (Below.refl _ _)
  · intro o ho f us wl al ha g hf hdep K hKf;obtain rfl:=Option.some.inj ho;have hB:=g.1;have hK:∀ v w',RIy n0 c0 a0 mp mh V R y bM 7 v w'→Below wl.heap.size wl w'→K (al.put (some 12) v) w':=fun v w' hv hb=>hKf v w' (RIy.put g hb hv)
    have e3:al.tmps[3]?.getD undef=.pointer (some ⟨bM,0,none⟩):=by rw [← Rg.eval_getD,ha]; exact (Rg.puts_eval_ne _ _ _ (by rfl)).trans rfl
    have dg:RIy n0 c0 a0 mp mh V R y bM 5 (us 5) wl:=g.2 5 (hdep ⟨5,.guard⟩ (by simp) rfl);have gg:al.eval (.tmp 10)=.bool true:=by rw [ha]; exact (Rg.puts_eval _ _ _ (by rfl) (by simp) (by simp)).trans dg
    have HB:=Lib.hid hB;clear ha hdep g hf hKf hB;refine Rg.wpOp_of rfl (Rg.wanted_of rfl (Rg.yielded_of (d:=10) (by rfl) gg)) ?_;go_simp;exact hK _ _ rfl (Below.refl _ _)
  · intro o ho f us wl al ha g hf hdep K hKf;obtain rfl:=Option.some.inj ho;have hB:=g.1;have hK:∀ v w',RIy n0 c0 a0 mp mh V R y bM 8 v w'→Below wl.heap.size wl w'→K (al.put (some 13) v) w':=fun v w' hv hb=>hKf v w' (RIy.put g hb hv)
    have d7:RIy n0 c0 a0 mp mh V R y bM 7 (us 7) wl:=g.2 7 (hdep ⟨7,.data⟩ (by simp) rfl);have e12:al.tmps[12]?.getD undef=us 7:=by rw [← Rg.eval_getD,ha]; exact Rg.puts_eval _ _ _ (by rfl) (by simp) (by simp)
    have dg:RIy n0 c0 a0 mp mh V R y bM 5 (us 5) wl:=g.2 5 (hdep ⟨5,.guard⟩ (by simp) rfl);have gg:al.eval (.tmp 10)=.bool true:=by rw [ha]; exact (Rg.puts_eval _ _ _ (by rfl) (by simp) (by simp)).trans dg
    have f7:us 7=.pointer (some ⟨bM,0,none⟩):=d7;obtain ⟨c0,c1⟩:=CM.out _ hB;have HB:=Lib.hid hB;clear ha hdep g hf hKf d7 hB;refine Rg.wpOp_of rfl (Rg.wanted_of rfl (Rg.yielded_of (d:=10) (by rfl) gg)) ?_;go_simp;exact hK _ _ rfl (Below.refl _ _)
  · intro o ho f us wl al ha g hf hdep K hKf;obtain rfl:=Option.some.inj ho;have hB:=g.1;have hK:∀ v w',RIy n0 c0 a0 mp mh V R y bM 9 v w'→Below wl.heap.size wl w'→K (al.put (some 14) v) w':=fun v w' hv hb=>hKf v w' (RIy.put g hb hv)
    have d6:RIy n0 c0 a0 mp mh V R y bM 6 (us 6) wl:=g.2 6 (hdep ⟨6,.data⟩ (by simp) rfl);have e11:al.tmps[11]?.getD undef=us 6:=by rw [← Rg.eval_getD,ha]; exact Rg.puts_eval _ _ _ (by rfl) (by simp) (by simp)
    have d8:RIy n0 c0 a0 mp mh V R y bM 8 (us 8) wl:=g.2 8 (hdep ⟨8,.data⟩ (by simp) rfl);have e13:al.tmps[13]?.getD undef=us 8:=by rw [← Rg.eval_getD,ha]; exact Rg.puts_eval _ _ _ (by rfl) (by simp) (by simp)
    have dg:RIy n0 c0 a0 mp mh V R y bM 5 (us 5) wl:=g.2 5 (hdep ⟨5,.guard⟩ (by simp) rfl);have gg:al.eval (.tmp 10)=.bool true:=by rw [ha]; exact (Rg.puts_eval _ _ _ (by rfl) (by simp) (by simp)).trans dg
    have f6:us 6=.slice a0 n0 c0:=d6;have f8:us 8=.int .i64 mp:=d8;have HB:=Lib.hid hB;clear ha hdep g hf hKf d6 d8 hB;refine Rg.wpOp_of rfl (Rg.wanted_of rfl (Rg.yielded_of (d:=10) (by rfl) gg)) ?_;go_simp;refine (HM.out _ (D4.out.trans (HB.out.mono D4.out.size))).mono ?_;rintro e wn ⟨y,rfl,hy,hb⟩;exact hK _ _ hy hb
  · intro o ho f us wl al ha g hf hdep K hKf;obtain rfl:=Option.some.inj ho;have hB:=g.1;have hK:∀ v w',RIy n0 c0 a0 mp mh V R y bM 10 v w'→Below wl.heap.size wl w'→K (al.put (some 15) v) w':=fun v w' hv hb=>hKf v w' (RIy.put g hb hv)
    have e3:al.tmps[3]?.getD undef=.pointer (some ⟨bM,0,none⟩):=by rw [← Rg.eval_getD,ha]; exact (Rg.puts_eval_ne _ _ _ (by rfl)).trans rfl
    have dg:RIy n0 c0 a0 mp mh V R y bM 5 (us 5) wl:=g.2 5 (hdep ⟨5,.guard⟩ (by simp) rfl);have gg:al.eval (.tmp 10)=.bool true:=by rw [ha]; exact (Rg.puts_eval _ _ _ (by rfl) (by simp) (by simp)).trans dg
    obtain ⟨c0,c1⟩:=CM.out _ hB;have HB:=Lib.hid hB;clear ha hdep g hf hKf hB;refine Rg.wpOp_of rfl (Rg.wanted_of rfl (Rg.yielded_of (d:=10) (by rfl) gg)) ?_;go_simp;exact hK _ _ rfl (Below.refl _ _)
  · intro o ho f us wl al ha g hf hdep K hKf;obtain rfl:=Option.some.inj ho;have hB:=g.1;have hK:∀ v w',RIy n0 c0 a0 mp mh V R y bM 11 v w'→Below wl.heap.size wl w'→K (al.put (some 16) v) w':=fun v w' hv hb=>hKf v w' (RIy.put g hb hv)
    have d9:RIy n0 c0 a0 mp mh V R y bM 9 (us 9) wl:=g.2 9 (hdep ⟨9,.data⟩ (by simp) rfl);have e14:al.tmps[14]?.getD undef=us 9:=by rw [← Rg.eval_getD,ha]; exact Rg.puts_eval _ _ _ (by rfl) (by simp) (by simp)
    have d10:RIy n0 c0 a0 mp mh V R y bM 10 (us 10) wl:=g.2 10 (hdep ⟨10,.data⟩ (by simp) rfl);have e15:al.tmps[15]?.getD undef=us 10:=by rw [← Rg.eval_getD,ha]; exact Rg.puts_eval _ _ _ (by rfl) (by simp) (by simp)
    have dg:RIy n0 c0 a0 mp mh V R y bM 5 (us 5) wl:=g.2 5 (hdep ⟨5,.guard⟩ (by simp) rfl);have gg:al.eval (.tmp 10)=.bool true:=by rw [ha]; exact (Rg.puts_eval _ _ _ (by rfl) (by simp) (by simp)).trans dg
    have D9:Hid (Mvs wl (us 9) R):=d9;have f10:us 10=.agg #[.int .i64 mp,.int .i64 mh]:=d10;have HB:=Lib.hid hB;clear ha hdep g hf hKf d9 d10 hB;refine Rg.wpOp_of rfl (Rg.wanted_of rfl (Rg.yielded_of (d:=10) (by rfl) gg)) ?_;go_simp;refine (HR.out _ _ D9.out).mono ?_;rintro e wn ⟨rfl,hb⟩;exact hK _ _ rfl hb
  · intro o ho f us wl al ha g hf hdep K hKf;obtain rfl:=Option.some.inj ho;have hB:=g.1;have hK:∀ v w',RIy n0 c0 a0 mp mh V R y bM 12 v w'→Below wl.heap.size wl w'→K (al.put (some 17) v) w':=fun v w' hv hb=>hKf v w' (RIy.put g hb hv)
    have d5:RIy n0 c0 a0 mp mh V R y bM 5 (us 5) wl:=g.2 5 (hdep ⟨5,.data⟩ (by simp) rfl);have e10:al.tmps[10]?.getD undef=us 5:=by rw [← Rg.eval_getD,ha]; exact Rg.puts_eval _ _ _ (by rfl) (by simp) (by simp)
    have d11:RIy n0 c0 a0 mp mh V R y bM 11 (us 11) wl:=g.2 11 (hdep ⟨11,.data⟩ (by simp) rfl);have e16:al.tmps[16]?.getD undef=us 11:=by rw [← Rg.eval_getD,ha]; exact Rg.puts_eval _ _ _ (by rfl) (by simp) (by simp)
    have f5:us 5=.bool true:=d5;have f11:us 11=.bool y:=d11;have HB:=Lib.hid hB;clear ha hdep g hf hKf d5 d11 hB;refine Rg.wpOp_of rfl rfl ?_;go_simp;exact hK _ _ rfl (Below.refl _ _)
  · intro o ho f us wl al ha g hf hdep K hKf;obtain rfl:=Option.some.inj ho;have hB:=g.1;have hK:∀ v w',RIy n0 c0 a0 mp mh V R y bM 13 v w'→Below wl.heap.size wl w'→K (al.put (some 4) v) w':=fun v w' hv hb=>hKf v w' (RIy.put g hb hv)
    have d12:RIy n0 c0 a0 mp mh V R y bM 12 (us 12) wl:=g.2 12 (hdep ⟨12,.data⟩ (by simp) rfl);have e17:al.tmps[17]?.getD undef=us 12:=by rw [← Rg.eval_getD,ha]; exact Rg.puts_eval _ _ _ (by rfl) (by simp) (by simp)
    have f12:us 12=.bool y:=d12;have HB:=Lib.hid hB;clear ha hdep g hf hKf d12 hB;refine Rg.wpOp_of rfl rfl ?_;go_simp;exact hK _ _ rfl (Below.refl _ _)
  · intro us wz hB hR;have fz:us 13=.bool y:=hR 13;have DZ:=Lib.hid (D4.out.trans (hB.mono D4.out.size));clear hB hR;simp only [Rg.puts,Act.put,List.setIfInBounds_toArray,List.set_cons_zero,List.set_cons_succ,fz];go_wp2_with fail;go_ret;exact ⟨rfl,DZ.out⟩
def RIn (n0 c0:Nat) (a0:Option Addr) (mp:Int) (V:List Int) (bM:Nat) (k:Nat) (v:Value) (w':World):Prop:=match k with
  | 0=>v=.slice a0 n0 c0
  | 1=>Ints w' v V
  | 2=>v=.pointer (some ⟨bM,0,none⟩)
  | 3=>v=.int .i64 mp
  | 4=>v=.bool false
  | 5=>v=.bool false
  | 6=>v=undef
  | 7=>v=undef
  | 8=>v=undef
  | 9=>v=undef
  | 10=>v=undef
  | 11=>v=undef
  | 12=>v=.bool false
  | 13=>v=.bool false
  | _=>True
theorem RIn.below {n0 c0:Nat} {a0:Option Addr} {mp:Int} {V:List Int} {bM:Nat} {k:Nat} {v:Value} {w w':World} (h:RIn n0 c0 a0 mp V bM k v w) (hb:Below w.heap.size w w'):RIn n0 c0 a0 mp V bM k v w':=by
  unfold RIn at h ⊢
  split at h
  case h_2=>exact Ints.below h hb
  all_goals exact h
theorem RIn.put {w4:World} {n0 c0:Nat} {a0:Option Addr} {mp:Int} {V:List Int} {bM:Nat} {v:Value} {w w':World} {f:Nat→Bool} {us:Nat→Value} {i:Nat} (g:Rg.Kept (fun w'=>Below w4.heap.size w4 w') (RIn n0 c0 a0 mp V bM) f us w) (hb:Below w.heap.size w w') (hv:RIn n0 c0 a0 mp V bM i v w') :
    Rg.Kept (fun w'=>Below w4.heap.size w4 w') (RIn n0 c0 a0 mp V bM) (Rg.upd f i true) (Rg.upd us i v) w':=
  Rg.Kept.put (Base:=fun w'=>Below w4.heap.size w4 w') (R:=RIn n0 c0 a0 mp V bM) (fun _ _ h hb=>h.trans (hb.mono h.size)) (fun _ _ _ _ h hb=>RIn.below h hb) g hb hv
set_option maxHeartbeats 4000000 in
theorem is_no (n0 c0:Nat) (a0:Option Addr) (mp mh:Int) (V:List Int) (w:World) (hA:∀ w1,Below w.heap.size w w1→Calls Tryz.prog 39 #[.slice a0 n0 c0] w1 fun e w'=>∃ y,e=.returned y∧Ints w' y V∧Below w1.heap.size w1 w') (hV:V.length≤1000000) (hq:decide (mp∈V)=false)
    : Calls Tryz.prog 24 #[.slice a0 n0 c0,.agg #[.int .i64 mp,.int .i64 mh]] w fun e w'=>e=.returned (.bool false)∧Below w.heap.size w w':=by
  have HA:=Lib.hid hA;have HQ:=Lib.hid (fun w1 v (h:Ints w1 v V)=>hq ▸ Rx.has_any v V mp w1 h hV);have D4:=Lib.hid (below1 w (.cells #[.int .i64 mp,.int .i64 mh] 24));have CM:=Lib.hid (bm_keep3 (Bm.new w ⟨mp,mh⟩));obtain ⟨bM,hbM⟩:∃ bM,w.heap.size=bM:=⟨_,rfl⟩
  obtain ⟨w4,hw4⟩:∃ w4,w.alloc (.cells #[.int .i64 mp,.int .i64 mh] 24)=w4:=⟨_,rfl⟩
  change Hid (∀ w',Below (w.alloc (.cells #[.int .i64 mp,.int .i64 mh] 24)).heap.size (w.alloc (.cells #[.int .i64 mp,.int .i64 mh] 24)) w'→w'.cell? ⟨w.heap.size,0,none⟩=some (.int .i64 mp)∧w'.cell? ⟨w.heap.size,1,none⟩=some (.int .i64 mh)) at CM;rw [hbM,hw4] at CM;rw [hw4] at D4;clear hA hV hq
  go_enter Tryz.func24,Tryz.ntmps24
  go_wp2_with fail;clear hbM hw4;refine Rg.wp_region_kept (by kernel_rfl) [(0,some 5),(1,some 6),(2,some 7),(3,some 8),(4,some 9),(5,some 10),(6,some 11),(7,some 12),(8,some 13),(9,some 14),(10,some 15),(11,some 16),(12,some 17),(13,some 4)] (by rfl) (by kernel_rfl) (by kernel_rfl) (fun w'=>Below w4.heap.size w4 w') (RIn n0 c0 a0 mp V bM) (Below.refl _ _).drew ?_ ⟨⟨⟨⟨⟨⟨⟨⟨⟨⟨⟨⟨⟨⟨True.intro,?_⟩,?_⟩,?_⟩,?_⟩,?_⟩,?_⟩,?_⟩,?_⟩,?_⟩,?_⟩,?_⟩,?_⟩,?_⟩,?_⟩ ?_
  · intro k v w' hk;unfold RIn
    split
    case h_15=>trivial
    all_goals exact absurd hk (by decide)
  · intro o ho f us wl al ha g hf hdep K hKf;obtain rfl:=Option.some.inj ho;have hB:=g.1;have hK:∀ v w',RIn n0 c0 a0 mp V bM 0 v w'→Below wl.heap.size wl w'→K (al.put (some 5) v) w':=fun v w' hv hb=>hKf v w' (RIn.put g hb hv)
    have e0:al.tmps[0]?.getD undef=.slice a0 n0 c0:=by rw [← Rg.eval_getD,ha]; exact (Rg.puts_eval_ne _ _ _ (by rfl)).trans rfl
    have HB:=Lib.hid hB;clear ha hdep g hf hKf hB;refine Rg.wpOp_of rfl rfl ?_;go_simp;exact hK _ _ rfl (Below.refl _ _)
  · intro o ho f us wl al ha g hf hdep K hKf;obtain rfl:=Option.some.inj ho;have hB:=g.1;have hK:∀ v w',RIn n0 c0 a0 mp V bM 1 v w'→Below wl.heap.size wl w'→K (al.put (some 6) v) w':=fun v w' hv hb=>hKf v w' (RIn.put g hb hv)
    have d0:RIn n0 c0 a0 mp V bM 0 (us 0) wl:=g.2 0 (hdep ⟨0,.data⟩ (by simp) rfl);have e5:al.tmps[5]?.getD undef=us 0:=by rw [← Rg.eval_getD,ha]; exact Rg.puts_eval _ _ _ (by rfl) (by simp) (by simp)
    have f0:us 0=.slice a0 n0 c0:=d0;have HB:=Lib.hid hB;clear ha hdep g hf hKf d0 hB;refine Rg.wpOp_of rfl rfl ?_;go_simp;refine (HA.out _ (D4.out.trans (HB.out.mono D4.out.size))).mono ?_;rintro e wn ⟨y,rfl,hy,hb⟩;exact hK _ _ hy hb
  · intro o ho f us wl al ha g hf hdep K hKf;obtain rfl:=Option.some.inj ho;have hB:=g.1;have hK:∀ v w',RIn n0 c0 a0 mp V bM 2 v w'→Below wl.heap.size wl w'→K (al.put (some 7) v) w':=fun v w' hv hb=>hKf v w' (RIn.put g hb hv)
    have e3:al.tmps[3]?.getD undef=.pointer (some ⟨bM,0,none⟩):=by rw [← Rg.eval_getD,ha]; exact (Rg.puts_eval_ne _ _ _ (by rfl)).trans rfl
    have HB:=Lib.hid hB;clear ha hdep g hf hKf hB;refine Rg.wpOp_of rfl rfl ?_;go_simp;exact hK _ _ rfl (Below.refl _ _)
  · intro o ho f us wl al ha g hf hdep K hKf;obtain rfl:=Option.some.inj ho;have hB:=g.1;have hK:∀ v w',RIn n0 c0 a0 mp V bM 3 v w'→Below wl.heap.size wl w'→K (al.put (some 8) v) w':=fun v w' hv hb=>hKf v w' (RIn.put g hb hv)
    have d2:RIn n0 c0 a0 mp V bM 2 (us 2) wl:=g.2 2 (hdep ⟨2,.data⟩ (by simp) rfl);have e7:al.tmps[7]?.getD undef=us 2:=by rw [← Rg.eval_getD,ha]; exact Rg.puts_eval _ _ _ (by rfl) (by simp) (by simp)
    have f2:us 2=.pointer (some ⟨bM,0,none⟩):=d2;obtain ⟨c0,c1⟩:=CM.out _ hB;have HB:=Lib.hid hB;clear ha hdep g hf hKf d2 hB;refine Rg.wpOp_of rfl rfl ?_;go_simp;exact hK _ _ rfl (Below.refl _ _)
  · intro o ho f us wl al ha g hf hdep K hKf;obtain rfl:=Option.some.inj ho;have hB:=g.1;have hK:∀ v w',RIn n0 c0 a0 mp V bM 4 v w'→Below wl.heap.size wl w'→K (al.put (some 9) v) w':=fun v w' hv hb=>hKf v w' (RIn.put g hb hv)
    have d1:RIn n0 c0 a0 mp V bM 1 (us 1) wl:=g.2 1 (hdep ⟨1,.data⟩ (by simp) rfl);have e6:al.tmps[6]?.getD undef=us 1:=by rw [← Rg.eval_getD,ha]; exact Rg.puts_eval _ _ _ (by rfl) (by simp) (by simp)
    have d3:RIn n0 c0 a0 mp V bM 3 (us 3) wl:=g.2 3 (hdep ⟨3,.data⟩ (by simp) rfl);have e8:al.tmps[8]?.getD undef=us 3:=by rw [← Rg.eval_getD,ha]; exact Rg.puts_eval _ _ _ (by rfl) (by simp) (by simp)
    have D1:Hid (Ints wl (us 1) V):=d1;have f3:us 3=.int .i64 mp:=d3;have HB:=Lib.hid hB;clear ha hdep g hf hKf d1 d3 hB;refine Rg.wpOp_of rfl rfl ?_;go_simp;refine (HQ.out _ _ D1.out).mono ?_;rintro e wn ⟨rfl,hb⟩;exact hK _ _ rfl hb
  · intro o ho f us wl al ha g hf hdep K hKf;obtain rfl:=Option.some.inj ho;have hB:=g.1;have hK:∀ v w',RIn n0 c0 a0 mp V bM 5 v w'→Below wl.heap.size wl w'→K (al.put (some 10) v) w':=fun v w' hv hb=>hKf v w' (RIn.put g hb hv)
    have d4:RIn n0 c0 a0 mp V bM 4 (us 4) wl:=g.2 4 (hdep ⟨4,.data⟩ (by simp) rfl);have e9:al.tmps[9]?.getD undef=us 4:=by rw [← Rg.eval_getD,ha]; exact Rg.puts_eval _ _ _ (by rfl) (by simp) (by simp)
    have f4:us 4=.bool false:=d4;have HB:=Lib.hid hB;clear ha hdep g hf hKf d4 hB;refine Rg.wpOp_of rfl rfl ?_;go_simp;exact hK _ _ rfl (Below.refl _ _)
  · intro o ho f us wl al ha g hf hdep K hKf;obtain rfl:=Option.some.inj ho;have hB:=g.1;have hK:∀ v w',RIn n0 c0 a0 mp V bM 6 v w'→Below wl.heap.size wl w'→K (al.put (some 11) v) w':=fun v w' hv hb=>hKf v w' (RIn.put g hb hv)
    have dg:RIn n0 c0 a0 mp V bM 5 (us 5) wl:=g.2 5 (hdep ⟨5,.guard⟩ (by simp) rfl);have gg:al.eval (.tmp 10)=.bool false:=by rw [ha]; exact (Rg.puts_eval _ _ _ (by rfl) (by simp) (by simp)).trans dg
    refine Rg.wpOp_off rfl (Rg.unwanted_of (b:=true) rfl (Rg.yielded_of (d:=10) (by rfl) gg)) ?_;exact hK _ _ rfl (Below.refl _ _)
  · intro o ho f us wl al ha g hf hdep K hKf;obtain rfl:=Option.some.inj ho;have hB:=g.1;have hK:∀ v w',RIn n0 c0 a0 mp V bM 7 v w'→Below wl.heap.size wl w'→K (al.put (some 12) v) w':=fun v w' hv hb=>hKf v w' (RIn.put g hb hv)
    have dg:RIn n0 c0 a0 mp V bM 5 (us 5) wl:=g.2 5 (hdep ⟨5,.guard⟩ (by simp) rfl);have gg:al.eval (.tmp 10)=.bool false:=by rw [ha]; exact (Rg.puts_eval _ _ _ (by rfl) (by simp) (by simp)).trans dg
    refine Rg.wpOp_off rfl (Rg.unwanted_of (b:=true) rfl (Rg.yielded_of (d:=10) (by rfl) gg)) ?_;exact hK _ _ rfl (Below.refl _ _)
  · intro o ho f us wl al ha g hf hdep K hKf;obtain rfl:=Option.some.inj ho;have hB:=g.1;have hK:∀ v w',RIn n0 c0 a0 mp V bM 8 v w'→Below wl.heap.size wl w'→K (al.put (some 13) v) w':=fun v w' hv hb=>hKf v w' (RIn.put g hb hv)
    have dg:RIn n0 c0 a0 mp V bM 5 (us 5) wl:=g.2 5 (hdep ⟨5,.guard⟩ (by simp) rfl);have gg:al.eval (.tmp 10)=.bool false:=by rw [ha]; exact (Rg.puts_eval _ _ _ (by rfl) (by simp) (by simp)).trans dg
    refine Rg.wpOp_off rfl (Rg.unwanted_of (b:=true) rfl (Rg.yielded_of (d:=10) (by rfl) gg)) ?_;exact hK _ _ rfl (Below.refl _ _)
  · intro o ho f us wl al ha g hf hdep K hKf;obtain rfl:=Option.some.inj ho;have hB:=g.1;have hK:∀ v w',RIn n0 c0 a0 mp V bM 9 v w'→Below wl.heap.size wl w'→K (al.put (some 14) v) w':=fun v w' hv hb=>hKf v w' (RIn.put g hb hv)
    have dg:RIn n0 c0 a0 mp V bM 5 (us 5) wl:=g.2 5 (hdep ⟨5,.guard⟩ (by simp) rfl);have gg:al.eval (.tmp 10)=.bool false:=by rw [ha]; exact (Rg.puts_eval _ _ _ (by rfl) (by simp) (by simp)).trans dg
    refine Rg.wpOp_off rfl (Rg.unwanted_of (b:=true) rfl (Rg.yielded_of (d:=10) (by rfl) gg)) ?_;exact hK _ _ rfl (Below.refl _ _)
  · intro o ho f us wl al ha g hf hdep K hKf;obtain rfl:=Option.some.inj ho;have hB:=g.1;have hK:∀ v w',RIn n0 c0 a0 mp V bM 10 v w'→Below wl.heap.size wl w'→K (al.put (some 15) v) w':=fun v w' hv hb=>hKf v w' (RIn.put g hb hv)
    have dg:RIn n0 c0 a0 mp V bM 5 (us 5) wl:=g.2 5 (hdep ⟨5,.guard⟩ (by simp) rfl);have gg:al.eval (.tmp 10)=.bool false:=by rw [ha]; exact (Rg.puts_eval _ _ _ (by rfl) (by simp) (by simp)).trans dg
    refine Rg.wpOp_off rfl (Rg.unwanted_of (b:=true) rfl (Rg.yielded_of (d:=10) (by rfl) gg)) ?_;exact hK _ _ rfl (Below.refl _ _)
  · intro o ho f us wl al ha g hf hdep K hKf;obtain rfl:=Option.some.inj ho;have hB:=g.1;have hK:∀ v w',RIn n0 c0 a0 mp V bM 11 v w'→Below wl.heap.size wl w'→K (al.put (some 16) v) w':=fun v w' hv hb=>hKf v w' (RIn.put g hb hv)
    have dg:RIn n0 c0 a0 mp V bM 5 (us 5) wl:=g.2 5 (hdep ⟨5,.guard⟩ (by simp) rfl);have gg:al.eval (.tmp 10)=.bool false:=by rw [ha]; exact (Rg.puts_eval _ _ _ (by rfl) (by simp) (by simp)).trans dg
    refine Rg.wpOp_off rfl (Rg.unwanted_of (b:=true) rfl (Rg.yielded_of (d:=10) (by rfl) gg)) ?_;exact hK _ _ rfl (Below.refl _ _)
  · intro o ho f us wl al ha g hf hdep K hKf;obtain rfl:=Option.some.inj ho;have hB:=g.1;have hK:∀ v w',RIn n0 c0 a0 mp V bM 12 v w'→Below wl.heap.size wl w'→K (al.put (some 17) v) w':=fun v w' hv hb=>hKf v w' (RIn.put g hb hv)
    have d5:RIn n0 c0 a0 mp V bM 5 (us 5) wl:=g.2 5 (hdep ⟨5,.data⟩ (by simp) rfl);have e10:al.tmps[10]?.getD undef=us 5:=by rw [← Rg.eval_getD,ha]; exact Rg.puts_eval _ _ _ (by rfl) (by simp) (by simp)
    have d11:RIn n0 c0 a0 mp V bM 11 (us 11) wl:=g.2 11 (hdep ⟨11,.data⟩ (by simp) rfl);have e16:al.tmps[16]?.getD undef=us 11:=by rw [← Rg.eval_getD,ha]; exact Rg.puts_eval _ _ _ (by rfl) (by simp) (by simp)
    have f5:us 5=.bool false:=d5;have f11:us 11=undef:=d11;have HB:=Lib.hid hB;clear ha hdep g hf hKf d5 d11 hB;refine Rg.wpOp_of rfl rfl ?_;go_simp;exact hK _ _ rfl (Below.refl _ _)
  · intro o ho f us wl al ha g hf hdep K hKf;obtain rfl:=Option.some.inj ho;have hB:=g.1;have hK:∀ v w',RIn n0 c0 a0 mp V bM 13 v w'→Below wl.heap.size wl w'→K (al.put (some 4) v) w':=fun v w' hv hb=>hKf v w' (RIn.put g hb hv)
    have d12:RIn n0 c0 a0 mp V bM 12 (us 12) wl:=g.2 12 (hdep ⟨12,.data⟩ (by simp) rfl);have e17:al.tmps[17]?.getD undef=us 12:=by rw [← Rg.eval_getD,ha]; exact Rg.puts_eval _ _ _ (by rfl) (by simp) (by simp)
    have f12:us 12=.bool false:=d12;have HB:=Lib.hid hB;clear ha hdep g hf hKf d12 hB;refine Rg.wpOp_of rfl rfl ?_;go_simp;exact hK _ _ rfl (Below.refl _ _)
  · intro us wz hB hR;have fz:us 13=.bool false:=hR 13;have DZ:=Lib.hid (D4.out.trans (hB.mono D4.out.size));clear hB hR;simp only [Rg.puts,Act.put,List.setIfInBounds_toArray,List.set_cons_zero,List.set_cons_succ,fz];go_wp2_with fail;go_ret;exact ⟨rfl,DZ.out⟩
theorem isP_any (v:Value) (l:List Nd) (m:Mv) (w:World) (hv:Nds w v l) (hl:l.length≤1000) (hm:Nms l) :
    Calls Tryz.prog 24 #[v,mvV m] w fun e w'=>e=.returned (.bool (decide (m∈enR l)))∧Below w.heap.size w w':=by
  have hA:=fun w1 (hb:Below w.heap.size w w1)=>actP_any v l w1 (hv.below hb) hl hm
  have hV:(av l).length≤1000000:=Nat.le_trans (av_len l) (by omega);obtain ⟨_,a0,c0,rfl,-⟩:=id hv;obtain ⟨mp,mh⟩:=m
  by_cases hz:mp∈av l
  · rw [show decide ((⟨mp,mh⟩:Mv)∈enR l)=decide ((⟨mp,mh⟩:Mv)∈hw (kn l mp) (fr l mp) mp) from decide_eq_decide.2 (mem_enR.trans ⟨fun h=>h.2,fun h=>⟨hz,h⟩⟩)];exact is_yes _ c0 a0 mp mh _ _ _ w hA hV (decide_eq_true hz) (fun w1 hb=>movesAt_any _ l mp w1 (hv.below hb) hl hm hz) (Nat.le_trans (hw_len _ _ _) (by omega)) rfl
  · rw [show decide ((⟨mp,mh⟩:Mv)∈enR l)=false from decide_eq_false fun h=>hz (mem_enR.1 h).1];exact is_no _ c0 a0 mp mh _ w hA hV (decide_eq_false hz)
end Go.Proofs.YtaapnkoooofalaaGreat.Me

namespace Go.Proofs.YtaapnkoooofalaaGreat.Me
open Go Go.RowKit Rw So Se Do
set_option maxRecDepth 20000
end Go.Proofs.YtaapnkoooofalaaGreat.Me
