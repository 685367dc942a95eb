/- Laws that the last text leans on. -/
import Derived.Test.YtpingbiibbmcaaaGreatDoorQ32

set_option maxRecDepth 20000
set_option maxHeartbeats 8000000
namespace Go.Proofs.YtpingbiibbmcaaaGreatDoor
namespace Me
open Go Go.RowKit Rw YtpingbiibbmcaaaGreatDoor.So Se Do
theorem v1b {l:List Nd} {m:Mv}:m∈enR l↔m.p∈av l∧m∈hw (kn l m.p) (fr l m.p) m.p:=by
  unfold enR;rw [List.mem_flatMap]
  constructor
  · rintro ⟨z,hz,hm⟩;obtain rfl:=(hw_up _ _ _).2 m hm;exact ⟨hz,hm⟩
  · rintro ⟨hz,hm⟩;exact ⟨m.p,hz,hm⟩
theorem y4r {w:World} {b:Nat} {m:Mv} (h:Bm w b m):∀ w',Below w.heap.size w w'→w'.cell? ⟨b,0,none⟩=some (.int .i64 m.p)∧w'.cell? ⟨b,1,none⟩=some (.int .i64 m.h):=fun _ hb=>⟨(h.below hb h.lt).cells.1,(h.below hb h.lt).cells.2.1⟩
def RIy (n0 c0:Nat) (a0:Option Addr) (mp mh:Int) (V:List Int) (R:List Mv) (y:Bool) (bM:Nat) (k:Nat) (v:Value) (w':World):Prop:=match k with
  | 0=>v=.slice a0 n0 c0
  | 1=>Ints w' v V
  | 2=>v=.pointer (some ⟨bM,0,none⟩)
  | 3=>v=.int .i64 mp
  | 4=>v=.bool true
  | 5=>v=.bool true
  | 6=>v=.slice a0 n0 c0
  | 7=>v=.pointer (some ⟨bM,0,none⟩)
  | 8=>v=.int .i64 mp
  | 9=>Mvs w' v R
  | 10=>v=.agg #[.int .i64 mp,.int .i64 mh]
  | 11=>v=.bool y
  | 12=>v=.bool y
  | 13=>v=.bool y
  | _=>True
theorem RIy.below {n0 c0:Nat} {a0:Option Addr} {mp mh:Int} {V:List Int} {R:List Mv} {y:Bool} {bM:Nat} {k:Nat} {v:Value} {w w':World} (h:RIy n0 c0 a0 mp mh V R y bM k v w) (hb:Below w.heap.size w w'):RIy n0 c0 a0 mp mh V R y bM k v w':=by
  unfold RIy at h ⊢
  split at h
  case h_2=>exact Ints.below h hb
  case h_10=>exact Mvs.below h hb
  all_goals exact h
theorem is_yes (n0 c0:Nat) (a0:Option Addr) (mp mh:Int) (V:List Int) (R:List Mv) (y:Bool) (w:World) (hA:∀ w1,Below w.heap.size w w1→Calls Tryz.prog 67 #[.slice a0 n0 c0] w1 fun e w'=>∃ y,e=.returned y∧Ints w' y V∧Below w1.heap.size w1 w') (hV:V.length≤1000000) (hq:decide (mp∈V)=true)
    (hM:∀ w1,Below w.heap.size w w1→Calls Tryz.prog 68 #[.slice a0 n0 c0,.int .i64 mp] w1 fun e w'=>∃ y,e=.returned y∧Mvs w' y R∧Below w1.heap.size w1 w') (hR:R.length≤1000000) (hy:decide ((⟨mp,mh⟩:Mv)∈R)=y):Calls Tryz.prog 128 #[.slice a0 n0 c0,.agg #[.int .i64 mp,.int .i64 mh]] w fun e w'=>e=.returned (.bool y)∧Below w.heap.size w w':=by
  have HA:=Lib.hid hA;have HQ:=Lib.hid (fun w1 v (h:Ints w1 v V)=>hq ▸ Rx.y0e v V mp w1 h hV);have HM:=Lib.hid hM;have HR:=Lib.hid (fun w1 v (h:Mvs w1 v R)=>hy ▸ hasM_any v R ⟨mp,mh⟩ w1 h hR);have D4:=Lib.hid (z0b w (.cells #[.int .i64 mp,.int .i64 mh] 71));have CM:=Lib.hid (y4r (Bm.new w ⟨mp,mh⟩));obtain ⟨bM,hbM⟩:∃ bM,w.heap.size=bM:=⟨_,rfl⟩
  obtain ⟨w4,hw4⟩:∃ w4,w.alloc (.cells #[.int .i64 mp,.int .i64 mh] 71)=w4:=⟨_,rfl⟩
  change Hid (∀ w',Below (w.alloc (.cells #[.int .i64 mp,.int .i64 mh] 71)).heap.size (w.alloc (.cells #[.int .i64 mp,.int .i64 mh] 71)) w'→w'.cell? ⟨w.heap.size,0,none⟩=some (.int .i64 mp)∧w'.cell? ⟨w.heap.size,1,none⟩=some (.int .i64 mh)) at CM;rw [hbM,hw4] at CM;rw [hw4] at D4;clear hA hV hq hM hR hy
  go_enter Tryz.func128,Tryz.ntmps128
  go_wp2_with fail;clear hbM hw4;refine Rg.z3h (by kernel_rfl) [(0,some 5),(1,some 6),(2,some 7),(3,some 8),(4,some 9),(5,some 10),(6,some 11),(7,some 12),(8,some 13),(9,some 14),(10,some 15),(11,some 16),(12,some 17),(13,some 4)] (by rfl) (by kernel_rfl) (by kernel_rfl) (fun w'=>Below w4.heap.size w4 w') (RIy n0 c0 a0 mp mh V R y bM) (Below.refl _ _).drew ?_ (fun _ _ h hb=>h.trans (hb.mono h.size)) (fun _ _ _ _ h hb=>RIy.below h hb) ⟨⟨⟨⟨⟨⟨⟨⟨⟨⟨⟨⟨⟨⟨True.intro,?_⟩,?_⟩,?_⟩,?_⟩,?_⟩,?_⟩,?_⟩,?_⟩,?_⟩,?_⟩,?_⟩,?_⟩,?_⟩,?_⟩ ?_
  · intro k v w' hk;unfold RIy
    split
    case h_15=>trivial
    all_goals exact absurd hk (by decide)
  · intro o ho us wl al ha hB D K hK;obtain rfl:=Option.some.inj ho;have e0:al.tmps[0]?.getD undef=.slice a0 n0 c0:=(Rg.z6l ha (by rfl)).trans rfl;have HB:=Lib.hid hB;refine Rg.z0d rfl rfl ?_;clear ha D hB;go_simp;exact hK _ _ rfl (Below.refl _ _)
  · intro o ho us wl al ha hB D K hK;obtain rfl:=Option.some.inj ho;have e5:=Rg.e_in (i:=0) (d:=5) ha (by rfl) (by simp) (by simp);have f0:us 0=.slice a0 n0 c0:=D ⟨0,.data⟩ (by simp) rfl;have HB:=Lib.hid hB;refine Rg.z0d rfl rfl ?_;clear ha D hB;go_simp;refine (HA.out _ (D4.out.trans (HB.out.mono D4.out.size))).mono ?_;rintro e wn ⟨y,rfl,hy,hb⟩;exact hK _ _ hy hb
  · intro o ho us wl al ha hB D K hK;obtain rfl:=Option.some.inj ho;have e3:al.tmps[3]?.getD undef=.pointer (some ⟨bM,0,none⟩):=(Rg.z6l ha (by rfl)).trans rfl;have HB:=Lib.hid hB;refine Rg.z0d rfl rfl ?_;clear ha D hB;go_simp;exact hK _ _ rfl (Below.refl _ _)
  · intro o ho us wl al ha hB D K hK;obtain rfl:=Option.some.inj ho;have e7:=Rg.e_in (i:=2) (d:=7) ha (by rfl) (by simp) (by simp);have f2:us 2=.pointer (some ⟨bM,0,none⟩):=D ⟨2,.data⟩ (by simp) rfl;obtain ⟨c0,c1⟩:=CM.out _ hB;have HB:=Lib.hid hB;refine Rg.z0d rfl rfl ?_;clear ha D hB;go_simp;exact hK _ _ rfl (Below.refl _ _)
  · intro o ho us wl al ha hB D K hK;obtain rfl:=Option.some.inj ho;have e6:=Rg.e_in (i:=1) (d:=6) ha (by rfl) (by simp) (by simp);have D1:Hid (Ints wl (us 1) V):=D ⟨1,.data⟩ (by simp) rfl;have e8:=Rg.e_in (i:=3) (d:=8) ha (by rfl) (by simp) (by simp);have f3:us 3=.int .i64 mp:=D ⟨3,.data⟩ (by simp) rfl;have HB:=Lib.hid hB;refine Rg.z0d rfl rfl ?_;clear ha D hB;go_simp;refine (HQ.out _ _ D1.out).mono ?_;rintro e wn ⟨rfl,hb⟩;exact hK _ _ rfl hb
  · intro o ho us wl al ha hB D K hK;obtain rfl:=Option.some.inj ho;have e9:=Rg.e_in (i:=4) (d:=9) ha (by rfl) (by simp) (by simp);have f4:us 4=.bool true:=D ⟨4,.data⟩ (by simp) rfl;have HB:=Lib.hid hB;refine Rg.z0d rfl rfl ?_;clear ha D hB;go_simp;exact hK _ _ rfl (Below.refl _ _)
  · intro o ho us wl al ha hB D K hK;obtain rfl:=Option.some.inj ho;have e0:al.tmps[0]?.getD undef=.slice a0 n0 c0:=(Rg.z6l ha (by rfl)).trans rfl;have HB:=Lib.hid hB;refine Rg.z0d rfl (Rg.z3j rfl (Rg.z0y (d:=10) (by rfl) (Rg.g_in (d:=10) ha (by rfl) (by simp) (by simp) (D ⟨5,.guard⟩ (by simp) rfl:us 5=.bool true)))) ?_;clear ha D hB;go_simp;exact hK _ _ rfl (Below.refl _ _)
  · intro o ho us wl al ha hB D K hK;obtain rfl:=Option.some.inj ho;have e3:al.tmps[3]?.getD undef=.pointer (some ⟨bM,0,none⟩):=(Rg.z6l ha (by rfl)).trans rfl;have HB:=Lib.hid hB;refine Rg.z0d rfl (Rg.z3j rfl (Rg.z0y (d:=10) (by rfl) (Rg.g_in (d:=10) ha (by rfl) (by simp) (by simp) (D ⟨5,.guard⟩ (by simp) rfl:us 5=.bool true)))) ?_;clear ha D hB;go_simp;exact hK _ _ rfl (Below.refl _ _)
  · intro o ho us wl al ha hB D K hK;obtain rfl:=Option.some.inj ho;have e12:=Rg.e_in (i:=7) (d:=12) ha (by rfl) (by simp) (by simp);have f7:us 7=.pointer (some ⟨bM,0,none⟩):=D ⟨7,.data⟩ (by simp) rfl;obtain ⟨c0,c1⟩:=CM.out _ hB;have HB:=Lib.hid hB;refine Rg.z0d rfl (Rg.z3j rfl (Rg.z0y (d:=10) (by rfl) (Rg.g_in (d:=10) ha (by rfl) (by simp) (by simp) (D ⟨5,.guard⟩ (by simp) rfl:us 5=.bool true)))) ?_;clear ha D hB;go_simp;exact hK _ _ rfl (Below.refl _ _)
  · intro o ho us wl al ha hB D K hK;obtain rfl:=Option.some.inj ho;have e11:=Rg.e_in (i:=6) (d:=11) ha (by rfl) (by simp) (by simp);have f6:us 6=.slice a0 n0 c0:=D ⟨6,.data⟩ (by simp) rfl;have e13:=Rg.e_in (i:=8) (d:=13) ha (by rfl) (by simp) (by simp);have f8:us 8=.int .i64 mp:=D ⟨8,.data⟩ (by simp) rfl;have HB:=Lib.hid hB;refine Rg.z0d rfl (Rg.z3j rfl (Rg.z0y (d:=10) (by rfl) (Rg.g_in (d:=10) ha (by rfl) (by simp) (by simp) (D ⟨5,.guard⟩ (by simp) rfl:us 5=.bool true)))) ?_;clear ha D hB;go_simp;refine (HM.out _ (D4.out.trans (HB.out.mono D4.out.size))).mono ?_;rintro e wn ⟨y,rfl,hy,hb⟩;exact hK _ _ hy hb
  · intro o ho us wl al ha hB D K hK;obtain rfl:=Option.some.inj ho;have e3:al.tmps[3]?.getD undef=.pointer (some ⟨bM,0,none⟩):=(Rg.z6l ha (by rfl)).trans rfl;obtain ⟨c0,c1⟩:=CM.out _ hB;have HB:=Lib.hid hB;refine Rg.z0d rfl (Rg.z3j rfl (Rg.z0y (d:=10) (by rfl) (Rg.g_in (d:=10) ha (by rfl) (by simp) (by simp) (D ⟨5,.guard⟩ (by simp) rfl:us 5=.bool true)))) ?_;clear ha D hB;go_simp;exact hK _ _ rfl (Below.refl _ _)
  · intro o ho us wl al ha hB D K hK;obtain rfl:=Option.some.inj ho;have e14:=Rg.e_in (i:=9) (d:=14) ha (by rfl) (by simp) (by simp);have D9:Hid (Mvs wl (us 9) R):=D ⟨9,.data⟩ (by simp) rfl;have e15:=Rg.e_in (i:=10) (d:=15) ha (by rfl) (by simp) (by simp);have f10:us 10=.agg #[.int .i64 mp,.int .i64 mh]:=D ⟨10,.data⟩ (by simp) rfl;have HB:=Lib.hid hB;refine Rg.z0d rfl (Rg.z3j rfl (Rg.z0y (d:=10) (by rfl) (Rg.g_in (d:=10) ha (by rfl) (by simp) (by simp) (D ⟨5,.guard⟩ (by simp) rfl:us 5=.bool true)))) ?_;clear ha D hB;go_simp;refine (HR.out _ _ D9.out).mono ?_;rintro e wn ⟨rfl,hb⟩;exact hK _ _ rfl hb
  · intro o ho us wl al ha hB D K hK;obtain rfl:=Option.some.inj ho;have e10:=Rg.e_in (i:=5) (d:=10) ha (by rfl) (by simp) (by simp);have f5:us 5=.bool true:=D ⟨5,.data⟩ (by simp) rfl;have e16:=Rg.e_in (i:=11) (d:=16) ha (by rfl) (by simp) (by simp);have f11:us 11=.bool y:=D ⟨11,.data⟩ (by simp) rfl;have HB:=Lib.hid hB;refine Rg.z0d rfl rfl ?_;clear ha D hB;go_simp;exact hK _ _ rfl (Below.refl _ _)
  · intro o ho us wl al ha hB D K hK;obtain rfl:=Option.some.inj ho;have e17:=Rg.e_in (i:=12) (d:=17) ha (by rfl) (by simp) (by simp);have f12:us 12=.bool y:=D ⟨12,.data⟩ (by simp) rfl;have HB:=Lib.hid hB;refine Rg.z0d rfl rfl ?_;clear ha D hB;go_simp;exact hK _ _ rfl (Below.refl _ _)
  · intro us wz hB hR;have fz:us 13=.bool y:=hR 13;have DZ:=Lib.hid (D4.out.trans (hB.mono D4.out.size));clear hB hR;simp only [Rg.puts,Act.put,List.setIfInBounds_toArray,List.set_cons_zero,List.set_cons_succ,fz];go_wp2_with fail;go_ret;exact ⟨rfl,DZ.out⟩
def RIn (n0 c0:Nat) (a0:Option Addr) (mp:Int) (V:List Int) (bM:Nat) (k:Nat) (v:Value) (w':World):Prop:=match k with
  | 0=>v=.slice a0 n0 c0
  | 1=>Ints w' v V
  | 2=>v=.pointer (some ⟨bM,0,none⟩)
  | 3=>v=.int .i64 mp
  | 4=>v=.bool false
  | 5=>v=.bool false
  | 6=>v=undef
  | 7=>v=undef
  | 8=>v=undef
  | 9=>v=undef
  | 10=>v=undef
  | 11=>v=undef
  | 12=>v=.bool false
  | 13=>v=.bool false
  | _=>True
theorem RIn.below {n0 c0:Nat} {a0:Option Addr} {mp:Int} {V:List Int} {bM:Nat} {k:Nat} {v:Value} {w w':World} (h:RIn n0 c0 a0 mp V bM k v w) (hb:Below w.heap.size w w'):RIn n0 c0 a0 mp V bM k v w':=by
  unfold RIn at h ⊢
  split at h
  case h_2=>exact Ints.below h hb
  all_goals exact h
theorem is_no (n0 c0:Nat) (a0:Option Addr) (mp mh:Int) (V:List Int) (w:World) (hA:∀ w1,Below w.heap.size w w1→Calls Tryz.prog 67 #[.slice a0 n0 c0] w1 fun e w'=>∃ y,e=.returned y∧Ints w' y V∧Below w1.heap.size w1 w') (hV:V.length≤1000000) (hq:decide (mp∈V)=false)
    : Calls Tryz.prog 128 #[.slice a0 n0 c0,.agg #[.int .i64 mp,.int .i64 mh]] w fun e w'=>e=.returned (.bool false)∧Below w.heap.size w w':=by
  have HA:=Lib.hid hA;have HQ:=Lib.hid (fun w1 v (h:Ints w1 v V)=>hq ▸ Rx.y0e v V mp w1 h hV);have D4:=Lib.hid (z0b w (.cells #[.int .i64 mp,.int .i64 mh] 71));have CM:=Lib.hid (y4r (Bm.new w ⟨mp,mh⟩));obtain ⟨bM,hbM⟩:∃ bM,w.heap.size=bM:=⟨_,rfl⟩
  obtain ⟨w4,hw4⟩:∃ w4,w.alloc (.cells #[.int .i64 mp,.int .i64 mh] 71)=w4:=⟨_,rfl⟩
  change Hid (∀ w',Below (w.alloc (.cells #[.int .i64 mp,.int .i64 mh] 71)).heap.size (w.alloc (.cells #[.int .i64 mp,.int .i64 mh] 71)) w'→w'.cell? ⟨w.heap.size,0,none⟩=some (.int .i64 mp)∧w'.cell? ⟨w.heap.size,1,none⟩=some (.int .i64 mh)) at CM;rw [hbM,hw4] at CM;rw [hw4] at D4;clear hA hV hq
  go_enter Tryz.func128,Tryz.ntmps128
  go_wp2_with fail;clear hbM hw4;refine Rg.z3h (by kernel_rfl) [(0,some 5),(1,some 6),(2,some 7),(3,some 8),(4,some 9),(5,some 10),(6,some 11),(7,some 12),(8,some 13),(9,some 14),(10,some 15),(11,some 16),(12,some 17),(13,some 4)] (by rfl) (by kernel_rfl) (by kernel_rfl) (fun w'=>Below w4.heap.size w4 w') (RIn n0 c0 a0 mp V bM) (Below.refl _ _).drew ?_ (fun _ _ h hb=>h.trans (hb.mono h.size)) (fun _ _ _ _ h hb=>RIn.below h hb) ⟨⟨⟨⟨⟨⟨⟨⟨⟨⟨⟨⟨⟨⟨True.intro,?_⟩,?_⟩,?_⟩,?_⟩,?_⟩,?_⟩,?_⟩,?_⟩,?_⟩,?_⟩,?_⟩,?_⟩,?_⟩,?_⟩ ?_
  · intro k v w' hk;unfold RIn
    split
    case h_15=>trivial
    all_goals exact absurd hk (by decide)
  · intro o ho us wl al ha hB D K hK;obtain rfl:=Option.some.inj ho;have e0:al.tmps[0]?.getD undef=.slice a0 n0 c0:=(Rg.z6l ha (by rfl)).trans rfl;have HB:=Lib.hid hB;refine Rg.z0d rfl rfl ?_;clear ha D hB;go_simp;exact hK _ _ rfl (Below.refl _ _)
  · intro o ho us wl al ha hB D K hK;obtain rfl:=Option.some.inj ho;have e5:=Rg.e_in (i:=0) (d:=5) ha (by rfl) (by simp) (by simp);have f0:us 0=.slice a0 n0 c0:=D ⟨0,.data⟩ (by simp) rfl;have HB:=Lib.hid hB;refine Rg.z0d rfl rfl ?_;clear ha D hB;go_simp;refine (HA.out _ (D4.out.trans (HB.out.mono D4.out.size))).mono ?_;rintro e wn ⟨y,rfl,hy,hb⟩;exact hK _ _ hy hb
  · intro o ho us wl al ha hB D K hK;obtain rfl:=Option.some.inj ho;have e3:al.tmps[3]?.getD undef=.pointer (some ⟨bM,0,none⟩):=(Rg.z6l ha (by rfl)).trans rfl;have HB:=Lib.hid hB;refine Rg.z0d rfl rfl ?_;clear ha D hB;go_simp;exact hK _ _ rfl (Below.refl _ _)
  · intro o ho us wl al ha hB D K hK;obtain rfl:=Option.some.inj ho;have e7:=Rg.e_in (i:=2) (d:=7) ha (by rfl) (by simp) (by simp);have f2:us 2=.pointer (some ⟨bM,0,none⟩):=D ⟨2,.data⟩ (by simp) rfl;obtain ⟨c0,c1⟩:=CM.out _ hB;have HB:=Lib.hid hB;refine Rg.z0d rfl rfl ?_;clear ha D hB;go_simp;exact hK _ _ rfl (Below.refl _ _)
  · intro o ho us wl al ha hB D K hK;obtain rfl:=Option.some.inj ho;have e6:=Rg.e_in (i:=1) (d:=6) ha (by rfl) (by simp) (by simp);have D1:Hid (Ints wl (us 1) V):=D ⟨1,.data⟩ (by simp) rfl;have e8:=Rg.e_in (i:=3) (d:=8) ha (by rfl) (by simp) (by simp);have f3:us 3=.int .i64 mp:=D ⟨3,.data⟩ (by simp) rfl;have HB:=Lib.hid hB;refine Rg.z0d rfl rfl ?_;clear ha D hB;go_simp;refine (HQ.out _ _ D1.out).mono ?_;rintro e wn ⟨rfl,hb⟩;exact hK _ _ rfl hb
  · intro o ho us wl al ha hB D K hK;obtain rfl:=Option.some.inj ho;have e9:=Rg.e_in (i:=4) (d:=9) ha (by rfl) (by simp) (by simp);have f4:us 4=.bool false:=D ⟨4,.data⟩ (by simp) rfl;have HB:=Lib.hid hB;refine Rg.z0d rfl rfl ?_;clear ha D hB;go_simp;exact hK _ _ rfl (Below.refl _ _)
  · intro o ho us wl al ha hB D K hK;obtain rfl:=Option.some.inj ho;refine Rg.z4t rfl (Rg.z1z (b:=true) rfl (Rg.z0y (d:=10) (by rfl) (Rg.g_in (d:=10) ha (by rfl) (by simp) (by simp) (D ⟨5,.guard⟩ (by simp) rfl:us 5=.bool false)))) ?_;exact hK _ _ rfl (Below.refl _ _)
  · intro o ho us wl al ha hB D K hK;obtain rfl:=Option.some.inj ho;refine Rg.z4t rfl (Rg.z1z (b:=true) rfl (Rg.z0y (d:=10) (by rfl) (Rg.g_in (d:=10) ha (by rfl) (by simp) (by simp) (D ⟨5,.guard⟩ (by simp) rfl:us 5=.bool false)))) ?_;exact hK _ _ rfl (Below.refl _ _)
  · intro o ho us wl al ha hB D K hK;obtain rfl:=Option.some.inj ho;refine Rg.z4t rfl (Rg.z1z (b:=true) rfl (Rg.z0y (d:=10) (by rfl) (Rg.g_in (d:=10) ha (by rfl) (by simp) (by simp) (D ⟨5,.guard⟩ (by simp) rfl:us 5=.bool false)))) ?_;exact hK _ _ rfl (Below.refl _ _)
  · intro o ho us wl al ha hB D K hK;obtain rfl:=Option.some.inj ho;refine Rg.z4t rfl (Rg.z1z (b:=true) rfl (Rg.z0y (d:=10) (by rfl) (Rg.g_in (d:=10) ha (by rfl) (by simp) (by simp) (D ⟨5,.guard⟩ (by simp) rfl:us 5=.bool false)))) ?_;exact hK _ _ rfl (Below.refl _ _)
  · intro o ho us wl al ha hB D K hK;obtain rfl:=Option.some.inj ho;refine Rg.z4t rfl (Rg.z1z (b:=true) rfl (Rg.z0y (d:=10) (by rfl) (Rg.g_in (d:=10) ha (by rfl) (by simp) (by simp) (D ⟨5,.guard⟩ (by simp) rfl:us 5=.bool false)))) ?_;exact hK _ _ rfl (Below.refl _ _)
  · intro o ho us wl al ha hB D K hK;obtain rfl:=Option.some.inj ho;refine Rg.z4t rfl (Rg.z1z (b:=true) rfl (Rg.z0y (d:=10) (by rfl) (Rg.g_in (d:=10) ha (by rfl) (by simp) (by simp) (D ⟨5,.guard⟩ (by simp) rfl:us 5=.bool false)))) ?_;exact hK _ _ rfl (Below.refl _ _)
  · intro o ho us wl al ha hB D K hK;obtain rfl:=Option.some.inj ho;have e10:=Rg.e_in (i:=5) (d:=10) ha (by rfl) (by simp) (by simp);have f5:us 5=.bool false:=D ⟨5,.data⟩ (by simp) rfl;have e16:=Rg.e_in (i:=11) (d:=16) ha (by rfl) (by simp) (by simp);have f11:us 11=undef:=D ⟨11,.data⟩ (by simp) rfl;have HB:=Lib.hid hB;refine Rg.z0d rfl rfl ?_;clear ha D hB;go_simp;exact hK _ _ rfl (Below.refl _ _)
  · intro o ho us wl al ha hB D K hK;obtain rfl:=Option.some.inj ho;have e17:=Rg.e_in (i:=12) (d:=17) ha (by rfl) (by simp) (by simp);have f12:us 12=.bool false:=D ⟨12,.data⟩ (by simp) rfl;have HB:=Lib.hid hB;refine Rg.z0d rfl rfl ?_;clear ha D hB;go_simp;exact hK _ _ rfl (Below.refl _ _)
  · intro us wz hB hR;have fz:us 13=.bool false:=hR 13;have DZ:=Lib.hid (D4.out.trans (hB.mono D4.out.size));clear hB hR;simp only [Rg.puts,Act.put,List.setIfInBounds_toArray,List.set_cons_zero,List.set_cons_succ,fz];go_wp2_with fail;go_ret;exact ⟨rfl,DZ.out⟩
theorem v1o (v:Value) (l:List Nd) (m:Mv) (w:World) (hv:Nds w v l) (hl:l.length≤1000) (hm:Nms l) :
    Calls Tryz.prog 128 #[v,mvV m] w fun e w'=>e=.returned (.bool (decide (m∈enR l)))∧Below w.heap.size w w':=by
  have hA:=fun w1 (hb:Below w.heap.size w w1)=>y4v v l w1 (hv.below hb) hl hm
  have hV:(av l).length≤1000000:=Nat.le_trans (x3o l) (by omega);obtain ⟨_,a0,c0,rfl,-⟩:=id hv;obtain ⟨mp,mh⟩:=m
  by_cases hz:mp∈av l
  · rw [show decide ((⟨mp,mh⟩:Mv)∈enR l)=decide ((⟨mp,mh⟩:Mv)∈hw (kn l mp) (fr l mp) mp) from decide_eq_decide.2 (v1b.trans ⟨fun h=>h.2,fun h=>⟨hz,h⟩⟩)];exact is_yes _ c0 a0 mp mh _ _ _ w hA hV (decide_eq_true hz) (fun w1 hb=>z9v _ l mp w1 (hv.below hb) hl hm hz) (Nat.le_trans (v2c _ _ _) (by omega)) rfl
  · rw [show decide ((⟨mp,mh⟩:Mv)∈enR l)=false from decide_eq_false fun h=>hz (v1b.1 h).1];exact is_no _ c0 a0 mp mh _ w hA hV (decide_eq_false hz)
theorem x4q (n:Int) (m:Nat) (w:World) (h0:0<m) (hm:m≤1000000) :
    Calls Tryz.prog 73 #[.int .i64 n,.int .i64 (m:Int)] w fun e w'=>e=.returned (.int .i64 (nr n m:Nat))∧w=w':=by
  have ht:=nr_tmod (n:=n) h0;have hlt:=nr_lt (n:=n) h0;obtain ⟨k,hk⟩:∃ k,nr n m=k:=⟨_,rfl⟩
  rw [hk] at ht hlt ⊢;have hm3:((m:Int)==0)=false:=by rw [beq_eq_false_iff_ne]; omega
  have hm4:(m:Int)≠0:=by omega
  obtain ⟨r,hr⟩:∃ r,n.tmod (m:Int)=r:=⟨_,rfl⟩
  rw [hr] at ht;have HR:Hid (n.tmod (m:Int)=r):=Lib.hid hr;clear hk hr
  by_cases hneg:r<0
  · rw [if_pos hneg] at ht;have hw:Hid (wrap64 (n.tmod (m:Int)+m)=(k:Int)):=Lib.hid (by rw [HR.out,← ht]; unfold wrap64; omega);have g1:n.tmod (m:Int)<0:=by rw [HR.out]; exact hneg
    clear ht hneg
    go_enter Tryz.func73,Tryz.ntmps73
    go_wp2_with fail;go_ret;exact ⟨ret_int hw.out,rfl⟩
  · rw [if_neg hneg] at ht;have hw:Hid (n.tmod (m:Int)=(k:Int)):=Lib.hid (by rw [HR.out,← ht]);have g1:¬ n.tmod (m:Int)<0:=by rw [HR.out]; exact hneg
    clear ht hneg
    go_enter Tryz.func73,Tryz.ntmps73
    go_wp2_with fail;go_ret;exact ⟨ret_int hw.out,rfl⟩
theorem x9q (v:Value) (l:List Nd) (n:Int) (w:World) (hv:Nds w v l) (hl:l.length≤1000) (hm:Nms l) (_hn:In64 n) :
    Calls Tryz.prog 40 #[v,.int .i64 n] w fun e w'=>e=.returned (.tuple #[mvV (pkM l n),.int .i64 (pkE l)])∧Below w.heap.size w w':=by
  have DB:=Lib.hid (z0b w (.cells #[.int .i64 0,.int .i64 0] 71));have HA:=Lib.hid (fun w1 (hb:Below w.heap.size w w1)=>z2i v l w1 (hv.below hb) hl hm);have hvl:(enR l).length≤2000:=Nat.le_trans (z7f l) (by omega);have B0:=Lib.hid (Bm.new w ⟨0,0⟩);have HSZ:Hid ((w.alloc (.cells #[.int .i64 0,.int .i64 0] 71)).heap.size=w.heap.size+1):=Lib.hid (by simp);obtain ⟨_,a,c,rfl,-⟩:=id hv;unfold pkM pkE;generalize enR l=V at HA hvl ⊢;clear hv hm
  by_cases h0:V.length=0
  · obtain rfl:V=[]:=List.eq_nil_of_length_eq_zero h0;clear hvl h0
    go_enter Tryz.func40,Tryz.ntmps40
    go_wp2_with fail;refine (HA.out _ DB.out).mono ?_;rintro e w1 ⟨y,rfl,hi,hb1⟩;rw [HSZ.out] at hb1;have B1:=Lib.hid (B0.out.below hb1 (Nat.lt_succ_self _));have D1:=Lib.hid (DB.out.trans (hb1.mono (Nat.le_succ _)));obtain ⟨k1,k2,k3,k4⟩:=B1.out.cells;obtain ⟨_,ay,cy,rfl,-⟩:=id hi;clear hb1 hi;go_wp2_with fail;refine ret_mv rfl rfl rfl (B1.out.put ⟨0,0⟩) rfl ⟨rfl,?_⟩;exact Rx.z0f (Rx.z0f D1.out _ _ _ (Nat.le_refl _)) _ _ _ (Nat.le_refl _)
  · have hk:=nr_lt (n:=n) (m:=V.length) (by omega);have HRD:=Lib.hid (fun w=>x4q n V.length w (by omega) (by omega));obtain ⟨k,hk2⟩:∃ k,nr n V.length=k:=⟨_,rfl⟩
    rw [hk2] at hk HRD ⊢;have HX:Hid (V[k]?.getD ⟨0,0⟩=V[k]∧(if V.length=0 then (120:Int) else 0)=0):=Lib.hid ⟨by rw [List.getElem?_eq_getElem hk]; rfl,if_neg h0⟩;have HAT:=Lib.hid (fun (w':World) (y:Value) (h:Mvs w' y V)=>h.form);rw [HX.out.1,HX.out.2];obtain ⟨x,hx⟩:∃ x,V[k]=x:=⟨_,rfl⟩
    have HXV:Hid (∀ h:k<V.length,V[k]=x):=Lib.hid fun _=>hx
    rw [hx];obtain ⟨m,hm2⟩:∃ m,V.length=m:=⟨_,rfl⟩
    rw [hm2] at hk h0 hvl HRD;have HM:=Lib.hid hm2;have hm3:((m:Int)==0)=false:=by rw [beq_eq_false_iff_ne]; omega
    clear HX hx hm2 hk2
    go_enter Tryz.func40,Tryz.ntmps40
    go_wp2_with fail;refine (HA.out _ DB.out).mono ?_;rintro e w1 ⟨y,rfl,hi,hb1⟩;rw [HSZ.out] at hb1;have B1:=Lib.hid (B0.out.below hb1 (Nat.lt_succ_self _));have D1:=Lib.hid (DB.out.trans (hb1.mono (Nat.le_succ _)));obtain ⟨k1,k2,k3,k4⟩:=B1.out.cells
    rcases HAT.out _ _ hi with ⟨e0,_⟩ | ⟨b4,o4,c4,rfl,_,hat4⟩
    · exact absurd (by rw [← HM.out,e0]; rfl) h0
    rw [HM.out];obtain ⟨q4,q5⟩:=hat4 k (by rw [HM.out]; exact hk);rw [HXV.out] at q4 q5;clear hb1 hi hat4;go_wp2_with fail;refine (HRD.out _).mono ?_;rintro e w2 ⟨rfl,rfl⟩;go_wp2_with fail;refine ret_mv rfl rfl rfl (B1.out.put x) rfl ⟨rfl,?_⟩;exact Rx.z0f (Rx.z0f D1.out _ _ _ (Nat.le_refl _)) _ _ _ (Nat.le_refl _)
end Me
namespace St
open Go Go.RowKit Rw YtpingbiibbmcaaaGreatDoor.So Se Do Sp Me
theorem en_kind {l:List Nd} {m:Mv} (h:m∈enR l):nxE l m=0∧setB (nxL l m)=true∧(∀ p:Bool,onB (nxL l m) p=onB l p)∧(nxL l m).length≤200∧Nms (nxL l m):=by
  obtain ⟨t,rfl,hg,hn⟩:=x3d h;obtain ⟨mo,h1,rfl⟩:=y0n hg hn h;obtain ⟨n1,_,n3⟩:=z6v hg hn h1;obtain ⟨k1,k2⟩:=y9d hg h1;have hS:=(z6x hg h1).S;rw [n1];exact ⟨n3,k1,k2,by rw [Se.flat_len]; exact hS.2.1,z2c hS.1⟩
end St
namespace Me
open Go Go.RowKit Rw YtpingbiibbmcaaaGreatDoor.So Se Do

end Me
namespace St
open Go Go.RowKit Rw YtpingbiibbmcaaaGreatDoor.So Se Do Sp Me
abbrev wK:List Int:=[1,6,4,10]
theorem cnt_ch (t:Tm):cnt (flat t) wK=Co.ch t:=by
  unfold cnt Co.ch ct
  congr 1
  funext x
  rw [Bool.eq_iff_iff];simp;omega
theorem name_pos {s:ByteArray} (h:rgt (nAct s)=true):s≠⟨#[]⟩:=by
  intro e;subst e;exact absurd h (by decide +kernel)
theorem z3y {l:List Nd} {m:Mv} (h:m∈enR l):cnt (nxL l m) wK<cnt l wK∧(m.h=1→nxS l m≠⟨#[]⟩)∧(m.h≠1→nxS l m=⟨#[]⟩):=by
  obtain ⟨t,rfl,hg,hn⟩:=x3d h;obtain ⟨mo,h1,rfl⟩:=y0n hg hn h;obtain ⟨n1,n2,_⟩:=z6v hg hn h1;rw [n1,n2,cnt_ch,cnt_ch];refine ⟨Nat.lt_of_le_of_lt (Co.S_ch _) (Co.mv_ch t true 0 mo h1),?_,?_⟩
  · intro hh;obtain ⟨pre,s,post,u,e1,_,_,hm⟩:=y1o t true 0 mo h1;have hr:=hg.1;unfold rg at hr;rw [e1,List.all_append,List.all_append,Bool.and_eq_true,Bool.and_eq_true] at hr;have hs:=hr.2.1;have hh':mo.h=1:=hh;generalize mo.h=x at hm hh';generalize mo.l=oo at hm ⊢
    cases hm with
    | act s=>
      refine name_pos ?_;have:([nAct s]).all rgt=true:=hs
      simpa using this
    | _=>exact absurd hh' (by decide)
  · intro hh;obtain ⟨pre,s,post,u,e1,_,_,hm⟩:=y1o t true 0 mo h1;have hh':mo.h≠1:=hh;generalize mo.h=x at hm hh';generalize mo.l=oo at hm ⊢
    cases hm with
    | act s=>exact absurd rfl hh'
    | _=>rfl
abbrev LL:=List (List Nd)
theorem at_keep {w:World} {b o:Nat} {l:List Nd} (h:At w b o l) (q:Nat) (hq:q<l.length):∀ w',Below w.heap.size w w'→w'.cell? ⟨b,o+q*3,none⟩=some (.int .i64 l[q].k)∧w'.cell? ⟨b,o+q*3+1,none⟩=some (.string l[q].n):=fun w' hb=>
  ⟨by rw [hb.cell (Ap.z0a (h q hq).1)]; exact (h q hq).1,by rw [hb.cell (Ap.z0a (h q hq).2.1)]; exact (h q hq).2.1⟩
def RPx (b o c n q bM:Nat) (kk hw:Int) (nm:ByteArray) (ls:LL) (X R:List Nd) (k:Nat) (v:Value) (w':World):Prop:=match k with
  | 0=>v=.slice (some ⟨b,o,none⟩) n c
  | 1=>v=.pointer (some ⟨bM,0,none⟩)
  | 2=>v=.int .i64 (q:Int)
  | 3=>v=.slice (some ⟨b,o,none⟩) n c
  | 4=>v=.pointer (some ⟨bM,0,none⟩)
  | 5=>v=.int .i64 (q:Int)
  | 6=>v=.pointer (some ⟨b,o+q*3,none⟩)
  | 7=>v=.pointer (some ⟨b,o+q*3,none⟩)
  | 8=>v=.int .i64 kk
  | 9=>v=.pointer (some ⟨bM,1,none⟩)
  | 10=>v=.int .i64 hw
  | 11=>FnV w' v ls X
  | 12=>Nds w' v R
  | 13=>v=.slice (some ⟨b,o,none⟩) n c
  | 14=>v=.pointer (some ⟨bM,0,none⟩)
  | 15=>v=.int .i64 (q:Int)
  | 16=>v=.pointer (some ⟨b,o+q*3,none⟩)
  | 17=>v=.pointer (some ⟨b,o+q*3+1,none⟩)
  | 18=>v=.string nm
  | 19=>Nds w' v R
  | 20=>v=.string nm
  | 21=>v=.int .i64 0
  | _=>True
theorem RPx.below {b o c n q bM:Nat} {kk hw:Int} {nm:ByteArray} {ls:LL} {X R:List Nd} {k:Nat} {v:Value} {w w':World} (h:RPx b o c n q bM kk hw nm ls X R k v w) (hb:Below w.heap.size w w'):RPx b o c n q bM kk hw nm ls X R k v w':=by
  unfold RPx at h ⊢
  split at h
  case h_12=>exact FnV.below h hb
  case h_13=>exact Nds.below h hb
  case h_20=>exact Nds.below h hb
  all_goals exact h
theorem v0l (b o c n q:Nat) (kk hw:Int) (nm:ByteArray) (ls:List (List Nd)) (X R:List Nd) (w:World) (hq:q<n)
    (hA:∀ w',Below w.heap.size w w'→w'.cell? ⟨b,o+q*3,none⟩=some (.int .i64 kk)∧w'.cell? ⟨b,o+q*3+1,none⟩=some (.string nm))
    (hI:∀ w1,Below w.heap.size w w1→Calls Tryz.prog 128 #[.slice (some ⟨b,o,none⟩) n c,.agg #[.int .i64 (q:Int),.int .i64 hw]] w1 fun e w'=>e=.returned (.bool true)∧Below w1.heap.size w1 w')
    (hD:∀ w1,Calls Tryz.prog 130 #[.int .i64 kk,.int .i64 hw] w1 (OutF w1 ls X))
    (hF:∀ w1 f,Below w.heap.size w w1→FnV w1 f ls X→Calls Tryz.prog 129 #[.slice (some ⟨b,o,none⟩) n c,.int .i64 (q:Int),f] w1 (OutL R w1)) :
    Calls Tryz.prog 74 #[.slice (some ⟨b,o,none⟩) n c,.agg #[.int .i64 (q:Int),.int .i64 hw]] w fun e w'=>∃ y,e=.returned (.tuple #[y,.string nm,.int .i64 0])∧Nds w' y R∧Below w.heap.size w w':=by
  unfold OutF at hD;unfold OutL at hF;have HI:=Lib.hid hI;have HD:=Lib.hid hD;have HF:=Lib.hid hF;have D0:=Lib.hid (z0b w (.cells #[.int .i64 (q:Int),.int .i64 hw] 71));have CM0:=Lib.hid (y4r (Bm.new w ⟨(q:Int),hw⟩));obtain ⟨bM,hbM⟩:∃ bM,w.heap.size=bM:=⟨_,rfl⟩
  obtain ⟨w0,hw0⟩:∃ w0,w.alloc (.cells #[.int .i64 (q:Int),.int .i64 hw] 71)=w0:=⟨_,rfl⟩
  change Hid (∀ w',Below (w.alloc (.cells #[.int .i64 (q:Int),.int .i64 hw] 71)).heap.size (w.alloc (.cells #[.int .i64 (q:Int),.int .i64 hw] 71)) w'→w'.cell? ⟨w.heap.size,0,none⟩=some (.int .i64 (q:Int))∧w'.cell? ⟨w.heap.size,1,none⟩=some (.int .i64 hw)) at CM0;rw [hw0] at D0;have CA0:=Lib.hid (fun (w':World) (hb:Below w0.heap.size w0 w')=>hA w' (D0.out.trans (hb.mono D0.out.size)));rw [hbM,hw0] at CM0;obtain ⟨c0,c1⟩:=CM0.out w0 (Below.refl _ _);have hq2:(q:Int)<(n:Int):=by omega
  clear hI hD hF hA
  go_enter Tryz.func74,Tryz.ntmps74
  go_wp2_with fail;refine (HI.out _ D0.out).mono ?_;rintro e w4 ⟨rfl,hb4⟩;have D4:=Lib.hid (D0.out.trans (hb4.mono D0.out.size));have CM:=Lib.hid (fun (w':World) (hb:Below w4.heap.size w4 w')=>CM0.out w' (hb4.trans (Below.mono hb hb4.size)));have CA:=Lib.hid (fun (w':World) (hb:Below w4.heap.size w4 w')=>CA0.out w' (hb4.trans (Below.mono hb hb4.size)));clear hb4 CM0 CA0 c0 c1 hbM hw0 HI;go_wp2_with fail;refine Rg.z3h (by kernel_rfl) [(0,some 11),(1,some 12),(2,some 13),(3,some 14),(4,some 15),(5,some 16),(6,some 17),(7,some 18),(8,some 19),(9,some 20),(10,some 21),(11,some 22),(12,some 23),(13,some 24),(14,some 25),(15,some 26),(16,some 27),(17,some 28),(18,some 29),(19,some 4),(20,some 5),(21,some 6)] (by rfl) (by kernel_rfl) (by kernel_rfl) (fun w'=>Below w4.heap.size w4 w') (RPx b o c n q bM kk hw nm ls X R) (Below.refl _ _).drew ?_ (fun _ _ h hb=>h.trans (hb.mono h.size)) (fun _ _ _ _ h hb=>RPx.below h hb) ⟨⟨⟨⟨⟨⟨⟨⟨⟨⟨⟨⟨⟨⟨⟨⟨⟨⟨⟨⟨⟨⟨True.intro,?_⟩,?_⟩,?_⟩,?_⟩,?_⟩,?_⟩,?_⟩,?_⟩,?_⟩,?_⟩,?_⟩,?_⟩,?_⟩,?_⟩,?_⟩,?_⟩,?_⟩,?_⟩,?_⟩,?_⟩,?_⟩,?_⟩ ?_
  · intro k v w' hk;unfold RPx
    split
    case h_23=>trivial
    all_goals exact absurd hk (by decide)
  · intro o ho us wl al ha hB D K hK;obtain rfl:=Option.some.inj ho;have e0:al.tmps[0]?.getD undef=.slice (some ⟨b,o,none⟩) n c:=(Rg.z6l ha (by rfl)).trans rfl;have HB:=Lib.hid hB;refine Rg.z0d rfl rfl ?_;clear ha D hB;go_simp;exact hK _ _ rfl (Below.refl _ _)
  · intro o ho us wl al ha hB D K hK;obtain rfl:=Option.some.inj ho;have e3:al.tmps[3]?.getD undef=.pointer (some ⟨bM,0,none⟩):=(Rg.z6l ha (by rfl)).trans rfl;have HB:=Lib.hid hB;refine Rg.z0d rfl rfl ?_;clear ha D hB;go_simp;exact hK _ _ rfl (Below.refl _ _)
  · intro o ho us wl al ha hB D K hK;obtain rfl:=Option.some.inj ho;have e12:=Rg.e_in (i:=1) (d:=12) ha (by rfl) (by simp) (by simp);have f1:us 1=.pointer (some ⟨bM,0,none⟩):=D ⟨1,.data⟩ (by simp) rfl;obtain ⟨c0,c1⟩:=CM.out _ hB;have HB:=Lib.hid hB;refine Rg.z0d rfl rfl ?_;clear ha D hB;go_simp;exact hK _ _ rfl (Below.refl _ _)
  · intro o ho us wl al ha hB D K hK;obtain rfl:=Option.some.inj ho;have e0:al.tmps[0]?.getD undef=.slice (some ⟨b,o,none⟩) n c:=(Rg.z6l ha (by rfl)).trans rfl;have HB:=Lib.hid hB;refine Rg.z0d rfl rfl ?_;clear ha D hB;go_simp;exact hK _ _ rfl (Below.refl _ _)
  · intro o ho us wl al ha hB D K hK;obtain rfl:=Option.some.inj ho;have e3:al.tmps[3]?.getD undef=.pointer (some ⟨bM,0,none⟩):=(Rg.z6l ha (by rfl)).trans rfl;have HB:=Lib.hid hB;refine Rg.z0d rfl rfl ?_;clear ha D hB;go_simp;exact hK _ _ rfl (Below.refl _ _)
  · intro o ho us wl al ha hB D K hK;obtain rfl:=Option.some.inj ho;have e15:=Rg.e_in (i:=4) (d:=15) ha (by rfl) (by simp) (by simp);have f4:us 4=.pointer (some ⟨bM,0,none⟩):=D ⟨4,.data⟩ (by simp) rfl;obtain ⟨c0,c1⟩:=CM.out _ hB;have HB:=Lib.hid hB;refine Rg.z0d rfl rfl ?_;clear ha D hB;go_simp;exact hK _ _ rfl (Below.refl _ _)
  · intro o ho us wl al ha hB D K hK;obtain rfl:=Option.some.inj ho;have e14:=Rg.e_in (i:=3) (d:=14) ha (by rfl) (by simp) (by simp);have f3:us 3=.slice (some ⟨b,o,none⟩) n c:=D ⟨3,.data⟩ (by simp) rfl;have e16:=Rg.e_in (i:=5) (d:=16) ha (by rfl) (by simp) (by simp);have f5:us 5=.int .i64 (q:Int):=D ⟨5,.data⟩ (by simp) rfl;have HB:=Lib.hid hB;refine Rg.z0d rfl rfl ?_;clear ha D hB;go_simp;exact hK _ _ rfl (Below.refl _ _)
  · intro o ho us wl al ha hB D K hK;obtain rfl:=Option.some.inj ho;have e17:=Rg.e_in (i:=6) (d:=17) ha (by rfl) (by simp) (by simp);have f6:us 6=.pointer (some ⟨b,o+q*3,none⟩):=D ⟨6,.data⟩ (by simp) rfl;have HB:=Lib.hid hB;refine Rg.z0d rfl rfl ?_;clear ha D hB;go_simp;exact hK _ _ rfl (Below.refl _ _)
  · intro o ho us wl al ha hB D K hK;obtain rfl:=Option.some.inj ho;have e18:=Rg.e_in (i:=7) (d:=18) ha (by rfl) (by simp) (by simp);have f7:us 7=.pointer (some ⟨b,o+q*3,none⟩):=D ⟨7,.data⟩ (by simp) rfl;obtain ⟨g0,g1⟩:=CA.out _ hB;have HB:=Lib.hid hB;refine Rg.z0d rfl rfl ?_;clear ha D hB;go_simp;exact hK _ _ rfl (Below.refl _ _)
  · intro o ho us wl al ha hB D K hK;obtain rfl:=Option.some.inj ho;have e3:al.tmps[3]?.getD undef=.pointer (some ⟨bM,0,none⟩):=(Rg.z6l ha (by rfl)).trans rfl;have HB:=Lib.hid hB;refine Rg.z0d rfl rfl ?_;clear ha D hB;go_simp;exact hK _ _ rfl (Below.refl _ _)
  · intro o ho us wl al ha hB D K hK;obtain rfl:=Option.some.inj ho;have e20:=Rg.e_in (i:=9) (d:=20) ha (by rfl) (by simp) (by simp);have f9:us 9=.pointer (some ⟨bM,1,none⟩):=D ⟨9,.data⟩ (by simp) rfl;obtain ⟨c0,c1⟩:=CM.out _ hB;have HB:=Lib.hid hB;refine Rg.z0d rfl rfl ?_;clear ha D hB;go_simp;exact hK _ _ rfl (Below.refl _ _)
  · intro o ho us wl al ha hB D K hK;obtain rfl:=Option.some.inj ho;have e19:=Rg.e_in (i:=8) (d:=19) ha (by rfl) (by simp) (by simp);have f8:us 8=.int .i64 kk:=D ⟨8,.data⟩ (by simp) rfl;have e21:=Rg.e_in (i:=10) (d:=21) ha (by rfl) (by simp) (by simp);have f10:us 10=.int .i64 hw:=D ⟨10,.data⟩ (by simp) rfl;have HB:=Lib.hid hB;refine Rg.z0d rfl rfl ?_;clear ha D hB;go_simp;refine (HD.out _).mono ?_;rintro e wn ⟨f,rfl,hf,hb⟩;exact hK _ _ hf hb
  · intro o ho us wl al ha hB D K hK;obtain rfl:=Option.some.inj ho;have e11:=Rg.e_in (i:=0) (d:=11) ha (by rfl) (by simp) (by simp);have f0:us 0=.slice (some ⟨b,o,none⟩) n c:=D ⟨0,.data⟩ (by simp) rfl;have e13:=Rg.e_in (i:=2) (d:=13) ha (by rfl) (by simp) (by simp);have f2:us 2=.int .i64 (q:Int):=D ⟨2,.data⟩ (by simp) rfl;have e22:=Rg.e_in (i:=11) (d:=22) ha (by rfl) (by simp) (by simp);have D11:Hid (FnV wl (us 11) ls X):=D ⟨11,.data⟩ (by simp) rfl;have HB:=Lib.hid hB;refine Rg.z0d rfl rfl ?_;clear ha D hB;go_simp;refine (HF.out _ _ (D4.out.trans (HB.out.mono D4.out.size)) D11.out).mono ?_;rintro e wn ⟨y,rfl,hy,hb⟩;exact hK _ _ hy hb
  · intro o ho us wl al ha hB D K hK;obtain rfl:=Option.some.inj ho;have e0:al.tmps[0]?.getD undef=.slice (some ⟨b,o,none⟩) n c:=(Rg.z6l ha (by rfl)).trans rfl;have HB:=Lib.hid hB;refine Rg.z0d rfl rfl ?_;clear ha D hB;go_simp;exact hK _ _ rfl (Below.refl _ _)
  · intro o ho us wl al ha hB D K hK;obtain rfl:=Option.some.inj ho;have e3:al.tmps[3]?.getD undef=.pointer (some ⟨bM,0,none⟩):=(Rg.z6l ha (by rfl)).trans rfl;have HB:=Lib.hid hB;refine Rg.z0d rfl rfl ?_;clear ha D hB;go_simp;exact hK _ _ rfl (Below.refl _ _)
  · intro o ho us wl al ha hB D K hK;obtain rfl:=Option.some.inj ho;have e25:=Rg.e_in (i:=14) (d:=25) ha (by rfl) (by simp) (by simp);have f14:us 14=.pointer (some ⟨bM,0,none⟩):=D ⟨14,.data⟩ (by simp) rfl;obtain ⟨c0,c1⟩:=CM.out _ hB;have HB:=Lib.hid hB;refine Rg.z0d rfl rfl ?_;clear ha D hB;go_simp;exact hK _ _ rfl (Below.refl _ _)
  · intro o ho us wl al ha hB D K hK;obtain rfl:=Option.some.inj ho;have e24:=Rg.e_in (i:=13) (d:=24) ha (by rfl) (by simp) (by simp);have f13:us 13=.slice (some ⟨b,o,none⟩) n c:=D ⟨13,.data⟩ (by simp) rfl;have e26:=Rg.e_in (i:=15) (d:=26) ha (by rfl) (by simp) (by simp);have f15:us 15=.int .i64 (q:Int):=D ⟨15,.data⟩ (by simp) rfl;have HB:=Lib.hid hB;refine Rg.z0d rfl rfl ?_;clear ha D hB;go_simp;exact hK _ _ rfl (Below.refl _ _)
  · intro o ho us wl al ha hB D K hK;obtain rfl:=Option.some.inj ho;have e27:=Rg.e_in (i:=16) (d:=27) ha (by rfl) (by simp) (by simp);have f16:us 16=.pointer (some ⟨b,o+q*3,none⟩):=D ⟨16,.data⟩ (by simp) rfl;have HB:=Lib.hid hB;refine Rg.z0d rfl rfl ?_;clear ha D hB;go_simp;exact hK _ _ rfl (Below.refl _ _)
  · intro o ho us wl al ha hB D K hK;obtain rfl:=Option.some.inj ho;have e28:=Rg.e_in (i:=17) (d:=28) ha (by rfl) (by simp) (by simp);have f17:us 17=.pointer (some ⟨b,o+q*3+1,none⟩):=D ⟨17,.data⟩ (by simp) rfl;obtain ⟨g0,g1⟩:=CA.out _ hB;have HB:=Lib.hid hB;refine Rg.z0d rfl rfl ?_;clear ha D hB;go_simp;exact hK _ _ rfl (Below.refl _ _)
  · intro o ho us wl al ha hB D K hK;obtain rfl:=Option.some.inj ho;have e23:=Rg.e_in (i:=12) (d:=23) ha (by rfl) (by simp) (by simp);have D12:Hid (Nds wl (us 12) R):=D ⟨12,.data⟩ (by simp) rfl;have HB:=Lib.hid hB;refine Rg.z0d rfl rfl ?_;clear ha D hB;go_simp;exact hK _ _ D12.out (Below.refl _ _)
  · intro o ho us wl al ha hB D K hK;obtain rfl:=Option.some.inj ho;have e29:=Rg.e_in (i:=18) (d:=29) ha (by rfl) (by simp) (by simp);have f18:us 18=.string nm:=D ⟨18,.data⟩ (by simp) rfl;have HB:=Lib.hid hB;refine Rg.z0d rfl rfl ?_;clear ha D hB;go_simp;exact hK _ _ rfl (Below.refl _ _)
  · intro o ho us wl al ha hB D K hK;obtain rfl:=Option.some.inj ho;have HB:=Lib.hid hB;refine Rg.z0d rfl rfl ?_;clear ha D hB;go_simp;exact hK _ _ rfl (Below.refl _ _)
  · intro us wz hB hR;have hr:Nds wz (us 19) R:=hR 19;have f1:us 20=.string nm:=hR 20;have f2:us 21=.int .i64 0:=hR 21;have DZ:=Lib.hid (D4.out.trans (hB.mono D4.out.size));have NZ:=Lib.hid hr;simp only [Rg.puts,Act.put,List.setIfInBounds_toArray,List.set_cons_zero,List.set_cons_succ,f1,f2];clear hB hR;generalize us 19=y at *;obtain ⟨_,ay,cy,rfl,-⟩:=id hr;clear hr;go_wp2_with fail
    go_ret3
    exact ⟨_,rfl,NZ.out,DZ.out⟩
def RPf (b o c n q bM:Nat) (ls:LL) (R:List Nd) (k:Nat) (v:Value) (w':World):Prop:=match k with
  | 0=>v=.slice (some ⟨b,o,none⟩) n c
  | 1=>v=.pointer (some ⟨bM,0,none⟩)
  | 2=>v=.int .i64 (q:Int)
  | 3=>v=.agg #[.int .i64 3,.string ⟨#[]⟩,.int .i64 0]
  | 4=>Nds w' v [nOf 3]
  | 5=>FnV w' v ls [nOf 3]
  | 6=>Nds w' v R
  | 7=>Nds w' v R
  | 8=>v=.int .i64 0
  | _=>True
end St
end Go.Proofs.YtpingbiibbmcaaaGreatDoor
