/- StepRefuses: the walk. StepLess: the walk. -/
import Derived.Test.YtaapnkoooofalaaQ32
import Derived.Test.YtaapnkoooofalaaQ23
import Derived.Test.YtaapnkoooofalaaQ06

namespace Go.Proofs.Ytaapnkoooofalaa.St
open Go Go.RowKit Rw So Se Do Sp Me
set_option maxRecDepth 20000
theorem refuses_of {l : List Nd} {m : Mv} (hin : m ∈ enR l) (h1 : m.h = 1) (hl : l.length ≤ 100) : ∃ (p : Nat) (s : ByteArray) (hp : p < l.length), m.p = (p : Int) ∧ l[p] = nAct s ∧ rfE l m = 0 ∧
    (putR l m.p [nOf 6, nAct s, nOf 3]).length ≤ 1000 ∧ Nms (putR l m.p [nOf 6, nAct s, nOf 3]) ∧
    nxL (putR l m.p [nOf 6, nAct s, nOf 3]) ⟨m.p, 3⟩ = rfL l m ∧ nxS (putR l m.p [nOf 6, nAct s, nOf 3]) ⟨m.p, 3⟩ = ⟨#[]⟩ ∧ nxE (putR l m.p [nOf 6, nAct s, nOf 3]) ⟨m.p, 3⟩ = 0 ∧
    nxL (putR l m.p [nOf 6, nAct s, nOf 3]) ⟨m.p, 2⟩ = l ∧ nxS (putR l m.p [nOf 6, nAct s, nOf 3]) ⟨m.p, 2⟩ = ⟨#[]⟩ ∧ nxE (putR l m.p [nOf 6, nAct s, nOf 3]) ⟨m.p, 2⟩ = 0 := by
  obtain ⟨t, rfl, hg, hn⟩ := en_set hin
  obtain ⟨mo, hmo, rfl⟩ := en_mo hg hn hin
  have h1' : mo.h = 1 := h1
  obtain ⟨s, hs, _, hp, hnf, hm3, hm2⟩ := refused hn hmo h1'
  obtain ⟨n1, n2⟩ := rf_of hg hn hmo h1'
  obtain ⟨pre, post, e1, e2⟩ := plug_row t 0 mo.p hp
  rw [Nat.zero_add] at e1
  have et : flat t = pre ++ (flat (.act s) ++ post) := by rw [← hs, ← e2, plug_sub t 0 mo.p hp]
  have hlen := Se.flat_len t
  have hpl : mo.p < (flat t).length := by
    have h := congrArg List.length et
    simp only [List.length_append, Se.flat_len, sz] at h
    rw [hlen]
    omega
  have hput : putR (flat t) (mo.p : Int) [nOf 6, nAct s, nOf 3] = flat (plug t 0 mo.p (.alt (.act s) .throw)) := by
    obtain ⟨p1, _⟩ := put_row pre (flat (.act s)) post [nOf 6, nAct s, nOf 3] (tre_flat _)
    unfold putR
    rw [if_neg (by omega), Int.toNat_natCast, e2]
    rw [← et, ← e1] at p1
    exact p1
  have hget : (flat t)[mo.p] = nAct s := by
    have h : (flat t)[mo.p]? = some (nAct s) := by
      rw [et, e1, List.getElem?_append_right (Nat.le_refl _), Nat.sub_self]
      rfl
    rw [List.getElem?_eq_getElem hpl] at h
    exact Option.some.inj h
  have hrs := plug_rg t 0 mo.p hp hg.1
  have hgX : Goes (plug t 0 mo.p (.alt (.act s) .throw)) := by
    refine ⟨hrs.2 _ ?_, ?_, ?_⟩
    · rw [rg_alt, ← hs, hrs.1]
      rfl
    · have a1 := congrArg List.length (e2 (.alt (.act s) .throw))
      have a2 := congrArg List.length et
      rw [Se.flat_len] at a1
      simp only [List.length_append, Se.flat_len, sz] at a1 a2
      omega
    · have := plug_is t 0 mo.p hp (.alt (.act s) .throw) (fun k hk h => by
        rw [hs] at h
        rcases hk with rfl | rfl
        · rfl
        · simp [is] at h)
      exact hg.2.2.imp (this 3 (.inl rfl)) (this 4 (.inr rfl))
  obtain ⟨r1, r2, r3⟩ := nx_of hgX hnf hm3
  obtain ⟨q1, q2, q3⟩ := nx_of hgX hnf hm2
  have em : (mvOf mo).p = (mo.p : Int) := rfl
  refine ⟨mo.p, s, hpl, rfl, hget, n2, ?_⟩
  rw [em, hput]
  refine ⟨by rw [Se.flat_len]; have := hgX.2.1; omega, nms_goes hgX.1, ?_, r2, r3, ?_, q2, q3⟩
  · rw [n1]
    exact r1
  · rw [show nxL (flat (plug t 0 mo.p (.alt (.act s) .throw))) ⟨(mo.p : Int), 2⟩ = flat (S t) from q1, nf_S t hn]
def RRs (b off n c p bM : Nat) (s : ByteArray) (X : List Nd) (k : Nat) (v : Value) (w' : World) : Prop := match k with
  | 0 => v = .slice (some ⟨b, off, none⟩) n c
  | 1 => v = .pointer (some ⟨bM, 0, none⟩)
  | 2 => v = .int .i64 (p : Int)
  | 3 => v = .agg #[.int .i64 6, .string ⟨#[]⟩, .int .i64 0]
  | 4 => v = .slice (some ⟨b, off, none⟩) n c
  | 5 => v = .pointer (some ⟨bM, 0, none⟩)
  | 6 => v = .int .i64 (p : Int)
  | 7 => v = .pointer (some ⟨b, off + p * 3, none⟩)
  | 8 => v = .agg #[.int .i64 1, .string s, .int .i64 0]
  | 9 => v = .agg #[.int .i64 3, .string ⟨#[]⟩, .int .i64 0]
  | 10 => Nds w' v [nOf 6, nAct s, nOf 3]
  | 11 => Nds w' v X
  | 12 => Nds w' v X
  | _ => True
theorem RRs.below {b off n c p bM : Nat} {s : ByteArray} {X : List Nd} {k : Nat} {v : Value} {w w' : World} (h : RRs b off n c p bM s X k v w) (hb : Below w.heap.size w w') : RRs b off n c p bM s X k v w' := by
  unfold RRs at h ⊢
  split at h
  case h_11 => exact Nds.below h hb
  case h_12 => exact Nds.below h hb
  case h_13 => exact Nds.below h hb
  all_goals exact h
theorem RRs.put {w4 : World} {b off n c p bM : Nat} {s : ByteArray} {X : List Nd} {v : Value} {w w' : World} {f : Nat → Bool} {us : Nat → Value} {i : Nat} (g : Rg.Kept (fun w' => Below w4.heap.size w4 w') (RRs b off n c p bM s X) f us w) (hb : Below w.heap.size w w') (hv : RRs b off n c p bM s X i v w') :
    Rg.Kept (fun w' => Below w4.heap.size w4 w') (RRs b off n c p bM s X) (Rg.upd f i true) (Rg.upd us i v) w' :=
  Rg.Kept.put (Base := fun w' => Below w4.heap.size w4 w') (R := RRs b off n c p bM s X) (fun _ _ h hb => h.trans (hb.mono h.size)) (fun _ _ _ _ h hb => RRs.below h hb) g hb hv
set_option maxHeartbeats 8000000 in
theorem refuses_law (C : Con) (A : Alive) (v : Value) (l : List Nd) (m : Mv) (w0 : World) (hv : Nds w0 v l) (hm : Nms l) :
    Calls Try.prog 5 #[v, mvV m] w0 fun e w' => e = .returned (.bool true) ∧ Below w0.heap.size w0 w' := by
  obtain ⟨mp, mh⟩ := m
  have D1 := Lib.hid (below1 w0 (.cells #[.int .i64 mp, .int .i64 mh] 33))
  have M1 := Lib.hid (bm_keep (Bm.new w0 ⟨mp, mh⟩))
  have HF := Lib.hid (fun w1 (hb : Below w0.heap.size w0 w1) => few_any v l w1 (hv.below hb))
  have HA := Lib.hid A
  unfold Alive at HA
  cases hf : Do.fewB l with
  | false =>
    rw [hf] at HF
    obtain ⟨_, a, c, rfl, -⟩ := id hv
    clear hv hm hf M1
    go_enter Try.func5, Try.ntmps5
    go_wp2_with fail
    refine (HF.out _ D1.out).mono ?_
    rintro e w1 ⟨rfl, rfl⟩
    go_wp2_with fail
    refine (HA.out _).mono ?_
    rintro e w2 ⟨rfl, hb2⟩
    have D2 := Lib.hid (D1.out.trans (hb2.mono D1.out.size))
    clear hb2
    go_wp2_with fail
    go_ret
    exact ⟨rfl, D2.out⟩
  | true =>
    rw [hf] at HF
    have hl := Do.few_len hf
    have hl2 : ¬ (l.length : Int) > 150 := by omega
    have hl3 : ¬ (150 : Int) < (l.length : Int) := by omega
    obtain ⟨bM, hbM⟩ : ∃ bM, w0.heap.size = bM := ⟨_, rfl⟩
    obtain ⟨W, hW⟩ : ∃ W, w0.alloc (.cells #[.int .i64 mp, .int .i64 mh] 33) = W := ⟨_, rfl⟩
    rw [hW] at D1 M1
    rw [hbM] at M1
    simp only at M1
    obtain ⟨c0, c1⟩ := M1.out _ (Below.refl _ _)
    by_cases h1 : mh = 1
    · subst h1
      have HR := Lib.hid (fun w1 (hb : Below w0.heap.size w0 w1) => C.rf v l ⟨mp, 1⟩ w1 (hv.below hb) (by omega) hm)
      by_cases hin : (⟨mp, 1⟩ : Mv) ∈ enR l
      · obtain ⟨p, s, hp, em, hget, f1, f2, f3, f4, f5, f6, f7, f8, f9⟩ := refuses_of hin rfl hl
        have L2 := Lib.hid (rfL_len l ⟨mp, 1⟩)
        obtain rfl : mp = (p : Int) := em
        rcases hv.form with ⟨h0, _⟩ | ⟨b, off, c, rfl, hc, hat⟩
        · rw [h0] at hp; simp at hp
        simp only at f2 f3 f4 f5 f6 f7 f8 f9
        rw [f1] at HR
        have HPU : Hid (∀ y w1, Below w0.heap.size w0 w1 → Nds w1 y [nOf 6, nAct s, nOf 3] → Calls Try.prog 11 #[.slice (some ⟨b, off, none⟩) l.length c, .int .i64 (p : Int), y] w1 fun e w' => ∃ y, e = .returned y ∧ Nds w' y (putR l (p : Int) [nOf 6, nAct s, nOf 3]) ∧ Below w1.heap.size w1 w') := Lib.hid fun y w1 hb hy => putR_any _ y l [nOf 6, nAct s, nOf 3] (p : Int) w1 (hv.below hb) hy (by omega) (by simp)
        have HX3 := Lib.hid (fun y w1 (hy : Nds w1 y (putR l (p : Int) [nOf 6, nAct s, nOf 3])) => C.nx y _ ⟨(p : Int), 3⟩ w1 hy f2 f3)
        have HX2 := Lib.hid (fun y w1 (hy : Nds w1 y (putR l (p : Int) [nOf 6, nAct s, nOf 3])) => C.nx y _ ⟨(p : Int), 2⟩ w1 hy f2 f3)
        rw [f4, f5, f6] at HX3
        rw [f7, f8, f9] at HX2
        have XC : Hid (∀ w', Below w0.heap.size w0 w' → w'.cell? ⟨b, off + p * 3, none⟩ = some (.int .i64 1) ∧ w'.cell? ⟨b, off + p * 3 + 1, none⟩ = some (.string s) ∧ w'.cell? ⟨b, off + p * 3 + 2, none⟩ = some (.int .i64 0)) := Lib.hid fun w' hb => by
          have h := at_below hat hb rfl p hp
          rw [hget] at h
          exact h
        have HVL := Lib.hid (fun w1 (hb : Below w0.heap.size w0 w1) => hv.below hb)
        generalize rfL l ⟨(p : Int), 1⟩ = Y at HR HX3 L2
        generalize putR l (p : Int) [nOf 6, nAct s, nOf 3] = X at HPU HX3 HX2
        have HPN : Hid ((p : Int) < l.length) := Lib.hid (by omega)
        have hpn := HPN.out
        have hpneg : ¬ (p : Int) < 0 := by omega
        have hpge : ¬ (p : Int) ≥ l.length := by omega
        have HLL : Hid (l.length ≤ 1000000) := Lib.hid (by omega)
        have HV1 := Lib.hid (fun w1 (hb : Below w0.heap.size w0 w1) => hv.below hb)
        obtain ⟨n, hn⟩ : ∃ n, l.length = n := ⟨_, rfl⟩
        rw [hn] at HF HR HPU HPN hpn hpge hl2 hl3 HVL hp hc hl HV1 ⊢
        clear hv hm hf hin hat hget f1 f2 f3 f4 f5 f6 f7 f8 f9 hn hl2 hp hc hl
        go_enter Try.func5, Try.ntmps5
        go_wp2_with fail
        refine (HF.out _ D1.out).mono ?_
        rintro e w1 ⟨rfl, rfl⟩
        clear HF hW
        go_wp2_with fail
        refine (HR.out _ D1.out).mono ?_
        rintro e w4 ⟨y2, rfl, hn2, hb2⟩
        have D4 := Lib.hid (D1.out.trans (hb2.mono D1.out.size))
        have NY := Lib.hid (fun w' (hb : Below w4.heap.size w4 w') => hn2.below hb)
        have CM := Lib.hid (fun w' (hb : Below w4.heap.size w4 w') => M1.out w' (hb2.trans (hb.mono hb2.size)))
        clear hb2 hn2 c0 c1
        obtain ⟨c0, c1⟩ := CM.out _ (Below.refl _ _)
        go_wp2_with fail
        clear c0 c1 hbM
        refine Rg.wp_region_kept (by kernel_rfl) [(0, some 52), (1, some 53), (2, some 54), (3, some 55), (4, some 56), (5, some 57), (6, some 58), (7, some 59), (8, some 60), (9, some 61), (10, some 62), (11, some 63), (12, some 7)] (by rfl) (by kernel_rfl) (by kernel_rfl) (fun w' => Below w4.heap.size w4 w') (RRs b off n c p bM s X) (Below.refl _ _).drew ?_ ⟨⟨⟨⟨⟨⟨⟨⟨⟨⟨⟨⟨⟨True.intro, ?_⟩, ?_⟩, ?_⟩, ?_⟩, ?_⟩, ?_⟩, ?_⟩, ?_⟩, ?_⟩, ?_⟩, ?_⟩, ?_⟩, ?_⟩ ?_
        · intro k v w' hk
          unfold RRs
          split
          case h_14 => trivial
          all_goals exact absurd hk (by decide)
        · intro o ho f us wl al ha g hf hdep K hKf
          obtain rfl := Option.some.inj ho
          have hB := g.1
          have hK : ∀ v w', RRs b off n c p bM s X 0 v w' → Below wl.heap.size wl w' → K (al.put (some 52) v) w' := fun v w' hv hb => hKf v w' (RRs.put g hb hv)
          have e0 : al.tmps[0]?.getD undef = .slice (some ⟨b, off, none⟩) n c := by rw [← Rg.eval_getD, ha]; exact (Rg.puts_eval_ne _ _ _ (by rfl)).trans rfl
          have HB := Lib.hid hB
          clear ha hdep g hf hKf hB
          refine Rg.wpOp_of rfl rfl ?_
          go_simp
          exact hK _ _ rfl (Below.refl _ _)
        · intro o ho f us wl al ha g hf hdep K hKf
          obtain rfl := Option.some.inj ho
          have hB := g.1
          have hK : ∀ v w', RRs b off n c p bM s X 1 v w' → Below wl.heap.size wl w' → K (al.put (some 53) v) w' := fun v w' hv hb => hKf v w' (RRs.put g hb hv)
          have e3 : al.tmps[3]?.getD undef = .pointer (some ⟨bM, 0, none⟩) := by rw [← Rg.eval_getD, ha]; exact (Rg.puts_eval_ne _ _ _ (by rfl)).trans rfl
          have HB := Lib.hid hB
          clear ha hdep g hf hKf hB
          refine Rg.wpOp_of rfl rfl ?_
          go_simp
          exact hK _ _ rfl (Below.refl _ _)
        · intro o ho f us wl al ha g hf hdep K hKf
          obtain rfl := Option.some.inj ho
          have hB := g.1
          have hK : ∀ v w', RRs b off n c p bM s X 2 v w' → Below wl.heap.size wl w' → K (al.put (some 54) v) w' := fun v w' hv hb => hKf v w' (RRs.put g hb hv)
          have d1 : RRs b off n c p bM s X 1 (us 1) wl := g.2 1 (hdep ⟨1, .data⟩ (by simp) rfl)
          have e53 : al.tmps[53]?.getD undef = us 1 := by rw [← Rg.eval_getD, ha]; exact Rg.puts_eval _ _ _ (by rfl) (by simp) (by simp)
          have f1 : us 1 = .pointer (some ⟨bM, 0, none⟩) := d1
          obtain ⟨c0, c1⟩ := CM.out _ hB
          have HB := Lib.hid hB
          clear ha hdep g hf hKf d1 hB
          refine Rg.wpOp_of rfl rfl ?_
          go_simp
          exact hK _ _ rfl (Below.refl _ _)
        · intro o ho f us wl al ha g hf hdep K hKf
          obtain rfl := Option.some.inj ho
          have hB := g.1
          have hK : ∀ v w', RRs b off n c p bM s X 3 v w' → Below wl.heap.size wl w' → K (al.put (some 55) v) w' := fun v w' hv hb => hKf v w' (RRs.put g hb hv)
          have HB := Lib.hid hB
          clear ha hdep g hf hKf hB
          refine Rg.wpOp_of rfl rfl ?_
          go_simp
          exact hK _ _ rfl (Below.refl _ _)
        · intro o ho f us wl al ha g hf hdep K hKf
          obtain rfl := Option.some.inj ho
          have hB := g.1
          have hK : ∀ v w', RRs b off n c p bM s X 4 v w' → Below wl.heap.size wl w' → K (al.put (some 56) v) w' := fun v w' hv hb => hKf v w' (RRs.put g hb hv)
          have e0 : al.tmps[0]?.getD undef = .slice (some ⟨b, off, none⟩) n c := by rw [← Rg.eval_getD, ha]; exact (Rg.puts_eval_ne _ _ _ (by rfl)).trans rfl
          have HB := Lib.hid hB
          clear ha hdep g hf hKf hB
          refine Rg.wpOp_of rfl rfl ?_
          go_simp
          exact hK _ _ rfl (Below.refl _ _)
        · intro o ho f us wl al ha g hf hdep K hKf
          obtain rfl := Option.some.inj ho
          have hB := g.1
          have hK : ∀ v w', RRs b off n c p bM s X 5 v w' → Below wl.heap.size wl w' → K (al.put (some 57) v) w' := fun v w' hv hb => hKf v w' (RRs.put g hb hv)
          have e3 : al.tmps[3]?.getD undef = .pointer (some ⟨bM, 0, none⟩) := by rw [← Rg.eval_getD, ha]; exact (Rg.puts_eval_ne _ _ _ (by rfl)).trans rfl
          have HB := Lib.hid hB
          clear ha hdep g hf hKf hB
          refine Rg.wpOp_of rfl rfl ?_
          go_simp
          exact hK _ _ rfl (Below.refl _ _)
        · intro o ho f us wl al ha g hf hdep K hKf
          obtain rfl := Option.some.inj ho
          have hB := g.1
          have hK : ∀ v w', RRs b off n c p bM s X 6 v w' → Below wl.heap.size wl w' → K (al.put (some 58) v) w' := fun v w' hv hb => hKf v w' (RRs.put g hb hv)
          have d5 : RRs b off n c p bM s X 5 (us 5) wl := g.2 5 (hdep ⟨5, .data⟩ (by simp) rfl)
          have e57 : al.tmps[57]?.getD undef = us 5 := by rw [← Rg.eval_getD, ha]; exact Rg.puts_eval _ _ _ (by rfl) (by simp) (by simp)
          have f5 : us 5 = .pointer (some ⟨bM, 0, none⟩) := d5
          obtain ⟨c0, c1⟩ := CM.out _ hB
          have HB := Lib.hid hB
          clear ha hdep g hf hKf d5 hB
          refine Rg.wpOp_of rfl rfl ?_
          go_simp
          exact hK _ _ rfl (Below.refl _ _)
        · intro o ho f us wl al ha g hf hdep K hKf
          obtain rfl := Option.some.inj ho
          have hB := g.1
          have hK : ∀ v w', RRs b off n c p bM s X 7 v w' → Below wl.heap.size wl w' → K (al.put (some 59) v) w' := fun v w' hv hb => hKf v w' (RRs.put g hb hv)
          have d4 : RRs b off n c p bM s X 4 (us 4) wl := g.2 4 (hdep ⟨4, .data⟩ (by simp) rfl)
          have e56 : al.tmps[56]?.getD undef = us 4 := by rw [← Rg.eval_getD, ha]; exact Rg.puts_eval _ _ _ (by rfl) (by simp) (by simp)
          have d6 : RRs b off n c p bM s X 6 (us 6) wl := g.2 6 (hdep ⟨6, .data⟩ (by simp) rfl)
          have e58 : al.tmps[58]?.getD undef = us 6 := by rw [← Rg.eval_getD, ha]; exact Rg.puts_eval _ _ _ (by rfl) (by simp) (by simp)
          have f4 : us 4 = .slice (some ⟨b, off, none⟩) n c := d4
          have f6 : us 6 = .int .i64 (p : Int) := d6
          have hpn := HPN.out
          have HB := Lib.hid hB
          clear ha hdep g hf hKf d4 d6 hB
          refine Rg.wpOp_of rfl rfl ?_
          go_simp
          exact hK _ _ rfl (Below.refl _ _)
        · intro o ho f us wl al ha g hf hdep K hKf
          obtain rfl := Option.some.inj ho
          have hB := g.1
          have hK : ∀ v w', RRs b off n c p bM s X 8 v w' → Below wl.heap.size wl w' → K (al.put (some 60) v) w' := fun v w' hv hb => hKf v w' (RRs.put g hb hv)
          have d7 : RRs b off n c p bM s X 7 (us 7) wl := g.2 7 (hdep ⟨7, .data⟩ (by simp) rfl)
          have e59 : al.tmps[59]?.getD undef = us 7 := by rw [← Rg.eval_getD, ha]; exact Rg.puts_eval _ _ _ (by rfl) (by simp) (by simp)
          have f7 : us 7 = .pointer (some ⟨b, off + p * 3, none⟩) := d7
          obtain ⟨x0, x1, x2⟩ := XC.out _ (D4.out.trans (hB.mono D4.out.size))
          have HB := Lib.hid hB
          clear ha hdep g hf hKf d7 hB
          refine Rg.wpOp_of rfl rfl ?_
          go_simp
          exact hK _ _ rfl (Below.refl _ _)
        · intro o ho f us wl al ha g hf hdep K hKf
          obtain rfl := Option.some.inj ho
          have hB := g.1
          have hK : ∀ v w', RRs b off n c p bM s X 9 v w' → Below wl.heap.size wl w' → K (al.put (some 61) v) w' := fun v w' hv hb => hKf v w' (RRs.put g hb hv)
          have HB := Lib.hid hB
          clear ha hdep g hf hKf hB
          refine Rg.wpOp_of rfl rfl ?_
          go_simp
          exact hK _ _ rfl (Below.refl _ _)
        · intro o ho f us wl al ha g hf hdep K hKf
          obtain rfl := Option.some.inj ho
          have hB := g.1
          have hK : ∀ v w', RRs b off n c p bM s X 10 v w' → Below wl.heap.size wl w' → K (al.put (some 62) v) w' := fun v w' hv hb => hKf v w' (RRs.put g hb hv)
          have d3 : RRs b off n c p bM s X 3 (us 3) wl := g.2 3 (hdep ⟨3, .data⟩ (by simp) rfl)
          have e55 : al.tmps[55]?.getD undef = us 3 := by rw [← Rg.eval_getD, ha]; exact Rg.puts_eval _ _ _ (by rfl) (by simp) (by simp)
          have d8 : RRs b off n c p bM s X 8 (us 8) wl := g.2 8 (hdep ⟨8, .data⟩ (by simp) rfl)
          have e60 : al.tmps[60]?.getD undef = us 8 := by rw [← Rg.eval_getD, ha]; exact Rg.puts_eval _ _ _ (by rfl) (by simp) (by simp)
          have d9 : RRs b off n c p bM s X 9 (us 9) wl := g.2 9 (hdep ⟨9, .data⟩ (by simp) rfl)
          have e61 : al.tmps[61]?.getD undef = us 9 := by rw [← Rg.eval_getD, ha]; exact Rg.puts_eval _ _ _ (by rfl) (by simp) (by simp)
          have f3 : us 3 = .agg #[.int .i64 6, .string ⟨#[]⟩, .int .i64 0] := d3
          have f8 : us 8 = .agg #[.int .i64 1, .string s, .int .i64 0] := d8
          have f9 : us 9 = .agg #[.int .i64 3, .string ⟨#[]⟩, .int .i64 0] := d9
          have HB := Lib.hid hB
          clear ha hdep g hf hKf d3 d8 d9 hB
          refine Rg.wpOp_of rfl rfl ?_
          go_simp
          exact hK _ _ (Se.nds_new _ [nOf 6, nAct s, nOf 3] _) (below1 _ _)
        · intro o ho f us wl al ha g hf hdep K hKf
          obtain rfl := Option.some.inj ho
          have hB := g.1
          have hK : ∀ v w', RRs b off n c p bM s X 11 v w' → Below wl.heap.size wl w' → K (al.put (some 63) v) w' := fun v w' hv hb => hKf v w' (RRs.put g hb hv)
          have d0 : RRs b off n c p bM s X 0 (us 0) wl := g.2 0 (hdep ⟨0, .data⟩ (by simp) rfl)
          have e52 : al.tmps[52]?.getD undef = us 0 := by rw [← Rg.eval_getD, ha]; exact Rg.puts_eval _ _ _ (by rfl) (by simp) (by simp)
          have d2 : RRs b off n c p bM s X 2 (us 2) wl := g.2 2 (hdep ⟨2, .data⟩ (by simp) rfl)
          have e54 : al.tmps[54]?.getD undef = us 2 := by rw [← Rg.eval_getD, ha]; exact Rg.puts_eval _ _ _ (by rfl) (by simp) (by simp)
          have d10 : RRs b off n c p bM s X 10 (us 10) wl := g.2 10 (hdep ⟨10, .data⟩ (by simp) rfl)
          have e62 : al.tmps[62]?.getD undef = us 10 := by rw [← Rg.eval_getD, ha]; exact Rg.puts_eval _ _ _ (by rfl) (by simp) (by simp)
          have f0 : us 0 = .slice (some ⟨b, off, none⟩) n c := d0
          have f2 : us 2 = .int .i64 (p : Int) := d2
          have D10 : Hid (Nds wl (us 10) [nOf 6, nAct s, nOf 3]) := d10
          have HB := Lib.hid hB
          clear ha hdep g hf hKf d0 d2 d10 hB
          refine Rg.wpOp_of rfl rfl ?_
          go_simp
          refine (HPU.out _ _ (D4.out.trans (HB.out.mono D4.out.size)) D10.out).mono ?_
          rintro e wn ⟨y, rfl, hy, hb⟩
          exact hK _ _ hy hb
        · intro o ho f us wl al ha g hf hdep K hKf
          obtain rfl := Option.some.inj ho
          have hB := g.1
          have hK : ∀ v w', RRs b off n c p bM s X 12 v w' → Below wl.heap.size wl w' → K (al.put (some 7) v) w' := fun v w' hv hb => hKf v w' (RRs.put g hb hv)
          have d11 : RRs b off n c p bM s X 11 (us 11) wl := g.2 11 (hdep ⟨11, .data⟩ (by simp) rfl)
          have e63 : al.tmps[63]?.getD undef = us 11 := by rw [← Rg.eval_getD, ha]; exact Rg.puts_eval _ _ _ (by rfl) (by simp) (by simp)
          have D11 : Hid (Nds wl (us 11) X) := d11
          have HB := Lib.hid hB
          clear ha hdep g hf hKf d11 hB
          refine Rg.wpOp_of rfl rfl ?_
          go_simp
          exact hK _ _ D11.out (Below.refl _ _)
        · intro us wz hB hR
          have f7 : Nds wz (us 12) X := hR 12
          have HBZ := Lib.hid hB
          obtain ⟨_, ax, cx, ex, -⟩ := id f7
          have F7 := Lib.hid f7
          rw [ex] at F7
          have DZ := Lib.hid (D4.out.trans (hB.mono D4.out.size))
          obtain ⟨c0, c1⟩ := CM.out _ hB
          simp only [Rg.puts, Act.put, List.setIfInBounds_toArray, List.set_cons_zero, List.set_cons_succ, ex]
          clear hB hR f7 ex
          generalize X.length = xn at F7 ⊢
          go_wp2_with fail
          refine (HX3.out _ _ F7.out).mono ?_
          rintro e w5 ⟨y5, rfl, hn5, hb5⟩
          have E5 := Lib.hid (HBZ.out.trans (hb5.mono HBZ.out.size))
          have D5 := Lib.hid (DZ.out.trans (hb5.mono DZ.out.size))
          have F8 := Lib.hid (F7.out.below hb5)
          have N5 := Lib.hid hn5
          clear hb5 hn5 c0 c1
          obtain ⟨c0, c1⟩ := CM.out _ E5.out
          go_wp2_with fail
          refine (HX2.out _ _ F8.out).mono ?_
          rintro e w6 ⟨y6, rfl, hn6, hb6⟩
          have E6 := Lib.hid (E5.out.trans (hb6.mono E5.out.size))
          have D6 := Lib.hid (D5.out.trans (hb6.mono D5.out.size))
          have N5' := Lib.hid (N5.out.below hb6)
          have N6 := Lib.hid hn6
          clear hb6 hn6 c0 c1
          go_wp2_with fail
          refine (HA.out _).mono ?_
          rintro e w7 ⟨rfl, hb7⟩
          have E7 := Lib.hid (E6.out.trans (hb7.mono E6.out.size))
          have D7 := Lib.hid (D6.out.trans (hb7.mono D6.out.size))
          have P5 := Lib.hid (N5'.out.below hb7)
          have P6 := Lib.hid (N6.out.below hb7)
          clear hb7
          go_wp2_with fail
          refine (sameR_any _ _ Y Y _ (NY.out _ E7.out) P5.out L2.out).mono ?_
          rw [show sameN Y Y = true from decide_eq_true rfl]
          rintro e w8 ⟨rfl, hb8⟩
          have D8 := Lib.hid (D7.out.trans (hb8.mono D7.out.size))
          have P6' := Lib.hid (P6.out.below hb8)
          clear hb8
          go_wp2_with fail
          refine (sameR_any _ _ l l _ P6'.out (HV1.out _ D8.out) HLL.out).mono ?_
          rw [show sameN l l = true from decide_eq_true rfl]
          rintro e w9 ⟨rfl, hb9⟩
          have D9 := Lib.hid (D8.out.trans (hb9.mono D8.out.size))
          clear hb9
          go_wp2_with fail
          go_ret
          exact ⟨rfl, D9.out⟩
      · rw [show rfL l ⟨mp, 1⟩ = [] from if_neg fun k => hin k.1, show rfE l ⟨mp, 1⟩ = 120 from if_neg fun k => hin k.1] at HR
        obtain ⟨_, a, c, rfl, -⟩ := id hv
        clear hv hm hf hin hl2 hl
        go_enter Try.func5, Try.ntmps5
        go_wp2_with fail
        refine (HF.out _ D1.out).mono ?_
        rintro e w1 ⟨rfl, rfl⟩
        clear HF hW
        go_wp2_with fail
        refine (HR.out _ D1.out).mono ?_
        rintro e w4 ⟨y2, rfl, hn2, hb2⟩
        have D4 := Lib.hid (D1.out.trans (hb2.mono D1.out.size))
        obtain ⟨_, ay, cy, rfl, -⟩ := hn2
        clear hb2 c0 c1
        go_wp2_with fail
        refine (HA.out _).mono ?_
        rintro e w5 ⟨rfl, hb5⟩
        have D5 := Lib.hid (D4.out.trans (hb5.mono D4.out.size))
        clear hb5
        go_wp2_with fail
        go_ret
        exact ⟨rfl, D5.out⟩
    · have g1 : (mh != 1) = true := by rw [bne_iff_ne]; exact h1
      obtain ⟨_, a, c, rfl, -⟩ := id hv
      clear hv hm hf hl2 hl h1
      go_enter Try.func5, Try.ntmps5
      go_wp2_with fail
      refine (HF.out _ D1.out).mono ?_
      rintro e w1 ⟨rfl, rfl⟩
      clear HF hW
      go_wp2_with fail
      refine (HA.out _).mono ?_
      rintro e w5 ⟨rfl, hb5⟩
      have D5 := Lib.hid (D1.out.trans (hb5.mono D1.out.size))
      clear hb5
      go_wp2_with fail
      go_ret
      exact ⟨rfl, D5.out⟩
end Go.Proofs.Ytaapnkoooofalaa.St

namespace Go.Proofs.Ytaapnkoooofalaa.St
open Go Go.RowKit Rw So Se Do Sp Me
set_option maxRecDepth 20000
abbrev wK : List Int := [1, 6, 4, 10]
theorem cnt_ch (t : Tm) : cnt (flat t) wK = Co.ch t := by
  unfold cnt Co.ch ct
  congr 1
  funext x
  rw [Bool.eq_iff_iff]
  simp
  omega
theorem name_pos {s : ByteArray} (h : rgt (nAct s) = true) : s ≠ ⟨#[]⟩ := by
  intro e
  subst e
  exact absurd h (by decide +kernel)
theorem en_less {l : List Nd} {m : Mv} (h : m ∈ enR l) : cnt (nxL l m) wK < cnt l wK ∧ (m.h = 1 → nxS l m ≠ ⟨#[]⟩) ∧ (m.h ≠ 1 → nxS l m = ⟨#[]⟩) := by
  obtain ⟨t, rfl, hg, hn⟩ := en_set h
  obtain ⟨mo, h1, rfl⟩ := en_mo hg hn h
  obtain ⟨n1, n2, _⟩ := nx_of hg hn h1
  rw [n1, n2, cnt_ch, cnt_ch]
  refine ⟨Nat.lt_of_le_of_lt (Co.S_ch _) (Co.mv_ch t true 0 mo h1), ?_, ?_⟩
  · intro hh
    obtain ⟨pre, s, post, u, e1, _, _, hm⟩ := mv_put t true 0 mo h1
    have hr := hg.1
    unfold rg at hr
    rw [e1, List.all_append, List.all_append, Bool.and_eq_true, Bool.and_eq_true] at hr
    have hs := hr.2.1
    have hh' : mo.h = 1 := hh
    generalize mo.h = x at hm hh'
    generalize mo.l = oo at hm ⊢
    cases hm with
    | act s =>
      refine name_pos ?_
      have : ([nAct s]).all rgt = true := hs
      simpa using this
    | _ => exact absurd hh' (by decide)
  · intro hh
    obtain ⟨pre, s, post, u, e1, _, _, hm⟩ := mv_put t true 0 mo h1
    have hh' : mo.h ≠ 1 := hh
    generalize mo.h = x at hm hh'
    generalize mo.l = oo at hm ⊢
    cases hm with
    | act s => exact absurd rfl hh'
    | _ => rfl
theorem ints4 (w : World) (ty : TypeId) : Ints (w.alloc (.cells #[.int .i64 1, .int .i64 6, .int .i64 4, .int .i64 10] ty)) (.slice (some ⟨w.heap.size, 0, none⟩) 4 4) wK := by
  refine ⟨rfl, some ⟨w.heap.size, 0, none⟩, 4, rfl, Nat.le_refl _, fun h => (by cases h), fun _ => ⟨w.heap.size, 0, rfl, fun j u hu => ?_⟩⟩
  rw [Nat.zero_add, World.cell?_alloc_new]
  simpa using hu
set_option maxHeartbeats 1000000 in
theorem many_any (v : Value) (l : List Nd) (w : World) (hv : Nds w v l) (hl : l.length ≤ 1000) : Calls Try.prog 18 #[v] w fun e w' => e = .returned (.int .i64 (cnt l wK : Nat)) ∧ Below w.heap.size w w' := by
  have HC := Lib.hid (fun ty => Rx.countP_any v _ l wK (w.alloc (.cells #[.int .i64 1, .int .i64 6, .int .i64 4, .int .i64 10] ty)) (hv.below (below1 w _)) (ints4 w ty) (by omega) (by decide))
  have DB := Lib.hid (fun ty => below1 w (.cells #[.int .i64 1, .int .i64 6, .int .i64 4, .int .i64 10] ty))
  obtain ⟨_, a, c, rfl, -⟩ := hv
  generalize cnt l wK = q at HC ⊢
  go_enter Try.func18, Try.ntmps18
  go_wp2_with fail
  refine (HC.out _).mono ?_
  rintro e w1 ⟨rfl, hb1⟩
  have D1 := Lib.hid ((DB.out _).trans (hb1.mono (DB.out _).size))
  clear hb1
  go_wp2_with fail
  go_ret
  exact ⟨rfl, D1.out⟩
set_option maxHeartbeats 8000000 in
theorem less_law (M : Me.Con) (C : Con) (A : Alive) (v : Value) (l : List Nd) (w0 : World) (hv : Nds w0 v l) (hm : Nms l) :
    Calls Try.prog 6 #[v] w0 fun e w' => e = .returned (.bool true) ∧ Below w0.heap.size w0 w' := by
  have HF := Lib.hid (few_any v l w0 hv)
  have HA := Lib.hid A
  unfold Alive at HA
  cases hf : Do.fewB l with
  | false =>
    rw [hf] at HF
    obtain ⟨_, a, c, rfl, -⟩ := id hv
    clear hv hm hf
    go_enter Try.func6, Try.ntmps6
    go_wp2_with fail
    refine HF.out.mono ?_
    rintro e w1 ⟨rfl, rfl⟩
    go_wp2_with fail
    refine (HA.out _).mono ?_
    rintro e w2 ⟨rfl, hb2⟩
    have D2 := Lib.hid hb2
    clear hb2
    go_wp2_with fail
    go_ret
    exact ⟨rfl, D2.out⟩
  | true =>
    rw [hf] at HF
    have hl := Do.few_len hf
    have HE := Lib.hid (M.en v l w0 hv (by omega) hm)
    have HN := Lib.hid (fun m w1 (hb : Below w0.heap.size w0 w1) => C.nx v l m w1 (hv.below hb) (by omega) hm)
    have HM := Lib.hid (fun w1 (hb : Below w0.heap.size w0 w1) => many_any v l w1 (hv.below hb) (by omega))
    have HLS := Lib.hid (fun m (h : m ∈ enR l) => en_less h)
    have HKD := Lib.hid (fun m (h : m ∈ enR l) => en_kind h)
    have hvl : (enR l).length ≤ 200 := Nat.le_trans (enR_len l) (by omega)
    obtain ⟨_, a, c, rfl, -⟩ := id hv
    generalize enR l = V at HE hvl HKD HLS
    clear hv hm hf
    go_enter Try.func6, Try.ntmps6
    go_wp2_with fail
    refine HF.out.mono ?_
    rintro e w1 ⟨rfl, rfl⟩
    go_wp2_with fail
    refine HE.out.mono ?_
    rintro e w3 ⟨y, rfl, hi, hb3⟩
    have D3 := Lib.hid hb3
    have FM := Lib.hid hi.form
    obtain ⟨_, ay, cy, rfl, -⟩ := id hi
    clear hb3 hi HF HE
    go_wp2_with fail
    go_loopw [16] (fun i wr => ∃ k : Nat, k ≤ V.length ∧ i = .int .i64 k ∧ Hid (Below w3.heap.size w3 wr)) (fun i _ => V.length - (intOf i).toNat)
    case atStart => exact ⟨0, Nat.zero_le _, rfl, Lib.hid (Below.refl _ _)⟩
    case round =>
      obtain ⟨k, hk, rfl, HB⟩ := hrel
      have DR := Lib.hid (D3.out.trans (HB.out.mono D3.out.size))
      by_cases hlt : k < V.length
      · rcases FM.out with ⟨h0, _⟩ | ⟨b4, o4, c4, e4, _, hat4⟩
        · rw [h0] at hlt; simp at hlt
        injection e4 with e41 e42 e43
        subst e41; subst e43
        obtain ⟨q4, q5⟩ := hat4 k hlt
        have d4 : wr.cell? ⟨b4, o4 + k * 2, none⟩ = some (.int .i64 V[k].p) := by rw [HB.out.cell (Ap.cell_lt q4)]; exact q4
        have d5 : wr.cell? ⟨b4, o4 + k * 2 + 1, none⟩ = some (.int .i64 V[k].h) := by rw [HB.out.cell (Ap.cell_lt q5)]; exact q5
        obtain ⟨k1, -, -, k4, -⟩ := HKD.out _ (List.getElem_mem hlt)
        obtain ⟨l1, l2, l3⟩ := HLS.out _ (List.getElem_mem hlt)
        obtain ⟨x, hx⟩ : ∃ x, V[k] = x := ⟨_, rfl⟩
        rw [hx] at d4 d5 k1 k4 l1 l2 l3
        have HN1 := Lib.hid (HN.out x)
        rw [k1] at HN1
        have HZ := Lib.hid (fun y w1 (h : Nds w1 y (nxL l x)) => many_any y (nxL l x) w1 h (by omega))
        generalize nxL l x = Z at HN1 HZ k4 l1
        generalize nxS l x = s at HN1 l2 l3
        generalize cnt Z wK = qz at HZ l1
        generalize cnt l wK = ql at HM l1
        have g0 : decide (ql ≤ qz) = false := decide_eq_false (by omega)
        obtain ⟨xp, xh⟩ := x
        simp only at d4 d5 l2 l3
        obtain ⟨D5, M5⟩ := Me.step0 xp xh DR.out
        have HBa := HB.out.trans ((below1 wr (.cells #[.int .i64 xp, .int .i64 xh] 33)).mono HB.out.size)
        clear hat4 q4 q5 k1 k4 hx HN HKD HLS FM l1
        go_wp2_with fail
        refine (HN1.out _ D5).mono ?_
        rintro e w5 ⟨y5, rfl, hn5, hb5⟩
        have D6 := Lib.hid (D5.trans (hb5.mono D5.size))
        have HB6 := Lib.hid (HBa.trans (hb5.mono HBa.size))
        have N5 := Lib.hid hn5
        have M6 := M5.below hb5 M5.lt
        clear D5 M5 HBa hb5 hn5 d4 d5
        go_wp2_with fail
        refine (HZ.out _ _ N5.out).mono ?_
        rintro e w6 ⟨rfl, hb6⟩
        have D7 := Lib.hid (D6.out.trans (hb6.mono D6.out.size))
        have HB7 := Lib.hid (HB6.out.trans (hb6.mono HB6.out.size))
        have M7 := M6.below hb6 M6.lt
        clear hb6 M6
        go_wp2_with fail
        refine (HM.out _ D7.out).mono ?_
        rintro e w7 ⟨rfl, hb7⟩
        have HB8 := Lib.hid (HB7.out.trans (hb7.mono HB7.out.size))
        obtain ⟨c0, c1, -⟩ := (M7.below hb7 M7.lt).cells
        simp only at c0 c1
        clear hb7 M7
        by_cases h1 : xh = 1
        · subst h1
          have hs := l2 rfl
          have g1 : s.toList.isEmpty = false := by
            rw [ByteArray.toList_eq s]
            cases h : s.data.toList with
            | nil => exact absurd (ByteArray.ext (Array.toList_inj.1 h)) hs
            | cons _ _ => rfl
          clear l2 l3 hs
          go_wp2_with fail
          go_roundw
          case rel => exact ⟨k + 1, by omega, by go_num, HB8⟩
          case measure => simp [intOf]; omega
        · obtain rfl := l3 h1
          have g1 : (xh == 1) = false := beq_eq_false_iff_ne.2 h1
          clear l2 l3 h1
          go_wp2_with fail
          go_roundw
          case rel => exact ⟨k + 1, by omega, by go_num, HB8⟩
          case measure => simp [intOf]; omega
      · go_wp2_with fail
        refine (HA.out _).mono ?_
        rintro e w9 ⟨rfl, hb9⟩
        have D9 := Lib.hid (DR.out.trans (hb9.mono DR.out.size))
        clear hb9
        go_wp2_with fail
        go_ret
        exact ⟨rfl, D9.out⟩
end Go.Proofs.Ytaapnkoooofalaa.St
