/- The program's Trace. The program's tree, Most, Least, Crashed: the walks. The program's ways: the map that it makes; always. What the laws of move ask of the program; few; MoveEnabled: the walks. The document's Next, Refuse, of any row and move. The program's tree on any tree; Most, Least, Crashed; the contracts of package cost. The program's movesAt: the walk. What the laws of step ask of the program; few; StepNext: the walks. -/
import Derived.Test.YtpingbiibbmcaaaGreatQ28
import Derived.Test.YtpingbiibbmcaaaGreatQ22
import Derived.Test.YtpingbiibbmcaaaGreatQ05
import Derived.Test.YtpingbiibbmcaaaGreatQ09
import Derived.Test.YtpingbiibbmcaaaGreatQ06
import Derived.Test.YtpingbiibbmcaaaGreatQ13
import Derived.Deep.QuietTactic
import Derived.Test.YtpingbiibbmcaaaGreatQ27
import Derived.Lib.LaidTab
import Derived.Test.YtpingbiibbmcaaaGreatQ26
import Derived.Test.YtpingbiibbmcaaaGreatQ11
import Derived.Test.YtpingbiibbmcaaaGreatQ25
import Derived.Laws.EntriesVeiled

namespace Go.Proofs.YtpingbiibbmcaaaGreat.Ru
open Go Go.RowKit Go.Proofs.YtpingbiibbmcaaaGreat.Rw Go.Proofs.YtpingbiibbmcaaaGreat.So Go.Proofs.YtpingbiibbmcaaaGreat.Se Go.Proofs.YtpingbiibbmcaaaGreat.Tr Go.Proofs.YtpingbiibbmcaaaGreat.Do Go.Proofs.YtpingbiibbmcaaaGreat.Sp Go.Proofs.YtpingbiibbmcaaaGreat.Me Go.Proofs.YtpingbiibbmcaaaGreat.St
set_option maxRecDepth 20000

set_option maxHeartbeats 1000000 in
/-- The program's Trace. -/
theorem traceP_any (y a : Value) (r : Rn) (z : Int) (w : World) (hy : Nds w y r.l) (ha : Tr.Strs w a r.a) (hl : r.a.length ≤ 100000) : Calls Tryz.prog 9 #[.agg #[y, a, .int .i64 z]] w (TrP (trR r) (endB r.l) w) := by
  have HB := Lib.hid (fun x z => ((Below.refl w.heap.size w).alloc (Nat.le_refl _) x).alloc (by simp) z)
  have HE := Lib.hid (fun w1 (hb : Below w.heap.size w w1) => Se.endedP_any y r.l w1 (hy.below hb))
  have HC := Lib.hid (fun w1 (hb : Below w.heap.size w w1) => cloneS_any a r.a.length (r.a.map .string) w1 (Ap.Rd.below ha hb) (fun u hu => by obtain ⟨b, _, rfl⟩ := List.mem_map.1 hu; rfl) (by omega))
  have he : Se.overB r.l = endB r.l ∧ (endB r.l = true → Se.overS r.l = sgn r.l) := by
    match r.l with
    | [] => exact ⟨rfl, fun h => by cases h⟩
    | [x] => 
      have e1 : endB [x] = (x.k == 11) := Bool.true_and _
      refine ⟨e1.symm, fun h => ?_⟩
      rw [e1] at h
      show (if x.k == 11 then x.s else 0) = x.s
      rw [if_pos h]
    | x :: y :: t => exact ⟨rfl, fun h => by
        have : endB (x :: y :: t) = false := by unfold endB; simp
        rw [this] at h
        cases h⟩
  rw [he.1] at HE
  obtain ⟨_, ya, yc, rfl, -⟩ := hy
  obtain ⟨_, aa, ac, rfl, -⟩ := ha
  unfold TrP trR
  cases hq : endB r.l with
  | true =>
    rw [hq, he.2 hq] at HE
    rw [if_pos rfl]
    generalize sgn r.l = s at *
    clear he hq
    go_enter Tryz.func9, Tryz.ntmps9
    go_wp2_with fail
    refine (HE.out _ (HB.out _ _)).mono ?_
    rintro e w1 ⟨rfl, hb1⟩
    have q1 := kc (p := ⟨w.heap.size, 1, none⟩) (u := .slice aa r.a.length ac) hb1 (by simp [go_sem])
    have q2 := kc (p := ⟨w.heap.size + 1, 0, none⟩) (u := .slice none 0 0) hb1 (by simp [go_sem])
    have q3 := kc (p := ⟨w.heap.size + 1, 1, none⟩) (u := .int .i64 0) hb1 (by simp [go_sem])
    have q4 := kf (p := ⟨w.heap.size + 1, 0, none⟩) hb1 (by simp [go_sem]) (by simp)
    have q5 := kf (p := ⟨w.heap.size + 1, 1, none⟩) hb1 (by simp [go_sem]) (by simp)
    have G := Lib.hid ((hb1.block _ (by simp)).trans (new2 _ _ _))
    have D1 := Lib.hid ((HB.out _ _).trans (hb1.mono (HB.out _ _).size))
    clear hb1
    go_wp2_with fail
    refine (HC.out _ D1.out).mono ?_
    rintro e w2 ⟨vc, rfl, hown, hb2⟩
    have p2 := kc hb2 q2
    have p3 := kc hb2 q3
    have p4 := kf hb2 q4 (Ap.cell_lt q2)
    have p5 := kf hb2 q5 (Ap.cell_lt q3)
    have G2 := Lib.hid ((hb2.block _ (Ap.cell_lt q2)).trans G.out)
    have D2 := Lib.hid (D1.out.trans (hb2.mono D1.out.size))
    have S2 := Lib.hid (show Tr.Strs w2 vc r.a from Ap.Rd.owned hown)
    obtain ⟨_, va, vcc, rfl, -⟩ := Ap.Rd.owned hown
    clear hb2 hown
    go_wp2_with fail
    obtain ⟨k0, k1⟩ := two_cells (.slice va r.a.length vcc) (.int .i64 s) p2 p3
    refine bodyPost_ret (v := .tuple #[.agg #[.slice va r.a.length vcc, .int .i64 s], .bool true]) (by simp [results, Tryz.results9, go_sem, k0, k1]) rfl ⟨_, rfl, ?_, ?_⟩
    · exact strs_off S2.out G2.out (by simp) (two_set _ _ _ _)
    · exact Rx.below_setCell (Rx.below_setCell D2.out _ _ _ (by omega)) _ _ _ (by omega)
  | false =>
    rw [hq] at HE
    rw [if_neg (by decide)]
    generalize Se.overS r.l = s at *
    clear he hq HC
    go_enter Tryz.func9, Tryz.ntmps9
    go_wp2_with fail
    refine (HE.out _ (HB.out _ _)).mono ?_
    rintro e w1 ⟨rfl, hb1⟩
    have q2 := kc (p := ⟨w.heap.size + 1, 0, none⟩) (u := .slice none 0 0) hb1 (by simp [go_sem])
    have q3 := kc (p := ⟨w.heap.size + 1, 1, none⟩) (u := .int .i64 0) hb1 (by simp [go_sem])
    have q4 := kf (p := ⟨w.heap.size + 1, 0, none⟩) hb1 (by simp [go_sem]) (by simp)
    have q5 := kf (p := ⟨w.heap.size + 1, 1, none⟩) hb1 (by simp [go_sem]) (by simp)
    have D1 := Lib.hid ((HB.out _ _).trans (hb1.mono (HB.out _ _).size))
    clear hb1
    go_wp2_with fail
    obtain ⟨k0, k1⟩ := two_cells (.slice none 0 0) (.int .i64 0) q2 q3
    refine bodyPost_ret (v := .tuple #[.agg #[.slice none 0 0, .int .i64 0], .bool false]) (by simp [results, Tryz.results9, go_sem, k0, k1]) rfl ⟨_, rfl, strs_nil _, ?_⟩
    exact Rx.below_setCell (Rx.below_setCell D1.out _ _ _ (by omega)) _ _ _ (by omega)
end Go.Proofs.YtpingbiibbmcaaaGreat.Ru

namespace Go.Proofs.YtpingbiibbmcaaaGreat.Co
open Go Go.RowKit Go.Proofs.YtpingbiibbmcaaaGreat.Rw Go.Proofs.YtpingbiibbmcaaaGreat.So Go.Proofs.YtpingbiibbmcaaaGreat.Se Go.Proofs.YtpingbiibbmcaaaGreat.Do Go.Proofs.YtpingbiibbmcaaaGreat.Sp
set_option maxRecDepth 20000

theorem eg_pf (f : Nat) (hf : Pf f) : ∀ args w, (callFunc f args).run Tryz.prog w = .ok (.enter f args) w := by
  rcases hf with rfl | rfl | rfl <;> exact fun _ _ => by simp [go_sem]
/-- A call of the closure on a row: it tells this number. -/
def Tells (caps : Array Value) (w0 : World) (l : List Nd) (x : Nat) : Prop := ∀ (y : Value) (w1 : World), Below w0.heap.size w0 w1 → Nds w1 y l → Calls Tryz.prog 65 (#[y] ++ caps) w1 (NumP (x : Nat) w1)
set_option maxHeartbeats 2000000 in
theorem joinT0 (f : Nat) (caps : Array Value) (v : Value) (w : World) (hv : Rws w v []) : Calls Tryz.prog 63 #[v, fnV f, .func (.func 65) #[] caps] w (NumP 0 w) := by
  rcases Rx.rws_form hv with ⟨_, a, c, rfl⟩ | ⟨b, off, c, rfl, hat⟩
  all_goals
    go_enter Tryz.func63, Tryz.ntmps63
    go_wp2_with fail
    go_ret
    exact ⟨rfl, Below.refl _ _⟩
set_option maxHeartbeats 2000000 in
theorem joinT1 (f : Nat) (caps : Array Value) (v : Value) (w : World) (l : List Nd) (x : Nat) (hv : Rws w v [l]) (H : Tells caps w l x) : Calls Tryz.prog 63 #[v, fnV f, .func (.func 65) #[] caps] w (NumP (x : Nat) w) := by
  rcases Rx.rws_form hv with ⟨h0, _⟩ | ⟨b, off, c, rfl, hat⟩
  · cases h0
  obtain ⟨y, hy, hn⟩ := hat 0 (by simp)
  rw [Nat.add_zero] at hy
  have HC := Lib.hid (H y w (Below.refl _ _) hn)
  unfold NumP at HC
  clear hat hn H hv
  go_enter Tryz.func63, Tryz.ntmps63
  go_wp2_with fail
  refine HC.out.mono ?_
  rintro e w1 ⟨rfl, hb1⟩
  have B1 := Lib.hid hb1
  clear hb1 HC hy
  go_wp2_with fail
  all_goals
    refine Go.wp_loop_rounds 1 ?_
    rw [rounds_succ]
    go_wp2_with fail
    go_ret
    exact ⟨rfl, B1.out⟩
set_option maxHeartbeats 4000000 in
theorem joinT2 (f : Nat) (hf : Pf f) (caps : Array Value) (v : Value) (w : World) (l m : List Nd) (x z : Nat) (hx : x ≤ 2000) (hz : z ≤ 2000) (hv : Rws w v [l, m]) (H : Tells caps w l x) (G : Tells caps w m z) : Calls Tryz.prog 63 #[v, fnV f, .func (.func 65) #[] caps] w (NumP (pt f x z : Nat) w) := by
  have hcap : ∃ b off c, v = .slice (some ⟨b, off, none⟩) 2 c ∧ 2 ≤ c ∧ Rx.AtRs w b off [l, m] := by
    obtain ⟨cs, ⟨_, a, c, rfl, hle, _, hcell⟩, hr⟩ := id hv
    rcases Rx.rws_form hv with ⟨h0, _⟩ | ⟨b, off, c', he, hat⟩
    · cases h0
    · injection he with h1 h2 h3
      subst h1
      subst h3
      exact ⟨b, off, c, rfl, hle, hat⟩
  obtain ⟨b, off, c, rfl, hc, hat⟩ := hcap
  obtain ⟨y, hy, hn⟩ := hat 0 (by simp)
  obtain ⟨y2, hy2, hn2⟩ := hat 1 (by simp)
  rw [Nat.add_zero] at hy
  have HC := Lib.hid (H y w (Below.refl _ _) hn)
  have HD := Lib.hid (fun w1 (hb : Below w.heap.size w w1) => G y2 w1 hb (hn2.below hb))
  have HQ := Lib.hid (fun w1 => put_any f hf x z w1 hx hz)
  have HY := Lib.hid (fun w1 (hb : Below w.heap.size w w1) => show w1.cell? ⟨b, off + 1, none⟩ = some y2 by rw [hb.cell (Ap.cell_lt hy2)]; exact hy2)
  unfold NumP at HC HD
  generalize pt f x z = q at HQ ⊢
  have gc : ¬ c = 1 := by omega
  have gc1 : (1 : Int) ≤ (c : Int) := by omega
  have eg := eg_pf f hf
  clear hat hn hn2 H G hv hx hz hy2 hf
  go_enter Tryz.func63, Tryz.ntmps63
  go_wp2_with fail
  refine HC.out.mono ?_
  rintro e w1 ⟨rfl, hb1⟩
  have B1 := Lib.hid hb1
  have p1 := HY.out w1 hb1
  clear hb1 HC hy
  go_wp2_with fail
  refine Go.wp_loop_rounds 2 ?_
  rw [rounds_succ]
  go_wp2_with fail
  refine (HD.out _ B1.out).mono ?_
  rintro e w2 ⟨rfl, hb2⟩
  have B2 := Lib.hid (B1.out.trans (hb2.mono B1.out.size))
  clear hb2 HD p1
  go_wp2_with fail
  refine (HQ.out _).mono ?_
  rintro e w3 ⟨rfl, rfl⟩
  go_wp2_with fail
  rw [rounds_succ]
  go_wp2_with fail
  go_ret
  exact ⟨rfl, B2.out⟩
/-- The program's tree on a tree. -/
abbrev fb (b : Bool) : Nat := if b then 25 else 24
theorem fb_pf (b : Bool) : Pf (fb b) := by cases b <;> simp [Pf, fb]
abbrev Wpt (t : Tm) : Prop := ∀ (v : Value) (w : World) (b : Bool), Nds w v (flat t) → Calls Tryz.prog 43 #[v, fnV (fb b)] w (NumP (cst b t : Nat) w)
set_option maxHeartbeats 1000000 in
theorem clos_any (t : Tm) (IH : Wpt t) (b : Bool) (B : Nat) (v : Value) (w : World) (hv : Nds w v (flat t)) (hB : w.cell? ⟨B, 0, none⟩ = some (fnV (fb b))) : Calls Tryz.prog 65 #[v, .pointer (some ⟨B, 0, none⟩)] w (NumP (cst b t : Nat) w) := by
  have HC := Lib.hid (IH v w b hv)
  unfold NumP at *
  generalize cst b t = z at HC ⊢
  generalize fnV (fb b) = g at HC hB
  obtain ⟨_, a, c, rfl, -⟩ := hv
  clear IH
  go_enter Tryz.func65, Tryz.ntmps65
  go_wp2_with fail
  refine HC.out.mono ?_
  rintro e w1 ⟨rfl, hb⟩
  have B1 := Lib.hid hb
  clear hb
  go_wp2_with fail
  go_ret
  exact ⟨rfl, B1.out⟩
set_option maxHeartbeats 4000000 in
theorem tree_core (t : Tm) (ks : List (List Nd)) (q : Nat) (b : Bool) (v : Value) (w : World) (hv : Nds w v (flat t)) (hs : sz t ≤ 400) (hk : kids (flat t) = ks) (hq : q ≤ 1000)
    (HJ : ∀ (B : Nat) (y : Value) (w1 : World), Rws w1 y ks → w1.cell? ⟨B, 0, none⟩ = some (fnV (fb b)) → Calls Tryz.prog 63 #[y, fnV (tg (kd t) (fb b)), .func (.func 65) #[] #[.pointer (some ⟨B, 0, none⟩)]] w1 (NumP (q : Nat) w1)) :
    Calls Tryz.prog 43 #[v, fnV (fb b)] w (NumP (ow (kd t) + q : Nat) w) := by
  have KK := fun w1 (hb : Below w.heap.size w w1) => (Rx.kidsP_any v (flat t) w1 (hv.below hb) (by rw [Se.flat_len]; omega)).mono fun e w2 (h : Rw.KidsPost (kids (flat t)) w1 e w2) => show ∃ y, e = .returned y ∧ Rws w2 y ks ∧ Below w1.heap.size w1 w2 by
    obtain ⟨y, cs, he, h1, h2, hb⟩ := h
    rw [hk] at h1 h2
    exact ⟨y, he, ⟨cs, h1.rd, h2.rwc⟩, hb⟩
  have HK := Lib.hid KK
  have D0 := Lib.hid (below1 w (.cells #[fnV (fb b)] 64))
  obtain ⟨bA, oA, cA, rfl, hcA, hltA, hwA, hatA⟩ := form hv
  obtain ⟨nA, hnA⟩ : ∃ n, sz t = n + 1 := ⟨sz t - 1, by have := sz_pos t; omega⟩
  rw [hnA] at hcA HK ⊢
  have g3A : (0 : Int) < (nA : Int) + 1 := by omega
  have HP := Lib.hid (fun w1 => priced_any (kd t) (fb b) w1)
  have HJ' := Lib.hid HJ
  have how : ow (kd t) ≤ 1 := by unfold ow; split <;> omega
  have HE0 := Lib.hid (fun w1 (hb : Below w.heap.size w w1) => (hwA w1 hb).1)
  generalize tg (kd t) (fb b) = gg at HP HJ'
  generalize ow (kd t) = z at HP how ⊢
  generalize kd t = kk at HP HE0
  generalize fb b = ff at *
  unfold NumP
  clear hnA hatA hv hwA KK HJ hk hs
  have hmf : ∀ fn first cap w, (Instr.makeFunc fn first cap).run Tryz.prog w = .ok (.func fn first cap) w := fun _ _ _ _ => rfl
  have e0 := HE0.out _ D0.out
  have y0 : (w.alloc (.cells #[fnV ff] 64)).cell? ⟨w.heap.size, 0, none⟩ = some (fnV ff) := by simp [go_sem]
  go_enter Tryz.func43, Tryz.ntmps43
  go_wp2_with fail
  go_quiet (first | exact (HP.out _).mono fun e w1 h => ⟨h.1, _, h.2.symm⟩ | fail)
  have BN := Lib.hid (D0.out.trans (Rw.Below.drewN w.heap.size nq (w.alloc (.cells #[fnV ff] 64))))
  have YN : Hid (((w.alloc (.cells #[fnV ff] 64)).drewN nq).cell? ⟨w.heap.size, 0, none⟩ = some (fnV ff)) := Lib.hid (by
    have h := Rw.Below.drewN (w.alloc (.cells #[fnV ff] 64)).heap.size nq (w.alloc (.cells #[fnV ff] 64))
    rw [h.cell (by simp)]
    exact y0)
  clear e0 y0
  go_wp2_with fail
  refine (HK.out _ BN.out).mono ?_
  rintro e w1 ⟨y, rfl, hy, hb1⟩
  have B1 := Lib.hid (BN.out.trans (hb1.mono BN.out.size))
  have Y1 : w1.cell? ⟨w.heap.size, 0, none⟩ = some (fnV ff) := by rw [hb1.cell (Ap.cell_lt YN.out)]; exact YN.out
  have HR := Lib.hid (HJ'.out w.heap.size y w1 hy Y1)
  unfold NumP at HR
  clear hb1 hy Y1 HJ' HK HP HE0
  go_wp2_with fail
  refine HR.out.mono ?_
  rintro e w2 ⟨rfl, hb2⟩
  have B2 := Lib.hid (B1.out.trans (hb2.mono B1.out.size))
  clear hb2
  go_wp2_with fail
  go_ret
  exact ⟨ret_int (by omega), B2.out⟩
end Go.Proofs.YtpingbiibbmcaaaGreat.Co

namespace Go.Proofs.YtpingbiibbmcaaaGreat.Me
open Go Go.RowKit Go.Maps Go.WideMaps Go.Proofs.YtpingbiibbmcaaaGreat.Rw Go.Proofs.YtpingbiibbmcaaaGreat.So Go.Proofs.YtpingbiibbmcaaaGreat.Se Go.Proofs.YtpingbiibbmcaaaGreat.Do
set_option maxRecDepth 20000

/-- The ways of a kind: how, and the function that tells when. -/
abbrev Wy := Int × Nat
def wcls : List Wy → List Value
  | [] => []
  | p :: l => .int .i64 p.1 :: .func (.func p.2) #[] #[] :: wcls l
theorem wcls_len : ∀ l : List Wy, (wcls l).length = l.length * 2
  | [] => rfl
  | p :: l => by simp [wcls, wcls_len l]; omega
theorem wcls_at : ∀ (l : List Wy) (k : Nat) (h : k < l.length), (wcls l)[k * 2]? = some (.int .i64 l[k].1) ∧ (wcls l)[k * 2 + 1]? = some (.func (.func l[k].2) #[] #[])
  | [], k, h => by simp at h
  | x :: l, 0, _ => ⟨rfl, rfl⟩
  | x :: l, k + 1, h => by
    have := wcls_at l k (by simpa using h)
    simpa [wcls, show (k + 1) * 2 = k * 2 + 1 + 1 by omega] using this
/-- A slice of ways that reads as these. -/
def Wys (w : World) (v : Value) (l : List Wy) : Prop := Ap.Rd w 2 v l.length (wcls l)
theorem Wys.below {w w' : World} {v : Value} {l : List Wy} (h : Wys w v l) (hb : Below w.heap.size w w') : Wys w' v l := Ap.Rd.below h hb
theorem wys_new (w : World) (l : List Wy) (ty : TypeId) : Wys (w.alloc (.cells (wcls l).toArray ty)) (.slice (some ⟨w.heap.size, 0, none⟩) l.length l.length) l := by
  refine ⟨wcls_len l, some ⟨w.heap.size, 0, none⟩, l.length, rfl, Nat.le_refl _, fun h => (by cases h), fun _ => ⟨w.heap.size, 0, rfl, fun j u hu => ?_⟩⟩
  rw [Nat.zero_add, World.cell?_alloc_new]
  simpa using hu
/-- What stands in the rows of a world stands while one other block, made since, is turned. -/
theorem Wys.grown {w w' : World} {b : Nat} {v : Value} {l : List Wy} (h : Wys w v l) (hg : w.grownBy w' (some b)) (hb : ∀ p c, v = .slice (some p) l.length c → p.block ≠ b) : Wys w' v l := by
  obtain ⟨hn, a, cap, rfl, hle, h0, hcell⟩ := h
  refine ⟨hn, a, cap, rfl, hle, h0, fun hp => ?_⟩
  obtain ⟨c, off, rfl, hj⟩ := hcell hp
  refine ⟨c, off, rfl, fun j u hu => ?_⟩
  have hc := hj j u hu
  exact hg.cell hc (fun e => hb _ _ rfl (Option.some.inj e))
/-- The ways of a kind, as the program tells them. -/
def wyF (v1 v6 v4 : Value) (k : Int) : Value := if k = 1 then v1 else if k = 6 then v6 else if k = 4 ∨ k = 10 then v4 else .slice none 0 0
theorem wd_all (v1 v6 v4 : Value) : WD (wyF v1 v6 v4) (((((DataW.map []).put (.int .i64 1) (.held v1)).put (.int .i64 6) (.held v6)).put (.int .i64 4) (.held v4)).put (.int .i64 10) (.held v4)) := by
  intro k
  have m0 : IsMap (DataW.map [] : DataW Value) := isMap_empty
  have m1 := m0.put (.int .i64 1) (.held v1)
  have m2 := m1.put (.int .i64 6) (.held v6)
  have m3 := m2.put (.int .i64 4) (.held v4)
  have ne : ∀ {a b : Int}, a ≠ b → (Lit.int .i64 a) ≠ .int .i64 b := fun h e => h (by injection e)
  unfold wyF
  by_cases h10 : k = 10
  · subst h10
    rw [atKey_put_same m3 (by simp [WideAt.IsKeyLit])]
    rfl
  · rw [atKey_put_other (ne h10)]
    by_cases h4 : k = 4
    · subst h4
      rw [atKey_put_same m2 (by simp [WideAt.IsKeyLit])]
      rfl
    · rw [atKey_put_other (ne h4)]
      by_cases h6 : k = 6
      · subst h6
        rw [atKey_put_same m1 (by simp [WideAt.IsKeyLit])]
        rfl
      · rw [atKey_put_other (ne h6)]
        by_cases h1 : k = 1
        · subst h1
          rw [atKey_put_same m0 (by simp [WideAt.IsKeyLit])]
          rfl
        · rw [atKey_put_other (ne h1), if_neg h1, if_neg h6, if_neg (by omega)]
          rfl
set_option maxHeartbeats 400000 in
theorem always_any (v : Value) (z : Int) (w : World) (n c : Nat) (a : Option Addr) (hv : v = .slice a n c) : Calls Tryz.prog 88 #[v, .int .i64 z] w fun e w' => e = .returned (.bool true) ∧ Below w.heap.size w w' := by
  subst hv
  go_enter Tryz.func88, Tryz.ntmps88
  go_wp2_with fail
  go_ret
  exact ⟨rfl, Below.refl _ _⟩
/-- While the map is made: the map, and rows of ways in other blocks. -/
def Gmw (w wr : World) (n : Nat) (D : DataW Value) (rows : List (Value × List Wy)) : Prop :=
  wr.ownsMap Tryz.prog 3 hE (w.heap.size + 1) n D ∧ Below w.heap.size w wr ∧ w.heap.size + 2 ≤ wr.heap.size ∧ ∀ r ∈ rows, Wys wr r.1 r.2 ∧ ∃ b c, r.1 = .slice (some ⟨b, 0, none⟩) r.2.length c ∧ b ≠ w.heap.size + 1
theorem Gmw.start (w : World) (L : List Wy) (ty : TypeId) : Gmw w ((w.alloc (.cells (wcls L).toArray ty)).alloc (.map #[] 0)) 0 (.map []) [(.slice (some ⟨w.heap.size, 0, none⟩) L.length L.length, L)] := by
  have h1 := below1 w (.cells (wcls L).toArray ty)
  have hs : (w.alloc (.cells (wcls L).toArray ty)).heap.size = w.heap.size + 1 := by simp
  refine ⟨?_, h1.alloc h1.size _, by simp, fun r hr => ?_⟩
  · rw [← hs]
    exact World.ownsMap_made _ _ _ _
  · obtain rfl := List.mem_singleton.1 hr
    exact ⟨(wys_new w L ty).below (below1 _ _), _, _, rfl, by omega⟩
theorem Gmw.add {w wr : World} {n : Nat} {D : DataW Value} {rows : List (Value × List Wy)} (h : Gmw w wr n D rows) (L : List Wy) (ty : TypeId) :
    Gmw w (wr.alloc (.cells (wcls L).toArray ty)) n D ((.slice (some ⟨wr.heap.size, 0, none⟩) L.length L.length, L) :: rows) := by
  obtain ⟨h1, h2, h3, h4⟩ := h
  refine ⟨h1.alloc _, h2.alloc h2.size _, by simp; omega, fun r hr => ?_⟩
  rcases List.mem_cons.1 hr with rfl | hr
  · exact ⟨wys_new wr L ty, _, _, rfl, by omega⟩
  · obtain ⟨k1, k2⟩ := h4 r hr
    exact ⟨k1.below (below1 _ _), k2⟩
theorem Gmw.set {w wr w1 : World} {n m : Nat} {D D' : DataW Value} {rows : List (Value × List Wy)} (h : Gmw w wr n D rows) (ho : w1.ownsMap Tryz.prog 3 hE (w.heap.size + 1) m D') (hg : wr.grownBy w1 (some (w.heap.size + 1))) : Gmw w w1 m D' rows := by
  obtain ⟨h1, h2, h3, h4⟩ := h
  refine ⟨ho, h2.grown hg h2.size (fun k hk => by injection hk with hk; omega), Nat.le_trans h3 hg.size, fun r hr => ?_⟩
  obtain ⟨k1, b, c, k2, k3⟩ := h4 r hr
  refine ⟨k1.grown hg (fun p c' e => ?_), b, c, k2, k3⟩
  rw [k2] at e
  injection e with e1 _ _
  injection e1 with e1
  rw [← e1]
  exact k3
theorem Gmw.ins {w wr : World} {n : Nat} {D : DataW Value} {rows : List (Value × List Wy)} (h : Gmw w wr n D rows) (hn : n < maxLen) (k : Int) (hk : (Lit.int .i64 k).wf = true) (v : Value) :
    ∃ w1, (Instr.mapUpdate 96 (.map (some (w.heap.size + 1))) (.int .i64 k) v).run Tryz.prog wr = .ok () w1 ∧ Gmw w w1 (n + 1) (D.put (.int .i64 k) (.held v)) rows := by
  obtain ⟨w1, h1, h2, h3⟩ := h.1.update lawI Tryz.underlying96 hn (keyI k hk) (ps := []) (show hE v = some (.held v, []) from rfl)
  exact ⟨w1, h1, h.set h2 h3⟩
set_option maxHeartbeats 2000000 in
theorem ways_any (w : World) :
    Calls Tryz.prog 72 #[] w fun e w' => ∃ b v1 v6 v4, e = .returned (.map (some b)) ∧ (∃ D, w'.ownsMap Tryz.prog 3 hE b 4 D ∧ WD (wyF v1 v6 v4) D) ∧
      Wys w' v1 [(1, 88)] ∧ Wys w' v6 [(2, 88), (3, 88)] ∧ Wys w' v4 [(4, 88), (5, 89)] ∧ Below w.heap.size w w' := by
  have hmm := @run_makeMap Tryz.prog
  have G0 := (Gmw.start w [(4, 88), (5, 89)] 99).add [(1, 88)] 99
  rw [show ((w.alloc (.cells (wcls [(4, 88), (5, 89)]).toArray 99)).alloc (.map #[] 0)).heap.size = w.heap.size + 1 + 1 by simp] at G0
  obtain ⟨w1, r1, G1⟩ := G0.ins (by decide) 1 (by decide) (.slice (some ⟨w.heap.size + 1 + 1, 0, none⟩) 1 1)
  obtain ⟨w2, r2, G2⟩ := (G1.add [(2, 88), (3, 88)] 99).ins (by decide) 6 (by decide) (.slice (some ⟨w1.heap.size, 0, none⟩) 2 2)
  obtain ⟨w3, r3, G3⟩ := G2.ins (by decide) 4 (by decide) (.slice (some ⟨w.heap.size, 0, none⟩) 2 2)
  obtain ⟨w4, r4, G4⟩ := G3.ins (by decide) 10 (by decide) (.slice (some ⟨w.heap.size, 0, none⟩) 2 2)
  change (Instr.mapUpdate 96 (.map (some (w.heap.size + 1))) (.int .i64 1) (.slice (some ⟨w.heap.size + 1 + 1, 0, none⟩) 1 1)).run Tryz.prog
    (((w.alloc (.cells #[.int .i64 4, .func (.func 88) #[] #[], .int .i64 5, .func (.func 89) #[] #[]] 99)).alloc (.map #[] 0)).alloc (.cells #[.int .i64 1, .func (.func 88) #[] #[]] 99)) = _ at r1
  change (Instr.mapUpdate 96 (.map (some (w.heap.size + 1))) (.int .i64 6) (.slice (some ⟨w1.heap.size, 0, none⟩) 2 2)).run Tryz.prog
    (w1.alloc (.cells #[.int .i64 2, .func (.func 88) #[] #[], .int .i64 3, .func (.func 88) #[] #[]] 99)) = _ at r2
  have HG := Lib.hid G4
  clear G0 G1 G2 G3 G4
  go_enter Tryz.func72, Tryz.ntmps72
  go_wp2_with fail
  go_ret
  obtain ⟨h1, h2, -, h4⟩ := HG.out
  refine ⟨_, .slice (some ⟨w.heap.size + 1 + 1, 0, none⟩) 1 1, .slice (some ⟨w1.heap.size, 0, none⟩) 2 2, .slice (some ⟨w.heap.size, 0, none⟩) 2 2, rfl, ⟨_, h1, wd_all _ _ _⟩, ?_, ?_, ?_, h2⟩
  · exact (h4 _ (List.mem_cons_of_mem _ (List.mem_cons_self ..))).1
  · exact (h4 _ (List.mem_cons_self ..)).1
  · exact (h4 _ (List.mem_cons_of_mem _ (List.mem_cons_of_mem _ (List.mem_cons_self ..)))).1
end Go.Proofs.YtpingbiibbmcaaaGreat.Me

namespace Go.Proofs.YtpingbiibbmcaaaGreat.Me
open Go Go.RowKit Go.Proofs.YtpingbiibbmcaaaGreat.Rw Go.Proofs.YtpingbiibbmcaaaGreat.So Go.Proofs.YtpingbiibbmcaaaGreat.Se Go.Proofs.YtpingbiibbmcaaaGreat.Do
set_option maxRecDepth 20000

def In64 (n : Int) : Prop := -9223372036854775808 ≤ n ∧ n ≤ 9223372036854775807
/-- The contracts of package move, and the statements' own first look at it. -/
structure Con : Prop where
  en : ∀ (v : Value) (l : List Nd) (w : World), Nds w v l → l.length ≤ 1000 → Nms l → Calls Tryz.prog 38 #[v] w fun e w' => ∃ y, e = .returned y ∧ Mvs w' y (enR l) ∧ Below w.heap.size w w'
  is : ∀ (v : Value) (l : List Nd) (m : Mv) (w : World), Nds w v l → l.length ≤ 1000 → Nms l → Calls Tryz.prog 58 #[v, mvV m] w fun e w' => e = .returned (.bool (decide (m ∈ enR l))) ∧ Below w.heap.size w w'
  pk : ∀ (v : Value) (l : List Nd) (n : Int) (w : World), Nds w v l → l.length ≤ 1000 → Nms l → In64 n → Calls Tryz.prog 18 #[v, .int .i64 n] w fun e w' => e = .returned (.tuple #[mvV (pkM l n), .int .i64 (pkE l)]) ∧ Below w.heap.size w w'
end Go.Proofs.YtpingbiibbmcaaaGreat.Me

namespace Go.Proofs.YtpingbiibbmcaaaGreat.St
open Go Go.RowKit Go.Proofs.YtpingbiibbmcaaaGreat.Rw Go.Proofs.YtpingbiibbmcaaaGreat.So Go.Proofs.YtpingbiibbmcaaaGreat.Se Go.Proofs.YtpingbiibbmcaaaGreat.Do Go.Proofs.YtpingbiibbmcaaaGreat.Sp Go.Proofs.YtpingbiibbmcaaaGreat.Me
set_option maxRecDepth 20000

theorem nds_nil (w : World) : Nds w (.slice none 0 0) [] := ⟨rfl, none, 0, rfl, Nat.le_refl _, fun _ => ⟨rfl, rfl⟩, fun h => absurd h (Nat.lt_irrefl 0)⟩
end Go.Proofs.YtpingbiibbmcaaaGreat.St

namespace Go.Proofs.YtpingbiibbmcaaaGreat.Co
open Go Go.RowKit Go.Proofs.YtpingbiibbmcaaaGreat.Rw Go.Proofs.YtpingbiibbmcaaaGreat.So Go.Proofs.YtpingbiibbmcaaaGreat.Se Go.Proofs.YtpingbiibbmcaaaGreat.Do Go.Proofs.YtpingbiibbmcaaaGreat.Sp
set_option maxRecDepth 20000

theorem tells (t : Tm) (IH : Wpt t) (b : Bool) (B : Nat) (w0 : World) (hB : w0.cell? ⟨B, 0, none⟩ = some (fnV (fb b))) : Tells #[.pointer (some ⟨B, 0, none⟩)] w0 (flat t) (cst b t) := fun y w1 hb hn =>
  clos_any t IH b B y w1 hn (by rw [hb.cell (Ap.cell_lt hB)]; exact hB)
theorem tree0 (t : Tm) (hk : kids (flat t) = []) (hc : ∀ b, cst b t = ow (kd t)) (hs : sz t ≤ 400) : Wpt t := fun v w b hv => by
  rw [hc b]
  exact tree_core t [] 0 b v w hv hs hk (by omega) fun B y w1 hr _ => joinT0 _ _ y w1 hr
theorem tree1 (t a : Tm) (IH : Wpt a) (hk : kids (flat t) = [flat a]) (hc : ∀ b, cst b t = ow (kd t) + cst b a) (hs : sz t ≤ 400) (ha : sz a ≤ 400) : Wpt t := fun v w b hv => by
  rw [hc b]
  exact tree_core t [flat a] (cst b a) b v w hv hs hk (by have := cst_sz b a; omega) fun B y w1 hr hB => joinT1 _ _ y w1 (flat a) _ hr (tells a IH b B w1 hB)
theorem tg_pf (k : Int) (b : Bool) : Pf (tg k (fb b)) := by
  unfold tg
  split
  · exact fb_pf b
  · exact .inl rfl
theorem pt_le (f x z : Nat) : pt f x z ≤ x + z := by
  unfold pt
  split
  · omega
  · split <;> omega
theorem tree2 (t a d : Tm) (IA : Wpt a) (ID : Wpt d) (hk : kids (flat t) = [flat a, flat d]) (hc : ∀ b, cst b t = ow (kd t) + pt (tg (kd t) (fb b)) (cst b a) (cst b d)) (hs : sz t ≤ 400) (ha : sz a ≤ 400) (hd : sz d ≤ 400) : Wpt t := fun v w b hv => by
  rw [hc b]
  have h1 := cst_sz b a
  have h2 := cst_sz b d
  have h3 := pt_le (tg (kd t) (fb b)) (cst b a) (cst b d)
  exact tree_core t [flat a, flat d] _ b v w hv hs hk (by omega) fun B y w1 hr hB => joinT2 _ (tg_pf _ _) _ y w1 (flat a) (flat d) _ _ (by omega) (by omega) hr (tells a IA b B w1 hB) (tells d ID b B w1 hB)
theorem treeP_any : ∀ t : Tm, sz t ≤ 400 → Wpt t := by
  intro t
  induction t with
  | act s => intro h; exact tree0 _ rfl (fun b => by cases b <;> rfl) h
  | skip => intro h; exact tree0 _ rfl (fun b => by cases b <;> rfl) h
  | throw => intro h; exact tree0 _ rfl (fun b => by cases b <;> rfl) h
  | yield => intro h; exact tree0 _ rfl (fun b => by cases b <;> rfl) h
  | over s => intro h; exact tree0 _ rfl (fun b => by cases b <;> rfl) h
  | fin s c ic => intro h; simp only [sz] at h; exact tree1 _ c (ic (by omega)) (kids_fin s c) (fun b => by cases b <;> (show _ = 0 + _; rw [Nat.zero_add]; rfl)) (by simp only [sz]; omega) (by omega)
  | block a ia => intro h; simp only [sz] at h; exact tree1 _ a (ia (by omega)) (kids_block a) (fun b => by cases b <;> (show _ = 0 + _; rw [Nat.zero_add]; rfl)) (by simp only [sz]; omega) (by omega)
  | seq a d ia id' => intro h; simp only [sz] at h; exact tree2 _ a d (ia (by omega)) (id' (by omega)) (kids_seq a d) (fun b => by cases b <;> (show _ = 0 + _; rw [Nat.zero_add]; rfl)) (by simp only [sz]; omega) (by omega) (by omega)
  | par a d ia id' => intro h; simp only [sz] at h; exact tree2 _ a d (ia (by omega)) (id' (by omega)) (kids_par a d) (fun b => by cases b <;> (show _ = 0 + _; rw [Nat.zero_add]; rfl)) (by simp only [sz]; omega) (by omega) (by omega)
  | hand a d ia id' => intro h; simp only [sz] at h; exact tree2 _ a d (ia (by omega)) (id' (by omega)) (kids_hand a d) (fun b => by cases b <;> (show _ = 0 + _; rw [Nat.zero_add]; rfl)) (by simp only [sz]; omega) (by omega) (by omega)
  | going a d ia id' => intro h; simp only [sz] at h; exact tree2 _ a d (ia (by omega)) (id' (by omega)) (kids_going a d) (fun b => by cases b <;> (show _ = 0 + _; rw [Nat.zero_add]; rfl)) (by simp only [sz]; omega) (by omega) (by omega)
  | stack a d ia id' => intro h; simp only [sz] at h; exact tree2 _ a d (ia (by omega)) (id' (by omega)) (kids_stack a d) (fun b => by cases b <;> (show _ = 0 + _; rw [Nat.zero_add]; rfl)) (by simp only [sz]; omega) (by omega) (by omega)
  | alt a d ia id' => intro h; simp only [sz] at h; exact tree2 _ a d (ia (by omega)) (id' (by omega)) (kids_alt a d) (fun b => by cases b <;> rfl) (by simp only [sz]; omega) (by omega) (by omega)
  | pair a d ia id' => intro h; simp only [sz] at h; exact tree2 _ a d (ia (by omega)) (id' (by omega)) (kids_pair a d) (fun b => by cases b <;> (show _ = 1 + (_ + _); rw [Nat.add_comm]; rfl)) (by simp only [sz]; omega) (by omega) (by omega)
set_option maxHeartbeats 1000000 in
theorem onP_any (b : Bool) (v : Value) (l : List Nd) (w : World) (hv : Nds w v l) (hl : l.length ≤ 1000) (hm : Nms l) : Calls Tryz.prog 23 #[v, fnV (fb b)] w (NumP (cr b l : Nat) w) := by
  have HO := Lib.hid (Sx.ofP_any l v w hv hl hm)
  unfold NumP
  by_cases h0 : of l = 0
  · rw [h0] at HO
    rw [cr_no b h0]
    generalize fb b = ff
    obtain ⟨_, a, c, rfl, -⟩ := hv
    clear h0 hm
    go_enter Tryz.func23, Tryz.ntmps23
    go_wp2_with fail
    refine HO.out.mono ?_
    rintro e w1 ⟨rfl, hb⟩
    have B := Lib.hid hb
    clear hb
    go_wp2_with fail
    go_ret
    exact ⟨rfl, B.out⟩
  · obtain ⟨t, rfl, hg⟩ := goes_of h0
    rw [cr_go b hg]
    have HT := Lib.hid (fun w1 (hb : Below w.heap.size w w1) => treeP_any t (by have := hg.2.1; omega) v w1 b (hv.below hb))
    unfold NumP at HT
    have g0 : ((of (flat t) : Int) == 0) = false := beq_eq_false_iff_ne.2 (by omega)
    generalize cst b t = z at HT ⊢
    generalize of (flat t) = oo at HO g0
    generalize fb b = ff at *
    obtain ⟨_, a, c, rfl, -⟩ := hv
    clear h0 hm hg
    go_enter Tryz.func23, Tryz.ntmps23
    go_wp2_with fail
    refine HO.out.mono ?_
    rintro e w1 ⟨rfl, hb⟩
    have B := Lib.hid hb
    clear hb
    go_wp2_with fail
    refine (HT.out _ B.out).mono ?_
    rintro e w2 ⟨rfl, hb⟩
    have B2 := Lib.hid (B.out.trans (hb.mono B.out.size))
    clear hb
    go_wp2_with fail
    go_ret
    exact ⟨rfl, B2.out⟩
set_option maxHeartbeats 1000000 in
theorem mostP_any (v : Value) (l : List Nd) (w : World) (hv : Nds w v l) (hl : l.length ≤ 1000) (hm : Nms l) : Calls Tryz.prog 10 #[v] w (NumP (cr false l : Nat) w) := by
  have HJ := Lib.hid (onP_any false v l w hv hl hm)
  rw [show fb false = 24 from rfl] at HJ
  unfold NumP at *
  generalize cr false l = z at HJ ⊢
  obtain ⟨_, a, c, rfl, -⟩ := hv
  go_enter Tryz.func10, Tryz.ntmps10
  go_wp2_with fail
  refine HJ.out.mono ?_
  rintro e w1 ⟨rfl, hb⟩
  have B := Lib.hid hb
  clear hb
  go_wp2_with fail
  go_ret
  exact ⟨rfl, B.out⟩
set_option maxHeartbeats 1000000 in
theorem leastP_any (v : Value) (l : List Nd) (w : World) (hv : Nds w v l) (hl : l.length ≤ 1000) (hm : Nms l) : Calls Tryz.prog 11 #[v] w (NumP (cr true l : Nat) w) := by
  have HJ := Lib.hid (onP_any true v l w hv hl hm)
  rw [show fb true = 25 from rfl] at HJ
  unfold NumP at *
  generalize cr true l = z at HJ ⊢
  obtain ⟨_, a, c, rfl, -⟩ := hv
  go_enter Tryz.func11, Tryz.ntmps11
  go_wp2_with fail
  refine HJ.out.mono ?_
  rintro e w1 ⟨rfl, hb⟩
  have B := Lib.hid hb
  clear hb
  go_wp2_with fail
  go_ret
  exact ⟨rfl, B.out⟩
set_option maxHeartbeats 1000000 in
theorem crashP_any (v : Value) (l : List Nd) (n : Int) (w : World) (hv : Nds w v l) (hl : l.length ≤ 1000) :
    Calls Tryz.prog 16 #[v, .int .i64 n] w (NumP (crash l n) w) := by
  have HO := Lib.hid (ofP_cost v l w hv hl)
  unfold NumP at *
  have hc := chR_len l
  obtain ⟨_, a, c, rfl, -⟩ := id hv
  have HX : Hid (crash l n = if n < 0 ∨ n > 1048576 ∨ l.length > 200 then 0 else ((chR l : Int) + 1) * (n + 1)) := Lib.hid rfl
  generalize chR l = z at HO HX hc
  by_cases h1 : n < 0
  · have HR : Hid (crash l n = 0) := Lib.hid (by rw [HX.out, if_pos (.inl h1)])
    have d1 : decide (n < 0) = true := decide_eq_true h1
    clear hv hc
    go_enter Tryz.func16, Tryz.ntmps16
    go_wp2_with fail
    go_ret
    exact ⟨ret_int HR.out.symm, Below.refl _ _⟩
  by_cases h2 : n > 1048576
  · have HR : Hid (crash l n = 0) := Lib.hid (by rw [HX.out, if_pos (.inr (.inl h2))])
    clear hv hc
    go_enter Tryz.func16, Tryz.ntmps16
    go_wp2_with fail
    go_ret
    exact ⟨ret_int HR.out.symm, Below.refl _ _⟩
  by_cases h3 : l.length > 200
  · have HR : Hid (crash l n = 0) := Lib.hid (by rw [HX.out, if_pos (.inr (.inr h3))])
    have h3' : (200 : Int) < (l.length : Int) := by omega
    clear hv hc
    go_enter Tryz.func16, Tryz.ntmps16
    go_wp2_with fail
    go_ret
    exact ⟨ret_int HR.out.symm, Below.refl _ _⟩
  · have HR : Hid (crash l n = ((z : Int) + 1) * (n + 1)) := Lib.hid (by rw [HX.out, if_neg (by omega)])
    have h3' : ¬ (200 : Int) < (l.length : Int) := by omega
    obtain ⟨m1, m2⟩ := mul_bound (a := (z : Int) + 1) (b := n + 1) (by omega) (by omega) (by omega) (by omega)
    have hz : z ≤ 1000 := by omega
    obtain ⟨p, hp⟩ : ∃ p, ((z : Int) + 1) * (n + 1) = p := ⟨_, rfl⟩
    rw [hp] at m1 m2 HR
    clear hv hc
    go_enter Tryz.func16, Tryz.ntmps16
    go_wp2_with fail
    refine HO.out.mono ?_
    rintro e w1 ⟨rfl, hb⟩
    have D := Lib.hid hb
    clear hb
    go_wp2_with fail
    go_ret
    exact ⟨ret_int HR.out.symm, D.out⟩
/-- The contracts of package cost. -/
theorem con : Con := ⟨ofP_cost, mostP_any, leastP_any, crashP_any⟩
end Go.Proofs.YtpingbiibbmcaaaGreat.Co

namespace Go.Proofs.YtpingbiibbmcaaaGreat.Me
open Go Go.RowKit Go.Maps Go.WideMaps Go.Proofs.YtpingbiibbmcaaaGreat.Rw Go.Proofs.YtpingbiibbmcaaaGreat.So Go.Proofs.YtpingbiibbmcaaaGreat.Se Go.Proofs.YtpingbiibbmcaaaGreat.Do
set_option maxRecDepth 20000

/-- The moves of ways at a place. -/
def wyM (z : Int) (B : Wy → Bool) (L : List Wy) : List Mv := (L.filter B).map fun p => ⟨z, p.1⟩
theorem wyM_take {z : Int} {B : Wy → Bool} {L : List Wy} {k : Nat} (h : k < L.length) : wyM z B (L.take (k + 1)) = if B L[k] = true then wyM z B (L.take k) ++ [⟨z, L[k].1⟩] else wyM z B (L.take k) := by
  unfold wyM
  rw [List.take_succ_eq_append_getElem h, List.filter_append, List.map_append]
  cases hb : B L[k] <;> simp [hb]
/-- The rows of ways of a kind. -/
def wyL (k : Int) : List Wy := if k = 1 then [(1, 88)] else if k = 6 then [(2, 88), (3, 88)] else [(4, 88), (5, 89)]
theorem wyL_of {w : World} {v1 v6 v4 : Value} (h1 : Wys w v1 (wyL 1)) (h6 : Wys w v6 (wyL 6)) (h4 : Wys w v4 (wyL 4)) (k : Int) (hk : k = 1 ∨ k = 6 ∨ k = 4 ∨ k = 10) : Wys w (wyF v1 v6 v4 k) (wyL k) := by
  rcases hk with rfl | rfl | rfl | rfl
  · exact h1
  · exact h6
  · exact h4
  · exact h4
theorem wyL_in (k : Int) : ∀ p ∈ wyL k, p.2 = 88 ∨ p.2 = 89 := by
  unfold wyL
  split
  · simp
  · split <;> simp
theorem wyL_len (k : Int) : (wyL k).length ≤ 2 := by
  unfold wyL
  split
  · simp
  · split <;> simp
def wyB (f : Bool) (p : Wy) : Bool := if p.2 = 88 then true else f
theorem wyL_hw (k z : Int) (f : Bool) (hk : k = 1 ∨ k = 6 ∨ k = 4 ∨ k = 10) : wyM z (wyB f) (wyL k) = hw k f z := by
  rcases hk with rfl | rfl | rfl | rfl <;> cases f <;> rfl
theorem Wys.form {w : World} {v : Value} {l : List Wy} (h : Wys w v l) (hl : 0 < l.length) :
    ∃ b off cap, v = .slice (some ⟨b, off, none⟩) l.length cap ∧ l.length ≤ cap ∧ ∀ k, (h : k < l.length) → w.cell? ⟨b, off + k * 2, none⟩ = some (.int .i64 l[k].1) ∧ w.cell? ⟨b, off + k * 2 + 1, none⟩ = some (.func (.func l[k].2) #[] #[]) := by
  obtain ⟨_, a, cap, rfl, hle, _, hcell⟩ := h
  obtain ⟨b, off, rfl, hj⟩ := hcell hl
  refine ⟨b, off, cap, rfl, hle, fun k hk => ?_⟩
  obtain ⟨h1, h2⟩ := wcls_at l k hk
  exact ⟨hj _ _ h1, by rw [Nat.add_assoc]; exact hj _ _ h2⟩
set_option maxHeartbeats 4000000 in
theorem movesAt_any (v : Value) (l : List Nd) (z : Int) (w : World) (hv : Nds w v l) (hl : l.length ≤ 1000) (hm : Nms l) (hz : z ∈ av l) :
    Calls Tryz.prog 57 #[v, .int .i64 z] w fun e w' => ∃ y, e = .returned y ∧ Mvs w' y (hw (kn l z) (fr l z) z) ∧ Below w.heap.size w w' := by
  have hk4 := av_kind hz
  obtain ⟨z0, z1⟩ := av_in hz
  obtain ⟨kz, rfl⟩ : ∃ k : Nat, z = k := ⟨z.toNat, by omega⟩
  have hkl : kz < l.length := by omega
  have HF : Hid (∀ p ∈ wyL (kn l kz), ∀ w1, Below w.heap.size w w1 → Calls Tryz.prog p.2 #[v, .int .i64 (kz : Int)] w1 fun e w' => e = .returned (.bool (wyB (fr l kz) p)) ∧ Below w1.heap.size w1 w') := Lib.hid fun p hp w1 hb => by
    rcases wyL_in _ p hp with h | h
    · rw [h]
      obtain ⟨_, a, c, rfl, -⟩ := id hv
      rw [show wyB (fr l kz) p = true from if_pos h]
      exact always_any _ _ w1 _ _ _ rfl
    · rw [h]
      rw [show wyB (fr l kz) p = fr l kz from if_neg (by rw [h]; decide)]
      exact freP_any v l kz w1 (hv.below hb) hl hm
  rw [← wyL_hw _ _ _ hk4]
  have HG : Hid (∀ p ∈ wyL (kn l kz), ∀ args w, (callFunc p.2 args).run Tryz.prog w = .ok (.enter p.2 args) w) := Lib.hid fun p hp args w => by
    rcases wyL_in _ p hp with h | h <;> rw [h] <;> simp [go_sem]
  have HW : Hid (∀ (w1 : World) (v1 v6 v4 : Value), Wys w1 v1 (wyL 1) → Wys w1 v6 (wyL 6) → Wys w1 v4 (wyL 4) → Wys w1 (wyF v1 v6 v4 (kn l kz)) (wyL (kn l kz))) := Lib.hid fun w1 v1 v6 v4 h1 h6 h4 => wyL_of h1 h6 h4 _ hk4
  have HLL := wyL_len (kn l kz)
  have hkn : kn l kz = l[kz].k := by unfold kn; rw [Int.toNat_natCast, List.getElem?_eq_getElem hkl]
  have hwf : (Lit.int .i64 (kn l kz)).wf = true := by rcases hk4 with h | h | h | h <;> rw [h] <;> decide
  rcases hv.form with ⟨h0, _⟩ | ⟨b, off, c, rfl, hc, hat⟩
  · rw [h0] at hkl; simp at hkl
  have e0 := (hat kz hkl).1
  rw [← hkn] at e0
  obtain ⟨kk, hkk⟩ : ∃ kk, kn l kz = kk := ⟨_, rfl⟩
  rw [hkk] at HF HG HW HLL hwf e0
  obtain ⟨L, hL⟩ : ∃ L, wyL kk = L := ⟨_, rfl⟩
  rw [hkk, hL]
  rw [hL] at HF HG HW HLL
  obtain ⟨B, hB⟩ : ∃ B, wyB (fr l kz) = B := ⟨_, rfl⟩
  rw [hB] at HF ⊢
  have hbl : b < w.heap.size := Ap.cell_lt e0
  have HWF := Lib.hid hwf
  have HE0 := Lib.hid e0
  obtain ⟨n, hn⟩ : ∃ n, l.length = n := ⟨_, rfl⟩
  rw [hn] at hkl hl HF hc ⊢
  clear hv hm hz hk4 z0 z1 hkn hat hkk hL hB hn hwf hc
  go_enter Tryz.func57, Tryz.ntmps57
  go_upto_region 2 with fail
  go_cut [14, 15, 16] (fun s14 s15 s16 wx => ∃ (a : Option Addr) (c' : Nat) (wq : World), wq = wx ∧ s14 = .slice a L.length c' ∧ s15 = .int .i64 L.length ∧ s16 = .int .i64 0 ∧ Wys wq (.slice a L.length c') L ∧ Below w.heap.size w wq)
  case first =>
    clear HF HG
    go_region_with (first
      | (go_at_call 72
         (with_reducible refine (ways_any _).mono ?_)
         rintro e w1 ⟨bm, v1, v6, v4, rfl, ⟨D, hD, hd⟩, h1, h6, h4, hb1⟩
         have B1 := Lib.hid ((Below.refl w.heap.size w).drew.trans hb1)
         have hlook := look hD hd kk HWF.out
         have hws := HW.out _ _ _ _ h1 h6 h4
         obtain ⟨vr, hvr⟩ : ∃ vr, wyF v1 v6 v4 kk = vr := ⟨_, rfl⟩
         rw [hvr] at hlook hws
         have WS := Lib.hid hws
         obtain ⟨_, ar, cr, rfl, -⟩ := hws
         have c0 : w1.cell? ⟨b, off + kz * 3, none⟩ = some (.int .i64 kk) := by rw [B1.out.cell (p := ⟨b, off + kz * 3, none⟩) hbl]; exact HE0.out
         clear hD hd h1 h6 h4 hb1 hvr)
      | fail)
    all_goals go_wp2_with fail
    all_goals go_meet
    all_goals exact ⟨_, _, _, rfl, rfl, rfl, rfl, WS.out, B1.out⟩
  case rest =>
    obtain ⟨ar, cr, wq, rfl, rfl, rfl, rfl, hws, hbel⟩ := hcut
    have WS := Lib.hid hws
    have BB := Lib.hid hbel
    clear hws hbel HW HWF HE0 e0
    go_wp2_with fail
    go_loopw [5, 16] (fun s i wr => ∃ (k : Nat) (a : Option Addr) (m cc : Nat) (os : List Mv), k ≤ L.length ∧ m ≤ k ∧ i = .int .i64 k ∧ s = .slice a m cc ∧ Hid (os.length = m) ∧ Hid (wyM kz B (L.take k) = os) ∧ Hid (GotM wq.heap.size wr (.slice a m cc) os) ∧ Hid (Below w.heap.size w wr) ∧ Hid (Below wq.heap.size wq wr)) (fun _ i _ => L.length - (intOf i).toNat)
    case atStart => exact ⟨0, none, 0, 0, [], Nat.zero_le _, Nat.le_refl _, rfl, rfl, Lib.hid rfl, Lib.hid rfl, Lib.hid (GotM.start (Nat.le_refl _)), BB, Lib.hid (Below.refl _ _)⟩
    case round =>
      obtain ⟨k, a, m, cc, os, hk, hmk, rfl, rfl, HL, HO, HM, HD, HQ⟩ := hrel
      by_cases hlt : k < L.length
      · obtain ⟨bq, oq, cq, eq, -, hc⟩ := (WS.out.below HQ.out).form (by omega)
        obtain ⟨f1, f2⟩ := hc k hlt
        injection eq with e1 _ e3
        subst e1
        subst e3
        have HFk := Lib.hid (HF.out _ (List.getElem_mem hlt))
        have eg := HG.out _ (List.getElem_mem hlt)
        have HT := Lib.hid (wyM_take (z := (kz : Int)) (B := B) hlt)
        obtain ⟨p, hp⟩ : ∃ p, L[k] = p := ⟨_, rfl⟩
        rw [hp] at f1 f2 HFk eg HT
        obtain ⟨ph, pf⟩ := p
        simp only at f1 f2 eg
        obtain ⟨q, hq⟩ : ∃ q, B (ph, pf) = q := ⟨_, rfl⟩
        rw [hq] at HFk HT
        have DW := Lib.hid (HD.out.trans ((below1 wr (.cells #[.int .i64 ph, .func (.func pf) #[] #[]] 99)).mono HD.out.size))
        have GW := Lib.hid (HM.out.below (below1 wr (.cells #[.int .i64 ph, .func (.func pf) #[] #[]] 99)))
        have QW := Lib.hid (HQ.out.trans ((below1 wr (.cells #[.int .i64 ph, .func (.func pf) #[] #[]] 99)).mono HQ.out.size))
        have HC := Lib.hid (HFk.out _ DW.out)
        have C7 : Hid (∀ w2, Below (wr.alloc (.cells #[.int .i64 ph, .func (.func pf) #[] #[]] 99)).heap.size (wr.alloc (.cells #[.int .i64 ph, .func (.func pf) #[] #[]] 99)) w2 → w2.cell? ⟨wr.heap.size, 0, none⟩ = some (.int .i64 ph)) := Lib.hid fun w2 hb => by
          rw [hb.cell (p := ⟨wr.heap.size, 0, none⟩) (by simp)]
          simp [go_sem]
        clear hc hp hq
        cases q with
        | true =>
          have HX : Hid (wyM kz B (L.take (k + 1)) = os ++ [⟨kz, ph⟩]) := by
            show _ = _
            rw [HT.out, if_pos rfl, HO.out]
          go_wp2_with fail
          refine HC.out.mono ?_
          rintro e w2 ⟨rfl, hb2⟩
          have c7 := C7.out _ hb2
          have D2 := Lib.hid (DW.out.trans (hb2.mono DW.out.size))
          have Q2 := Lib.hid (QW.out.trans (hb2.mono QW.out.size))
          obtain ⟨v', w3, hrun, hgot, hb3⟩ := (GW.out.below hb2).new [⟨kz, ph⟩] (by rw [HL.out]; show m + 1 ≤ 1000000; omega)
          obtain ⟨a', c', rfl⟩ : ∃ a' c', v' = .slice a' (m + 1) c' := by
            obtain ⟨_, a', c', e', -⟩ := hgot.mvs
            rw [List.length_append, HL.out] at e'
            exact ⟨a', c', e'⟩
          have HL' : Hid ((os ++ [(⟨kz, ph⟩ : Mv)]).length = m + 1) := by
            show _ = _
            rw [List.length_append, HL.out]
            rfl
          change (Builtin.append_ #[68, 68] 68 #[.slice a m cc, .slice (some ⟨w2.heap.size, 0, none⟩) 1 1]).run Tryz.prog (w2.alloc (.cells #[.int .i64 (kz : Int), .int .i64 ph] 42)) = _ at hrun
          have R := Lib.hid hrun
          have HG' := Lib.hid hgot
          have D3 := Lib.hid (D2.out.trans (hb3.mono BB.out.size))
          have Q3 := Lib.hid (Q2.out.trans hb3)
          clear hrun hgot hb2 hb3
          go_wp2_with (at_builtin; refine Ap.wpList_append_run (by rfl) (.tmp 25) (.tmp 30) _ _ rfl _ _ rfl rfl _ w3 R.out ?_)
          go_roundw
          case rel => exact ⟨k + 1, a', m + 1, c', os ++ [⟨kz, ph⟩], by omega, by omega, by go_num, rfl, HL', HX, HG', D3, Q3⟩
          case measure => simp [intOf]; omega
        | false =>
          have HX : Hid (wyM kz B (L.take (k + 1)) = os) := by
            show _ = _
            rw [HT.out, if_neg (by decide), HO.out]
          go_wp2_with fail
          refine HC.out.mono ?_
          rintro e w2 ⟨rfl, hb2⟩
          have D2 := Lib.hid (DW.out.trans (hb2.mono DW.out.size))
          have Q2 := Lib.hid (QW.out.trans (hb2.mono QW.out.size))
          have G2 := Lib.hid (GW.out.below hb2)
          clear hb2
          go_wp2_with fail
          go_roundw
          case rel => exact ⟨k + 1, a, m, cc, os, by omega, by omega, by go_num, rfl, HL, HX, G2, D2, Q2⟩
          case measure => simp [intOf]; omega
      · have HZ : Hid (wyM kz B L = os) := by
          have := HO.out
          rwa [List.take_of_length_le (by omega)] at this
        go_wp2_with fail
        go_ret
        exact ⟨_, rfl, by rw [HZ.out]; exact HM.out.mvs, HD.out⟩
end Go.Proofs.YtpingbiibbmcaaaGreat.Me

namespace Go.Proofs.YtpingbiibbmcaaaGreat.St
open Go Go.RowKit Go.Proofs.YtpingbiibbmcaaaGreat.Rw Go.Proofs.YtpingbiibbmcaaaGreat.So Go.Proofs.YtpingbiibbmcaaaGreat.Se Go.Proofs.YtpingbiibbmcaaaGreat.Do Go.Proofs.YtpingbiibbmcaaaGreat.Sp Go.Proofs.YtpingbiibbmcaaaGreat.Me
set_option maxRecDepth 20000

end Go.Proofs.YtpingbiibbmcaaaGreat.St
