/- The program's tree on any tree; Most, Least, Crashed; the contracts of package cost. -/
import Derived.Test.YtpingbiibbmcaabQ08
import Derived.Test.YtpingbiibbmcaabQ06

namespace Go.Proofs.Ytpingbiibbmcaab.Co
open Go Go.RowKit Go.Proofs.Ytpingbiibbmcaab.Rw Go.Proofs.Ytpingbiibbmcaab.So Go.Proofs.Ytpingbiibbmcaab.Se Go.Proofs.Ytpingbiibbmcaab.Do Go.Proofs.Ytpingbiibbmcaab.Sp
set_option maxRecDepth 20000

theorem tells (t : Tm) (IH : Wpt t) (b : Bool) (B : Nat) (w0 : World) (hB : w0.cell? ⟨B, 0, none⟩ = some (fnV (fb b))) : Tells #[.pointer (some ⟨B, 0, none⟩)] w0 (flat t) (cst b t) := fun y w1 hb hn =>
  clos_any t IH b B y w1 hn (by rw [hb.cell (Ap.cell_lt hB)]; exact hB)
theorem tree0 (t : Tm) (hk : kids (flat t) = []) (hc : ∀ b, cst b t = ow (kd t)) (hs : sz t ≤ 400) : Wpt t := fun v w b hv => by
  rw [hc b]
  exact tree_core t [] 0 b v w hv hs hk (by omega) fun B y w1 hr _ => joinT0 _ _ y w1 hr
theorem tree1 (t a : Tm) (IH : Wpt a) (hk : kids (flat t) = [flat a]) (hc : ∀ b, cst b t = ow (kd t) + cst b a) (hs : sz t ≤ 400) (ha : sz a ≤ 400) : Wpt t := fun v w b hv => by
  rw [hc b]
  exact tree_core t [flat a] (cst b a) b v w hv hs hk (by have := cst_sz b a; omega) fun B y w1 hr hB => joinT1 _ _ y w1 (flat a) _ hr (tells a IH b B w1 hB)
theorem tg_pf (k : Int) (b : Bool) : Pf (tg k (fb b)) := by
  unfold tg
  split
  · exact fb_pf b
  · exact .inl rfl
theorem pt_le (f x z : Nat) : pt f x z ≤ x + z := by
  unfold pt
  split
  · omega
  · split <;> omega
theorem tree2 (t a d : Tm) (IA : Wpt a) (ID : Wpt d) (hk : kids (flat t) = [flat a, flat d]) (hc : ∀ b, cst b t = ow (kd t) + pt (tg (kd t) (fb b)) (cst b a) (cst b d)) (hs : sz t ≤ 400) (ha : sz a ≤ 400) (hd : sz d ≤ 400) : Wpt t := fun v w b hv => by
  rw [hc b]
  have h1 := cst_sz b a
  have h2 := cst_sz b d
  have h3 := pt_le (tg (kd t) (fb b)) (cst b a) (cst b d)
  exact tree_core t [flat a, flat d] _ b v w hv hs hk (by omega) fun B y w1 hr hB => joinT2 _ (tg_pf _ _) _ y w1 (flat a) (flat d) _ _ (by omega) (by omega) hr (tells a IA b B w1 hB) (tells d ID b B w1 hB)
theorem treeP_any : ∀ t : Tm, sz t ≤ 400 → Wpt t := by
  intro t
  induction t with
  | act s => intro h; exact tree0 _ rfl (fun b => by cases b <;> rfl) h
  | skip => intro h; exact tree0 _ rfl (fun b => by cases b <;> rfl) h
  | throw => intro h; exact tree0 _ rfl (fun b => by cases b <;> rfl) h
  | yield => intro h; exact tree0 _ rfl (fun b => by cases b <;> rfl) h
  | over s => intro h; exact tree0 _ rfl (fun b => by cases b <;> rfl) h
  | fin s c ic => intro h; simp only [sz] at h; exact tree1 _ c (ic (by omega)) (kids_fin s c) (fun b => by cases b <;> (show _ = 0 + _; rw [Nat.zero_add]; rfl)) (by simp only [sz]; omega) (by omega)
  | block a ia => intro h; simp only [sz] at h; exact tree1 _ a (ia (by omega)) (kids_block a) (fun b => by cases b <;> (show _ = 0 + _; rw [Nat.zero_add]; rfl)) (by simp only [sz]; omega) (by omega)
  | seq a d ia id' => intro h; simp only [sz] at h; exact tree2 _ a d (ia (by omega)) (id' (by omega)) (kids_seq a d) (fun b => by cases b <;> (show _ = 0 + _; rw [Nat.zero_add]; rfl)) (by simp only [sz]; omega) (by omega) (by omega)
  | par a d ia id' => intro h; simp only [sz] at h; exact tree2 _ a d (ia (by omega)) (id' (by omega)) (kids_par a d) (fun b => by cases b <;> (show _ = 0 + _; rw [Nat.zero_add]; rfl)) (by simp only [sz]; omega) (by omega) (by omega)
  | hand a d ia id' => intro h; simp only [sz] at h; exact tree2 _ a d (ia (by omega)) (id' (by omega)) (kids_hand a d) (fun b => by cases b <;> (show _ = 0 + _; rw [Nat.zero_add]; rfl)) (by simp only [sz]; omega) (by omega) (by omega)
  | going a d ia id' => intro h; simp only [sz] at h; exact tree2 _ a d (ia (by omega)) (id' (by omega)) (kids_going a d) (fun b => by cases b <;> (show _ = 0 + _; rw [Nat.zero_add]; rfl)) (by simp only [sz]; omega) (by omega) (by omega)
  | stack a d ia id' => intro h; simp only [sz] at h; exact tree2 _ a d (ia (by omega)) (id' (by omega)) (kids_stack a d) (fun b => by cases b <;> (show _ = 0 + _; rw [Nat.zero_add]; rfl)) (by simp only [sz]; omega) (by omega) (by omega)
  | alt a d ia id' => intro h; simp only [sz] at h; exact tree2 _ a d (ia (by omega)) (id' (by omega)) (kids_alt a d) (fun b => by cases b <;> rfl) (by simp only [sz]; omega) (by omega) (by omega)
  | pair a d ia id' => intro h; simp only [sz] at h; exact tree2 _ a d (ia (by omega)) (id' (by omega)) (kids_pair a d) (fun b => by cases b <;> (show _ = 1 + (_ + _); rw [Nat.add_comm]; rfl)) (by simp only [sz]; omega) (by omega) (by omega)
set_option maxHeartbeats 1000000 in
theorem onP_any (b : Bool) (v : Value) (l : List Nd) (w : World) (hv : Nds w v l) (hl : l.length ≤ 1000) (hm : Nms l) : Calls Try.prog 16 #[v, fnV (fb b)] w (NumP (cr b l : Nat) w) := by
  have HO := Lib.hid (Sx.ofP_any l v w hv hl hm)
  unfold NumP
  by_cases h0 : of l = 0
  · rw [h0] at HO
    rw [cr_no b h0]
    generalize fb b = ff
    obtain ⟨_, a, c, rfl, -⟩ := hv
    clear h0 hm
    go_enter Try.func16, Try.ntmps16
    go_wp2_with fail
    refine HO.out.mono ?_
    rintro e w1 ⟨rfl, hb⟩
    have B := Lib.hid hb
    clear hb
    go_wp2_with fail
    go_ret
    exact ⟨rfl, B.out⟩
  · obtain ⟨t, rfl, hg⟩ := goes_of h0
    rw [cr_go b hg]
    have HT := Lib.hid (fun w1 (hb : Below w.heap.size w w1) => treeP_any t (by have := hg.2.1; omega) v w1 b (hv.below hb))
    unfold NumP at HT
    have g0 : ((of (flat t) : Int) == 0) = false := beq_eq_false_iff_ne.2 (by omega)
    generalize cst b t = z at HT ⊢
    generalize of (flat t) = oo at HO g0
    generalize fb b = ff at *
    obtain ⟨_, a, c, rfl, -⟩ := hv
    clear h0 hm hg
    go_enter Try.func16, Try.ntmps16
    go_wp2_with fail
    refine HO.out.mono ?_
    rintro e w1 ⟨rfl, hb⟩
    have B := Lib.hid hb
    clear hb
    go_wp2_with fail
    refine (HT.out _ B.out).mono ?_
    rintro e w2 ⟨rfl, hb⟩
    have B2 := Lib.hid (B.out.trans (hb.mono B.out.size))
    clear hb
    go_wp2_with fail
    go_ret
    exact ⟨rfl, B2.out⟩
set_option maxHeartbeats 1000000 in
theorem mostP_any (v : Value) (l : List Nd) (w : World) (hv : Nds w v l) (hl : l.length ≤ 1000) (hm : Nms l) : Calls Try.prog 9 #[v] w (NumP (cr false l : Nat) w) := by
  have HJ := Lib.hid (onP_any false v l w hv hl hm)
  rw [show fb false = 17 from rfl] at HJ
  unfold NumP at *
  generalize cr false l = z at HJ ⊢
  obtain ⟨_, a, c, rfl, -⟩ := hv
  go_enter Try.func9, Try.ntmps9
  go_wp2_with fail
  refine HJ.out.mono ?_
  rintro e w1 ⟨rfl, hb⟩
  have B := Lib.hid hb
  clear hb
  go_wp2_with fail
  go_ret
  exact ⟨rfl, B.out⟩
set_option maxHeartbeats 1000000 in
theorem leastP_any (v : Value) (l : List Nd) (w : World) (hv : Nds w v l) (hl : l.length ≤ 1000) (hm : Nms l) : Calls Try.prog 10 #[v] w (NumP (cr true l : Nat) w) := by
  have HJ := Lib.hid (onP_any true v l w hv hl hm)
  rw [show fb true = 18 from rfl] at HJ
  unfold NumP at *
  generalize cr true l = z at HJ ⊢
  obtain ⟨_, a, c, rfl, -⟩ := hv
  go_enter Try.func10, Try.ntmps10
  go_wp2_with fail
  refine HJ.out.mono ?_
  rintro e w1 ⟨rfl, hb⟩
  have B := Lib.hid hb
  clear hb
  go_wp2_with fail
  go_ret
  exact ⟨rfl, B.out⟩
set_option maxHeartbeats 1000000 in
theorem crashP_any (v : Value) (l : List Nd) (n : Int) (w : World) (hv : Nds w v l) (hl : l.length ≤ 1000) :
    Calls Try.prog 6 #[v, .int .i64 n] w (NumP (crash l n) w) := by
  have HO := Lib.hid (ofP_cost v l w hv hl)
  unfold NumP at *
  have hc := chR_len l
  obtain ⟨_, a, c, rfl, -⟩ := id hv
  have HX : Hid (crash l n = if n < 0 ∨ n > 1048576 ∨ l.length > 200 then 0 else ((chR l : Int) + 1) * (n + 1)) := Lib.hid rfl
  generalize chR l = z at HO HX hc
  by_cases h1 : n < 0
  · have HR : Hid (crash l n = 0) := Lib.hid (by rw [HX.out, if_pos (.inl h1)])
    have d1 : decide (n < 0) = true := decide_eq_true h1
    clear hv hc
    go_enter Try.func6, Try.ntmps6
    go_wp2_with fail
    go_ret
    exact ⟨ret_int HR.out.symm, Below.refl _ _⟩
  by_cases h2 : n > 1048576
  · have HR : Hid (crash l n = 0) := Lib.hid (by rw [HX.out, if_pos (.inr (.inl h2))])
    clear hv hc
    go_enter Try.func6, Try.ntmps6
    go_wp2_with fail
    go_ret
    exact ⟨ret_int HR.out.symm, Below.refl _ _⟩
  by_cases h3 : l.length > 200
  · have HR : Hid (crash l n = 0) := Lib.hid (by rw [HX.out, if_pos (.inr (.inr h3))])
    have h3' : (200 : Int) < (l.length : Int) := by omega
    clear hv hc
    go_enter Try.func6, Try.ntmps6
    go_wp2_with fail
    go_ret
    exact ⟨ret_int HR.out.symm, Below.refl _ _⟩
  · have HR : Hid (crash l n = ((z : Int) + 1) * (n + 1)) := Lib.hid (by rw [HX.out, if_neg (by omega)])
    have h3' : ¬ (200 : Int) < (l.length : Int) := by omega
    obtain ⟨m1, m2⟩ := mul_bound (a := (z : Int) + 1) (b := n + 1) (by omega) (by omega) (by omega) (by omega)
    have hz : z ≤ 1000 := by omega
    obtain ⟨p, hp⟩ : ∃ p, ((z : Int) + 1) * (n + 1) = p := ⟨_, rfl⟩
    rw [hp] at m1 m2 HR
    clear hv hc
    go_enter Try.func6, Try.ntmps6
    go_wp2_with fail
    refine HO.out.mono ?_
    rintro e w1 ⟨rfl, hb⟩
    have D := Lib.hid hb
    clear hb
    go_wp2_with fail
    go_ret
    exact ⟨ret_int HR.out.symm, D.out⟩
/-- The contracts of package cost. -/
theorem con : Con := ⟨ofP_cost, mostP_any, leastP_any, crashP_any⟩
end Go.Proofs.Ytpingbiibbmcaab.Co
