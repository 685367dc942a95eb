/- Plain: tokens printed with a blank behind each are read as the same, but for their places; and TokenAgain's ways that end soon. -/
import Derived.Test.YthfcclheephokaaTk2
namespace Go.Proofs.Ythfcclheephokaa.To
open Go Go.RowKit
set_option maxRecDepth 20000

/-- The tokens' texts, a blank behind each. -/
def outL : List Tk → List UInt8
  | [] => []
  | t :: l => ((prt t).getD ⟨#[]⟩).data.toList ++ 32 :: outL l
theorem outL_snoc : ∀ (l : List Tk) (t : Tk), outL (l ++ [t]) = outL l ++ (((prt t).getD ⟨#[]⟩).data.toList ++ [32])
  | [], t => by simp [outL]
  | x :: l, t => by rw [List.cons_append, outL, outL_snoc l t, outL]; simp
/-- The same tokens, each where it stands now. -/
def moved : List Tk → Nat → List Tk
  | [], _ => []
  | t :: l, p => ⟨t.k, p, t.n⟩ :: moved l (p + ((prt t).getD ⟨#[]⟩).size + 1)
theorem moved_len : ∀ (l : List Tk) (p : Nat), (moved l p).length = l.length
  | [], _ => rfl
  | t :: l, p => by rw [moved, List.length_cons, moved_len l, List.length_cons]
theorem moved_at : ∀ (l : List Tk) (p k : Nat) (h : k < l.length) (h' : k < (moved l p).length), (moved l p)[k].k = l[k].k ∧ (moved l p)[k].n = l[k].n
  | t :: l, p, 0, _, _ => ⟨rfl, rfl⟩
  | t :: l, p, k + 1, h, h' => by
    have := moved_at l (p + ((prt t).getD ⟨#[]⟩).size + 1) k (by simpa using h) (by simpa [moved] using h')
    simpa [moved] using this
theorem again_read : ∀ (l : List Tk) (p : Nat), (∀ t ∈ l, (prt t).isSome = true) → F (outL l) p = .ok (moved l p)
  | [], p, _ => rfl
  | t :: l, p, h => by
    obtain ⟨u, hu⟩ := Option.isSome_iff_exists.1 (h t List.mem_cons_self)
    obtain ⟨h1, _, _⟩ := prt_read hu (32 :: outL l) p let32
    rw [outL, moved, hu]
    simp only [Option.getD_some]
    rw [h1, F_blank, again_read l _ (fun x hx => h x (List.mem_cons_of_mem _ hx))]
    rfl
theorem prt_size {t : Tk} {u : ByteArray} (h : prt t = some u) : t.n.size ≤ 8 := by
  unfold prt at h
  by_cases hn : t.k = 10 ∧ named t.n = true
  · have := hn.2
    unfold named at this
    simp only [Bool.and_eq_true, decide_eq_true_eq] at this
    omega
  · rw [if_neg hn] at h
    by_cases hk : t.k < 1 ∨ 9 < t.k ∨ t.n ≠ ⟨#[]⟩
    · rw [if_pos hk] at h
      cases h
    · simp only [not_or, Decidable.not_not] at hk
      rw [hk.2.2]
      decide
theorem outL_len : ∀ (l : List Tk), (∀ t ∈ l, (prt t).isSome = true) → (outL l).length ≤ 2 * lenS l
  | [], _ => Nat.zero_le _
  | t :: l, h => by
    obtain ⟨u, hu⟩ := Option.isSome_iff_exists.1 (h t List.mem_cons_self)
    obtain ⟨_, h1, _⟩ := prt_read hu [] 0 trivial
    have := outL_len l (fun x hx => h x (List.mem_cons_of_mem _ hx))
    rw [outL, lenS, hu]
    simp
    omega
theorem len_lenS : ∀ (l : List Tk), (∀ t ∈ l, (prt t).isSome = true) → l.length ≤ lenS l
  | [], _ => Nat.le_refl _
  | t :: l, h => by
    obtain ⟨u, hu⟩ := Option.isSome_iff_exists.1 (h t List.mem_cons_self)
    obtain ⟨_, h1, _⟩ := prt_read hu [] 0 trivial
    have := len_lenS l (fun x hx => h x (List.mem_cons_of_mem _ hx))
    rw [lenS, hu, List.length_cons]
    simp
    omega
theorem lenS_take : ∀ (l : List Tk) (k : Nat), lenS (l.take k) ≤ lenS l
  | [], k => by simp
  | t :: l, 0 => Nat.zero_le _
  | t :: l, k + 1 => by have := lenS_take l k; rw [List.take_succ_cons, lenS, lenS]; omega

set_option maxHeartbeats 400000 in
theorem again_bad (con : Con) (s : ByteArray) (w : World) (hs : s.size ≤ 140737488355328) (a : Nat) (e0 : Int) (he : e0 ≠ 0) (hl : lexR s = .bad a e0) : Calls Try.prog 6 #[.string s] w fun e w' => e = .returned (.bool true) ∧ Below w.heap.size w w' := by
  have CON := Lib.hid con
  have HS := Lib.hid hs
  have L1 := Lib.hid (fun w' => CON.out.lex s w' HS.out)
  rw [hl, lp_bad] at L1
  have g0 : (e0 != 0) = true := by rw [bne_iff_ne]; exact he
  clear hs hl he
  go_enter Try.func6, Try.ntmps6
  go_wp2_with fail
  refine (L1.out _).mono ?_
  rintro e wa ⟨y, rfl, -, hb⟩
  have HB := Lib.hid hb
  clear hb
  go_wp2_with fail
  refine (alive_any CON.out _).mono ?_
  rintro e wb ⟨rfl, hb⟩
  have HB2 := Lib.hid (HB.out.trans (hb.mono HB.out.size))
  clear hb
  go_wp2_with fail
  go_ret
  exact ⟨rfl, HB2.out⟩
set_option maxHeartbeats 400000 in
theorem again_long (con : Con) (s : ByteArray) (w : World) (hs : s.size ≤ 140737488355328) (ts : List Tk) (h4 : 400 < s.size) (hl : lexR s = .ok ts) : Calls Try.prog 6 #[.string s] w fun e w' => e = .returned (.bool true) ∧ Below w.heap.size w w' := by
  have CON := Lib.hid con
  have HS := Lib.hid hs
  have L1 := Lib.hid (fun w' => CON.out.lex s w' HS.out)
  rw [hl, lp_ok] at L1
  clear hs hl
  go_enter Try.func6, Try.ntmps6
  go_wp2_with fail
  refine (L1.out _).mono ?_
  rintro e wa ⟨y, rfl, -, hb⟩
  have HB := Lib.hid hb
  clear hb
  go_wp2_with fail
  refine (alive_any CON.out _).mono ?_
  rintro e wb ⟨rfl, hb⟩
  have HB2 := Lib.hid (HB.out.trans (hb.mono HB.out.size))
  clear hb
  go_wp2_with fail
  go_ret
  exact ⟨rfl, HB2.out⟩
end Go.Proofs.Ythfcclheephokaa.To
