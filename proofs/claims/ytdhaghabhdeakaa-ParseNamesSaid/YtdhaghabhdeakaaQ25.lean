/- Plain: the place that Parse tells lies in the text. -/
import Derived.Test.YtdhaghabhdeakaaQ24

namespace Go.Proofs.Ytdhaghabhdeakaa.Pa
open Go Go.RowKit Rw So
set_option maxRecDepth 20000

def resLe (n : Nat) : To.Res → Prop
  | .ok ts => ∀ t ∈ ts, 0 ≤ t.a ∧ t.a ≤ n
  | .bad a _ => a ≤ n
theorem resLe_cons {n : Nat} {t : To.Tk} (ht : 0 ≤ t.a ∧ t.a ≤ n) : ∀ {r : To.Res}, resLe n r → resLe n (r.cons t)
  | .ok ts, h => fun x hx => by
    rcases List.mem_cons.1 hx with rfl | hx
    · exact ht
    · exact h x hx
  | .bad a e, h => h
theorem F_le : ∀ (m : Nat) (l : List UInt8) (p : Nat), l.length ≤ m → resLe (p + l.length) (To.F l p)
  | _, [], p, _ => fun t ht => by cases ht
  | 0, _ :: _, _, h => by simp at h
  | m + 1, b :: r, p, h => by
    have hr : r.length ≤ m := by simpa using h
    by_cases hb : To.letB b = true
    · rw [To.F_let hb]
      have h1 := To.tw_pos (r := r) hb
      have h2 := To.tw_le (b :: r)
      split
      · show p ≤ _
        omega
      · have := F_le m ((b :: r).drop ((b :: r).takeWhile To.letB).length) (p + ((b :: r).takeWhile To.letB).length) (by rw [List.length_drop, List.length_cons]; omega)
        rw [List.length_drop, show p + ((b :: r).takeWhile To.letB).length + ((b :: r).length - ((b :: r).takeWhile To.letB).length) = p + (b :: r).length by omega] at this
        exact resLe_cons ⟨by show (0 : Int) ≤ (p : Int); omega, by show (p : Int) ≤ _; omega⟩ this
    · have hb := Bool.eq_false_iff.2 hb
      have ih := F_le m r (p + 1) hr
      rw [show p + 1 + r.length = p + (b :: r).length by rw [List.length_cons]; omega] at ih
      by_cases h2 : b = 32
      · subst h2
        rw [To.F_blank]
        exact ih
      · by_cases h0 : To.sig b = 0
        · rw [To.F_byte r p hb h2 h0]
          show p ≤ _
          omega
        · rw [To.F_sig r p hb h2 h0]
          exact resLe_cons ⟨by show (0 : Int) ≤ (p : Int); omega, by show (p : Int) ≤ _; omega⟩ ih
theorem place_in (s : ByteArray) : 0 ≤ (parseR s).place ∧ (parseR s).place ≤ s.size := by
  have hF := F_le s.data.toList.length s.data.toList 0 (Nat.le_refl _)
  rw [bytes_len, Nat.zero_add] at hF
  cases h : To.lexR s with
  | bad a e =>
    have he : parseR s = ⟨[], a, e⟩ := by unfold parseR; rw [h]
    rw [he]
    unfold To.lexR at h
    split at h
    · cases h
      exact ⟨by simp, by show ((1000 : Nat) : Int) ≤ _; omega⟩
    · rw [h] at hF
      have hF : a ≤ s.size := hF
      exact ⟨by show (0 : Int) ≤ (a : Int); omega, by show (a : Int) ≤ _; omega⟩
  | ok ts =>
    have he : parseR s = parseT ts s.size := by unfold parseR; rw [h]
    rw [he]
    unfold To.lexR at h
    split at h
    · cases h
    · rw [h] at hF
      have hF : ∀ t ∈ ts, 0 ≤ t.a ∧ t.a ≤ s.size := hF
      unfold parseT
      generalize got (tkn ts) = g
      by_cases h1 : g.bad = true ∨ g.next < ts.length
      · unfold parseG
        rw [if_pos h1]
        cases hn : ts[g.next]? with
        | none => exact ⟨by show (0 : Int) ≤ (s.size : Int); omega, by show (s.size : Int) ≤ _; omega⟩
        | some t =>
          have := hF t (List.mem_of_getElem? hn)
          exact ⟨this.1, this.2⟩
      · unfold parseG
        rw [if_neg h1]
        repeat' split
        all_goals simp
/-- What Parse gives is short, and so are its names. -/
theorem parse_few (s : ByteArray) : (parseR s).L.length ≤ 60 ∧ Nms (parseR s).L := by
  rcases parse_right s with ⟨_, hr, _⟩ | ⟨_, hl⟩
  · obtain ⟨t, hc, ho, hn⟩ := right_conv hr
    unfold rightB at hr
    simp only [Bool.and_eq_true, decide_eq_true_eq] at hr
    refine ⟨hr.2.1, ?_⟩
    cases h : To.lexR s with
    | bad a e =>
      have he : parseR s = ⟨[], a, e⟩ := by unfold parseR; rw [h]
      rw [he]
      intro x hx
      cases hx
    | ok ts =>
      have he : parseR s = parseT ts s.size := by unfold parseR; rw [h]
      rw [he]
      have hg := (got_facts h).1
      unfold parseT parseG
      repeat' split
      all_goals first | (intro x hx; cases hx) | (intro x hx; have := hg x hx; omega)
  · rw [hl]
    exact ⟨by simp, fun x hx => by cases hx⟩
end Go.Proofs.Ytdhaghabhdeakaa.Pa
