/- The statements' own first look at package settle: the walk. The document's Settle of rows of any length. The document's Of, Most, Least, Crashed: the walks. Plain: the moves of a tree are those of its places that wait, in order; what stands there then. Plain: which places of a row wait, whether it will end by a throw, what is beside a place, whether it may give way. Plain: another tree in the place of one that waits. The document's Settled, on, in, Ints, and rows of integers of a call's own: the walks. -/
import Derived.Test.YtpingbiibbmcaaaGreatQ22
import Derived.Test.YtpingbiibbmcaaaGreatQ16
import Derived.Test.YtpingbiibbmcaaaGreatQ06
import Derived.Test.YtpingbiibbmcaaaGreatQ11
import Derived.Test.YtpingbiibbmcaaaGreatQ21
import Derived.BigQuiet
import Derived.Deep.QuietTactic

namespace Go.Proofs.YtpingbiibbmcaaaGreat.Se
open Go Go.RowKit Go.Proofs.YtpingbiibbmcaaaGreat.Rw Go.Proofs.YtpingbiibbmcaaaGreat.So
set_option maxRecDepth 20000

/-- A row of nodes in a block that is new. -/
theorem nds_new (w : World) (l : List Nd) (ty : TypeId) : Nds (w.alloc (.cells (cls l).toArray ty)) (.slice (some ⟨w.heap.size, 0, none⟩) l.length l.length) l := by
  refine ⟨cls_len l, some ⟨w.heap.size, 0, none⟩, l.length, rfl, Nat.le_refl _, fun h => (by cases h), fun _ => ⟨w.heap.size, 0, rfl, fun j u hu => ?_⟩⟩
  rw [Nat.zero_add, World.cell?_alloc_new]
  simpa using hu
end Go.Proofs.YtpingbiibbmcaaaGreat.Se

namespace Go.Proofs.YtpingbiibbmcaaaGreat.Co
open Go Go.RowKit Go.Proofs.YtpingbiibbmcaaaGreat.Rw Go.Proofs.YtpingbiibbmcaaaGreat.So Go.Proofs.YtpingbiibbmcaaaGreat.Se
set_option maxRecDepth 20000

set_option maxHeartbeats 1000000 in
theorem settleR_far (b off cap : Nat) (l : List Nd) (w : World) (hat : At w b off l) (hm : Nms l) (h2 : 200 < l.length) (hl : l.length ≤ 9223372036854775807) :
    Calls Tryz.prog 4 #[.slice (some ⟨b, off, none⟩) l.length cap] w fun e w' => e = .returned (.slice none 0 0) ∧ Below w.heap.size w w' := by
  have HW := Lib.hid (Ru.ofR_far b off cap l w hat hm h2 hl)
  clear hat hm
  go_enter Tryz.func4, Tryz.ntmps4
  go_wp2_with fail
  refine HW.out.mono ?_
  rintro e w1 ⟨rfl, hb⟩
  have B1 := Lib.hid hb
  clear hb
  go_wp2_with fail
  go_ret
  exact ⟨rfl, B1.out⟩
/-- A row that is settled, if it is not too long. -/
noncomputable def stA (l : List Nd) : List Nd := if l.length ≤ 1000 then st l else []
theorem stA_few {l : List Nd} (h : l.length ≤ 1000) : stA l = st l := if_pos h
theorem settleR_all (v : Value) (l : List Nd) (w : World) (hv : Nds w v l) (hm : Nms l) (hl : l.length ≤ 9223372036854775807) : Calls Tryz.prog 4 #[v] w (OutL (stA l) w) := by
  unfold stA
  by_cases h : l.length ≤ 1000
  · rw [if_pos h]
    exact settleR_any v l w hv h hm
  · rw [if_neg h]
    rcases hv.form with ⟨rfl, _⟩ | ⟨b, off, cap, rfl, _, hat⟩
    · exact absurd (Nat.zero_le _) h
    · refine (settleR_far b off cap l w hat hm (by omega) hl).mono ?_
      rintro e w' ⟨rfl, hb⟩
      exact ⟨_, rfl, nds_nil _, hb⟩
end Go.Proofs.YtpingbiibbmcaaaGreat.Co

namespace Go.Proofs.YtpingbiibbmcaaaGreat.Co
open Go Go.RowKit Go.Proofs.YtpingbiibbmcaaaGreat.Rw Go.Proofs.YtpingbiibbmcaaaGreat.So Go.Proofs.YtpingbiibbmcaaaGreat.Se Go.Proofs.YtpingbiibbmcaaaGreat.Do Go.Proofs.YtpingbiibbmcaaaGreat.Sp
set_option maxRecDepth 20000

/-- The least, or the most, of a row; 0 of what goes on in no way. -/
noncomputable def cr (b : Bool) (l : List Nd) : Nat := if h : of l = 0 then 0 else cst b (goes_of h).choose
theorem cr_no {l : List Nd} (b : Bool) (h : of l = 0) : cr b l = 0 := dif_pos h
theorem cr_go {t : Tm} (b : Bool) (h : Goes t) : cr b (flat t) = cst b t := by
  have h0 := h.of
  unfold cr
  rw [dif_neg h0, flat_inj _ _ (goes_of h0).choose_spec.1]
/-- How many Acts, Alts, Yields and Pairs a row has. -/
def chR (l : List Nd) : Nat := cnt l [1, 4, 6, 10]
theorem chR_len (l : List Nd) : chR l ≤ l.length := List.countP_le_length
theorem chR_flat (t : Tm) : chR (flat t) = ch t := by
  unfold chR cnt ch ct
  congr 1
  funext x
  by_cases h1 : x.k = 1 <;> by_cases h2 : x.k = 4 <;> by_cases h3 : x.k = 6 <;> by_cases h4 : x.k = 10 <;> simp [h1, h2, h3, h4]
/-- What crashes cost. -/
def crash (l : List Nd) (n : Int) : Int := if n < 0 ∨ n > 1048576 ∨ l.length > 200 then 0 else ((chR l : Int) + 1) * (n + 1)
theorem mul_bound {a b : Int} (h0 : 0 ≤ a) (h1 : a ≤ 2000) (h2 : 0 ≤ b) (h3 : b ≤ 2000000) : 0 ≤ a * b ∧ a * b ≤ 4000000000 := by
  refine ⟨Int.mul_nonneg h0 h2, ?_⟩
  have := Int.mul_le_mul h1 h3 h2 (by omega : (0 : Int) ≤ 2000)
  omega
end Go.Proofs.YtpingbiibbmcaaaGreat.Co

namespace Go.Proofs.YtpingbiibbmcaaaGreat.Sp
open Go Go.Proofs.YtpingbiibbmcaaaGreat.Rw Go.Proofs.YtpingbiibbmcaaaGreat.So Go.Proofs.YtpingbiibbmcaaaGreat.Se Go.Proofs.YtpingbiibbmcaaaGreat.Tr Go.Proofs.YtpingbiibbmcaaaGreat.Mn Go.Proofs.YtpingbiibbmcaaaGreat.Do

/-- The kind of the node at a place of a tree that stands at i. -/
def kat (t : Tm) (i p : Nat) : Int := match (flat t)[p - i]? with | some x => x.k | none => 0
/-- May what waits at a place give way? d: outside of all blocks it may. -/
def freeAt (d : Bool) (t : Tm) (i p : Nat) : Bool := (!(pth t i p).2 && d) || (pth t i p).1.any bangT
/-- The moves at a place, by its kind. -/
def hows (k : Int) (f : Bool) (p : Nat) : List (Nat × Int) :=
  if k = 1 then [(p, 1)] else if k = 6 then [(p, 2), (p, 3)] else (p, 4) :: if f then [(p, 5)] else []
def en (d : Bool) (t : Tm) (i : Nat) : List (Nat × Int) := (wt t i).flatMap fun p => hows (kat t i p) (freeAt d t i p) p
theorem kat_l {t a : Tm} {n : Nd} {x : List Nd} (e : flat t = n :: (flat a ++ x)) {i p : Nat} (h1 : i + 1 ≤ p) (h2 : p < i + 1 + sz a) : kat t i p = kat a (i + 1) p := by
  unfold kat
  rw [e, show p - i = (p - (i + 1)) + 1 by omega, List.getElem?_cons_succ, List.getElem?_append_left (by rw [Se.flat_len]; omega)]
theorem kat_r {t a b : Tm} {n : Nd} (e : flat t = n :: (flat a ++ flat b)) {i p : Nat} (h1 : i + 1 + sz a ≤ p) : kat t i p = kat b (i + 1 + sz a) p := by
  unfold kat
  rw [e, show p - i = (p - (i + 1)) + 1 by omega, List.getElem?_cons_succ, List.getElem?_append_right (by rw [Se.flat_len]; omega), Se.flat_len, show p - (i + 1) - sz a = p - (i + 1 + sz a) by omega]
theorem kat_1 {t a : Tm} {n : Nd} (e : flat t = n :: flat a) {i p : Nat} (h1 : i + 1 ≤ p) (h2 : p < i + 1 + sz a) : kat t i p = kat a (i + 1) p :=
  kat_l (x := []) (by rw [e, List.append_nil]) h1 h2
theorem en_ctx {t a : Tm} {d d' : Bool} {i j : Nat} (h : ∀ p ∈ wt a j, kat t i p = kat a j p ∧ freeAt d t i p = freeAt d' a j p) :
    (wt a j).flatMap (fun p => hows (kat t i p) (freeAt d t i p) p) = en d' a j := by
  unfold en
  have : ∀ l : List Nat, (∀ p ∈ l, kat t i p = kat a j p ∧ freeAt d t i p = freeAt d' a j p) → l.flatMap (fun p => hows (kat t i p) (freeAt d t i p) p) = l.flatMap (fun p => hows (kat a j p) (freeAt d' a j p) p) := by
    intro l
    induction l with
    | nil => intro _; rfl
    | cons p l ih =>
      intro h
      rw [List.flatMap_cons, List.flatMap_cons, ih fun q hq => h q (List.mem_cons_of_mem _ hq), (h p List.mem_cons_self).1, (h p List.mem_cons_self).2]
  exact this _ h
theorem kat_0 {t : Tm} {n : Nd} {x : List Nd} (e : flat t = n :: x) (i : Nat) : kat t i i = n.k := by
  unfold kat
  rw [e, Nat.sub_self]
  rfl
theorem up_ph (f : Tm → Tm) (l : List Mo) : (l.map (upm f)).map (fun m => (m.p, m.h)) = l.map (fun m => (m.p, m.h)) := by
  rw [List.map_map]
  rfl
theorem en_mvs : ∀ (t : Tm) (d : Bool) (i : Nat), (mvs d t i).map (fun m => (m.p, m.h)) = en d t i := by
  have one : ∀ {t a : Tm} {x : List Nd} {n : Nd} (e : flat t = n :: (flat a ++ x)) (f : Tm → Tm) (d : Bool) (i : Nat), mvs d t i = (mvs d a (i + 1)).map (upm f) → wt t i = wt a (i + 1) →
      (∀ p, i + 1 ≤ p → p < i + 1 + sz a → pth t i p = pth a (i + 1) p) → (mvs d a (i + 1)).map (fun m => (m.p, m.h)) = en d a (i + 1) → (mvs d t i).map (fun m => (m.p, m.h)) = en d t i := by
    intro t a x n e f d i h1 h2 h3 ih
    rw [h1, up_ph, ih]
    unfold en
    rw [h2]
    refine (en_ctx fun p hp => ?_).symm
    have hin := wt_in a _ p hp
    refine ⟨kat_l e hin.1 hin.2, ?_⟩
    unfold freeAt
    rw [h3 p hin.1 hin.2]
  intro t
  induction t with
  | act s => intro d i; simp only [mvs, en, wt, List.flatMap_cons, List.flatMap_nil, kat_0 (t := .act s) rfl]; rfl
  | alt a b => intro d i; simp only [mvs, en, wt, List.flatMap_cons, List.flatMap_nil, kat_0 (t := .alt a b) rfl]; rfl
  | yield =>
    intro d i
    have hf : freeAt d .yield i i = d := by simp [freeAt, pth]
    simp only [mvs, en, wt, List.flatMap_cons, List.flatMap_nil, kat_0 (t := .yield) rfl, hf]
    cases d <;> rfl
  | pair a b =>
    intro d i
    have hf : freeAt d (.pair a b) i i = d := by simp [freeAt, pth]
    simp only [mvs, en, wt, List.flatMap_cons, List.flatMap_nil, kat_0 (t := .pair a b) rfl, hf]
    cases d <;> rfl
  | seq a b ia ib => intro d i; exact one (t := .seq a b) rfl _ d i rfl rfl (fun p h1 h2 => by rw [pth, if_neg (by omega), if_pos h2]) (ia d (i + 1))
  | hand a b ia ib => intro d i; exact one (t := .hand a b) rfl _ d i rfl rfl (fun p h1 h2 => by rw [pth, if_neg (by omega), if_pos h2]) (ia d (i + 1))
  | going a b ia ib => intro d i; exact one (t := .going a b) rfl _ d i rfl rfl (fun p h1 h2 => by rw [pth, if_neg (by omega), if_pos h2]) (ia d (i + 1))
  | stack a b ia ib => intro d i; exact one (t := .stack a b) rfl _ d i rfl rfl (fun p h1 h2 => by rw [pth, if_neg (by omega), if_pos h2]) (ia d (i + 1))
  | block a ia =>
    intro d i
    show ((mvs false a (i + 1)).map (upm .block)).map (fun m => (m.p, m.h)) = _
    rw [up_ph, ia false (i + 1)]
    refine (en_ctx (t := .block a) (d := d) (i := i) fun p hp => ?_).symm
    have hin := wt_in a _ p hp
    refine ⟨kat_1 (t := .block a) rfl hin.1 hin.2, ?_⟩
    unfold freeAt
    rw [pth, if_neg (by omega)]
    simp
  | par a b ia ib =>
    intro d i
    show ((mvs (d || bangT b) a (i + 1)).map (upm (.par · b)) ++ (mvs (d || bangT a) b (i + 1 + sz a)).map (upm (.par a ·))).map (fun m => (m.p, m.h)) = _
    rw [List.map_append, up_ph, up_ph, ia, ib]
    unfold en
    rw [show wt (.par a b) i = wt a (i + 1) ++ wt b (i + 1 + sz a) from rfl, List.flatMap_append]
    have e1 := en_ctx (t := .par a b) (a := a) (d := d) (d' := d || bangT b) (i := i) (j := i + 1) fun p hp => by
      have hin := wt_in a _ p hp
      refine ⟨kat_l (t := .par a b) rfl hin.1 hin.2, ?_⟩
      unfold freeAt
      rw [pth, if_neg (by omega), if_pos hin.2]
      obtain ⟨o, ins⟩ := pth a (i + 1) p
      cases ins <;> simp
      cases d <;> cases bangT b <;> simp
    have e2 := en_ctx (t := .par a b) (a := b) (d := d) (d' := d || bangT a) (i := i) (j := i + 1 + sz a) fun p hp => by
      have hin := wt_in b _ p hp
      refine ⟨kat_r (t := .par a b) rfl hin.1, ?_⟩
      unfold freeAt
      rw [pth, if_neg (by omega), if_neg (by omega)]
      obtain ⟨o, ins⟩ := pth b (i + 1 + sz a) p
      cases ins <;> simp
      cases d <;> cases bangT a <;> simp
    rw [e1, e2]
    rfl
  | _ => intro d i; rfl
/-- What stands in a tree's place behind a move. -/
inductive Made : Tm → Int → Option ByteArray → Tm → Prop
  | act (s) : Made (.act s) 1 (some s) (.over 1)
  | altl (a b) : Made (.alt a b) 2 none a
  | altr (a b) : Made (.alt a b) 3 none b
  | yieldg : Made .yield 4 none (.over 1)
  | yields : Made .yield 5 none (.over 3)
  | pairg (a b) : Made (.pair a b) 4 none (.going a b)
  | pairs (a b) : Made (.pair a b) 5 none (.fin 3 .skip)
theorem mv_put : ∀ (t : Tm) (d : Bool) (i : Nat), ∀ m ∈ mvs d t i, ∃ pre s post u, flat t = pre ++ (flat s ++ post) ∧ m.p = i + pre.length ∧ flat m.r = pre ++ (flat u ++ post) ∧ Made s m.h m.l u := by
  have here : ∀ {t : Tm} {m : Mo} {i : Nat}, m.p = i → Made t m.h m.l m.r → ∃ pre s post u, flat t = pre ++ (flat s ++ post) ∧ m.p = i + pre.length ∧ flat m.r = pre ++ (flat u ++ post) ∧ Made s m.h m.l u :=
    fun {t m i} h k => ⟨[], t, [], m.r, by simp, by simp [h], by simp, k⟩
  have down : ∀ {a : Tm} {m : Mo} {i : Nat} (f : Tm → Tm) (n x : List Nd), (∀ c, flat (f c) = n ++ (flat c ++ x)) → (∃ pre s post u, flat a = pre ++ (flat s ++ post) ∧ m.p = (i + n.length) + pre.length ∧ flat m.r = pre ++ (flat u ++ post) ∧ Made s m.h m.l u) →
      ∃ pre s post u, flat (f a) = pre ++ (flat s ++ post) ∧ (upm f m).p = i + pre.length ∧ flat (upm f m).r = pre ++ (flat u ++ post) ∧ Made s (upm f m).h (upm f m).l u := by
    rintro a m i f n x hf ⟨pre, s, post, u, h1, h2, h3, h4⟩
    refine ⟨n ++ pre, s, post ++ x, u, by rw [hf, h1]; simp, ?_, ?_, h4⟩
    · show m.p = _
      rw [h2, List.length_append]
      omega
    · show flat (f m.r) = _
      rw [hf, h3]
      simp
  intro t
  induction t with
  | act s => intro d i m hm; simp only [mvs, List.mem_singleton] at hm; subst hm; exact here rfl (.act s)
  | alt a b =>
    intro d i m hm
    simp only [mvs, List.mem_cons, List.not_mem_nil, or_false] at hm
    rcases hm with rfl | rfl
    · exact here rfl (.altl a b)
    · exact here rfl (.altr a b)
  | yield =>
    intro d i m hm
    cases d <;> simp [mvs] at hm
    · subst hm; exact here rfl .yieldg
    · rcases hm with rfl | rfl
      · exact here rfl .yieldg
      · exact here rfl .yields
  | pair a b =>
    intro d i m hm
    cases d <;> simp [mvs] at hm
    · subst hm; exact here rfl (.pairg a b)
    · rcases hm with rfl | rfl
      · exact here rfl (.pairg a b)
      · exact here rfl (.pairs a b)
  | seq a b ia ib => intro d i m hm; obtain ⟨n, hn, rfl⟩ := List.mem_map.1 hm; exact down (.seq · b) [nOf 5] (flat b) (fun _ => rfl) (ia _ _ n hn)
  | hand a b ia ib => intro d i m hm; obtain ⟨n, hn, rfl⟩ := List.mem_map.1 hm; exact down (.hand · b) [nOf 8] (flat b) (fun _ => rfl) (ia _ _ n hn)
  | going a b ia ib => intro d i m hm; obtain ⟨n, hn, rfl⟩ := List.mem_map.1 hm; exact down (.going · b) [nOf 12] (flat b) (fun _ => rfl) (ia _ _ n hn)
  | stack a b ia ib => intro d i m hm; obtain ⟨n, hn, rfl⟩ := List.mem_map.1 hm; exact down (.stack · b) [nOf 13] (flat b) (fun _ => rfl) (ia _ _ n hn)
  | block a ia => intro d i m hm; obtain ⟨n, hn, rfl⟩ := List.mem_map.1 hm; exact down .block [nOf 9] [] (fun _ => by simp [flat]) (ia _ _ n hn)
  | par a b ia ib =>
    intro d i m hm
    rcases List.mem_append.1 hm with hm | hm
    · obtain ⟨n, hn, rfl⟩ := List.mem_map.1 hm; exact down (.par · b) [nOf 7] (flat b) (fun _ => rfl) (ia _ _ n hn)
    · obtain ⟨n, hn, rfl⟩ := List.mem_map.1 hm
      refine down (.par a ·) (nOf 7 :: flat a) [] (fun _ => by simp [flat]) ?_
      have := ib _ _ n hn
      rw [List.length_cons, Se.flat_len, show i + (sz a + 1) = i + 1 + sz a by omega]
      exact this
  | _ => intro d i m hm; exact absurd hm (by simp [mvs])
end Go.Proofs.YtpingbiibbmcaaaGreat.Sp

namespace Go.Proofs.YtpingbiibbmcaaaGreat.Do
open Go Go.Proofs.YtpingbiibbmcaaaGreat.Rw Go.Proofs.YtpingbiibbmcaaaGreat.So Go.Proofs.YtpingbiibbmcaaaGreat.Se

/-- Is a row a tree that goes on, and nothing more comes of it? -/
noncomputable def setB (l : List Nd) : Bool := decide (0 < l.length) && sameN (st l) l
theorem set_iff {l : List Nd} : setB l = true ↔ ∃ t, flat t = l ∧ Goes t ∧ Nf t := by
  unfold setB sameN
  rw [Bool.and_eq_true, decide_eq_true_eq, decide_eq_true_eq]
  constructor
  · rintro ⟨h0, h⟩
    have hn : st l ≠ [] := fun e => by rw [e] at h; rw [← h] at h0; simp at h0
    obtain ⟨t, rfl, hg, e⟩ := st_some hn
    rw [e] at h
    have := flat_inj _ _ h
    exact ⟨t, rfl, hg, by rw [← this]; exact S_nf t⟩
  · rintro ⟨t, rfl, hg, hn⟩
    exact ⟨by rw [Se.flat_len]; exact sz_pos t, by rw [st_go hg, nf_S t hn]⟩
theorem set_go {t : Tm} (hg : Goes t) : setB (flat t) = true ↔ Nf t := by
  rw [set_iff]
  constructor
  · rintro ⟨u, e, _, h⟩
    rw [← flat_inj _ _ e]; exact h
  · intro h; exact ⟨t, rfl, hg, h⟩
/-- The places that wait. -/
noncomputable def av (l : List Nd) : List Int := if h : setB l = true then (wt (set_iff.1 h).choose 0).map Int.ofNat else []
theorem av_go {t : Tm} (hg : Goes t) (hn : Nf t) : av (flat t) = (wt t 0).map Int.ofNat := by
  have h : setB (flat t) = true := (set_go hg).2 hn
  unfold av
  rw [dif_pos h, flat_inj _ _ (set_iff.1 h).choose_spec.1]
theorem av_no {l : List Nd} (h : setB l = false) : av l = [] := dif_neg (by rw [h]; simp)
/-- Will it end by a throw? -/
noncomputable def dm (l : List Nd) : Bool := if h : setB l = true then bangT (set_iff.1 h).choose else false
theorem dm_go {t : Tm} (hg : Goes t) (hn : Nf t) : dm (flat t) = bangT t := by
  have h : setB (flat t) = true := (set_go hg).2 hn
  unfold dm
  rw [dif_pos h, flat_inj _ _ (set_iff.1 h).choose_spec.1]
theorem dm_no {l : List Nd} (h : setB l = false) : dm l = false := dif_neg (by rw [h]; simp)
/-- What is beside a place; whether it may give way. -/
noncomputable def bs (l : List Nd) (p : Int) : List (List Nd) := if h : setB l = true ∧ p ∈ av l then (pth (set_iff.1 h.1).choose 0 p.toNat).1.map flat else []
noncomputable def fr (l : List Nd) (p : Int) : Bool := if h : setB l = true ∧ p ∈ av l then (!(pth (set_iff.1 h.1).choose 0 p.toNat).2) || (pth (set_iff.1 h.1).choose 0 p.toNat).1.any bangT else false
theorem mem_av {t : Tm} (hg : Goes t) (hn : Nf t) {p : Int} : p ∈ av (flat t) ↔ ∃ k ∈ wt t 0, p = (k : Int) := by
  rw [av_go hg hn, List.mem_map]
  exact ⟨fun ⟨k, h, e⟩ => ⟨k, h, e.symm⟩, fun ⟨k, h, e⟩ => ⟨k, h, e.symm⟩⟩
theorem bs_go {t : Tm} (hg : Goes t) (hn : Nf t) {k : Nat} (hk : k ∈ wt t 0) : bs (flat t) (k : Int) = (pth t 0 k).1.map flat := by
  have h : setB (flat t) = true ∧ (k : Int) ∈ av (flat t) := ⟨(set_go hg).2 hn, (mem_av hg hn).2 ⟨k, hk, rfl⟩⟩
  unfold bs
  rw [dif_pos h, flat_inj _ _ (set_iff.1 h.1).choose_spec.1]
  rfl
theorem fr_go {t : Tm} (hg : Goes t) (hn : Nf t) {k : Nat} (hk : k ∈ wt t 0) : fr (flat t) (k : Int) = ((!(pth t 0 k).2) || (pth t 0 k).1.any bangT) := by
  have h : setB (flat t) = true ∧ (k : Int) ∈ av (flat t) := ⟨(set_go hg).2 hn, (mem_av hg hn).2 ⟨k, hk, rfl⟩⟩
  unfold fr
  rw [dif_pos h, flat_inj _ _ (set_iff.1 h.1).choose_spec.1]
  rfl
theorem bs_no {l : List Nd} {p : Int} (h : p ∉ av l) : bs l p = [] := dif_neg fun k => h k.2
theorem fr_no {l : List Nd} {p : Int} (h : p ∉ av l) : fr l p = false := dif_neg fun k => h k.2
/-- What is beside a place that waits goes on, and is settled. -/
theorem pth_goes : ∀ (t : Tm) (i p : Nat), p ∈ wt t i → Goes t → Nf t → ∀ u ∈ (pth t i p).1, Goes u ∧ Nf u := by
  intro t
  induction t with
  | act s => intro i p _ _ _ u hu; simp [pth] at hu
  | skip => intro i p h; simp [wt] at h
  | throw => intro i p h; simp [wt] at h
  | yield => intro i p _ _ _ u hu; simp [pth] at hu
  | over s => intro i p h; simp [wt] at h
  | fin s c ic => intro i p h; simp [wt] at h
  | alt a b ia ib => intro i p h _ _ u hu; simp only [wt, List.mem_singleton] at h; subst h; simp [pth] at hu
  | pair a b ia ib => intro i p h _ _ u hu; simp only [wt, List.mem_singleton] at h; subst h; simp [pth] at hu
  | block a ia =>
    intro i p h hg hn u hu
    have hin := wt_in a _ _ h
    obtain ⟨g1, g2, g3⟩ := hg
    rw [rg_block] at g1
    simp only [sz] at g2
    simp [is] at g3
    rw [pth, if_neg (by omega)] at hu
    exact ia _ _ h ⟨g1, by omega, .inr g3⟩ hn.1 u hu
  | seq a b ia ib =>
    intro i p h hg hn u hu
    have hin := wt_in a _ _ h
    obtain ⟨g1, g2, g3⟩ := hg
    rw [rg_seq, Bool.and_eq_true] at g1
    simp only [sz] at g2
    simp [is] at g3
    rw [pth, if_neg (by omega), if_pos hin.2] at hu
    exact ia _ _ h ⟨g1.1, by omega, g3.imp (·.1) (·.1)⟩ hn.1 u hu
  | hand a b ia ib =>
    intro i p h hg hn u hu
    have hin := wt_in a _ _ h
    obtain ⟨g1, g2, g3⟩ := hg
    rw [rg_hand, Bool.and_eq_true] at g1
    simp only [sz] at g2
    simp [is] at g3
    rw [pth, if_neg (by omega), if_pos hin.2] at hu
    exact ia _ _ h ⟨g1.1, by omega, .inl g3.1⟩ hn.1 u hu
  | going a b ia ib =>
    intro i p h hg hn u hu
    have hin := wt_in a _ _ h
    obtain ⟨g1, g2, g3⟩ := hg
    rw [rg_going, Bool.and_eq_true] at g1
    simp only [sz] at g2
    simp [is] at g3
    rw [pth, if_neg (by omega), if_pos hin.2] at hu
    exact ia _ _ h ⟨g1.1, by omega, .inl g3.1⟩ hn.1 u hu
  | stack a b ia ib =>
    intro i p h hg hn u hu
    have hin := wt_in a _ _ h
    obtain ⟨g1, g2, g3⟩ := hg
    rw [rg_stack, Bool.and_eq_true] at g1
    simp only [sz] at g2
    simp [is] at g3
    rw [pth, if_neg (by omega), if_pos hin.2] at hu
    exact ia _ _ h ⟨g1.1, by omega, .inr g3.1⟩ hn.1 u hu
  | par a b ia ib =>
    intro i p h hg hn u hu
    obtain ⟨g1, g2, g3⟩ := hg
    rw [rg_par, Bool.and_eq_true] at g1
    simp only [sz] at g2
    have ga : Goes a := ⟨g1.1, by omega, by simp [is] at g3; exact g3.imp (·.1) (·.1)⟩
    have gb : Goes b := ⟨g1.2, by omega, by simp [is] at g3; exact g3.imp (·.2) (·.2)⟩
    rcases List.mem_append.1 h with h | h
    · have hin := wt_in a _ _ h
      rw [pth, if_neg (by omega), if_pos hin.2] at hu
      split at hu
      · exact ia _ _ h ga hn.1 u hu
      · rcases List.mem_append.1 hu with hu | hu
        · exact ia _ _ h ga hn.1 u hu
        · rw [List.mem_singleton] at hu; subst hu; exact ⟨gb, hn.2.1⟩
    · have hin := wt_in b _ _ h
      rw [pth, if_neg (by omega), if_neg (by omega)] at hu
      split at hu
      · exact ib _ _ h gb hn.2.1 u hu
      · rcases List.mem_append.1 hu with hu | hu
        · exact ib _ _ h gb hn.2.1 u hu
        · rw [List.mem_singleton] at hu; subst hu; exact ⟨ga, hn.1⟩
theorem wt_few : ∀ (t : Tm) (i : Nat), (wt t i).length ≤ sz t := by
  intro t
  induction t with
  | par a b ia ib => intro i; simp only [wt, List.length_append, sz]; have := ia (i + 1); have := ib (i + 1 + sz a); omega
  | seq a b ia ib => intro i; simp only [wt, sz]; have := ia (i + 1); omega
  | hand a b ia ib => intro i; simp only [wt, sz]; have := ia (i + 1); omega
  | going a b ia ib => intro i; simp only [wt, sz]; have := ia (i + 1); omega
  | stack a b ia ib => intro i; simp only [wt, sz]; have := ia (i + 1); omega
  | block a ia => intro i; simp only [wt, sz]; have := ia (i + 1); omega
  | _ => intro i; simp [wt, sz]
theorem av_len (l : List Nd) : (av l).length ≤ l.length := by
  cases h : setB l with
  | false => rw [av_no h]; exact Nat.zero_le _
  | true =>
    obtain ⟨t, rfl, hg, hn⟩ := set_iff.1 h
    rw [av_go hg hn, List.length_map, Se.flat_len]
    exact wt_few t 0
theorem av_in {l : List Nd} {p : Int} (h : p ∈ av l) : 0 ≤ p ∧ p < l.length := by
  cases hs : setB l with
  | false => rw [av_no hs] at h; cases h
  | true =>
    obtain ⟨t, rfl, hg, hn⟩ := set_iff.1 hs
    obtain ⟨k, hk, rfl⟩ := (mem_av hg hn).1 h
    have := wt_in t 0 k hk
    rw [Se.flat_len]
    omega
end Go.Proofs.YtpingbiibbmcaaaGreat.Do

namespace Go.Proofs.YtpingbiibbmcaaaGreat.Sp
open Go Go.Proofs.YtpingbiibbmcaaaGreat.Rw Go.Proofs.YtpingbiibbmcaaaGreat.So Go.Proofs.YtpingbiibbmcaaaGreat.Se Go.Proofs.YtpingbiibbmcaaaGreat.Tr Go.Proofs.YtpingbiibbmcaaaGreat.Mn Go.Proofs.YtpingbiibbmcaaaGreat.Do

/-- The tree at a place that waits; another one in its place. -/
def sub : Tm → Nat → Nat → Tm
  | .seq a _, i, p => sub a (i + 1) p
  | .hand a _, i, p => sub a (i + 1) p
  | .going a _, i, p => sub a (i + 1) p
  | .stack a _, i, p => sub a (i + 1) p
  | .block a, i, p => sub a (i + 1) p
  | .par a b, i, p => if p < i + 1 + sz a then sub a (i + 1) p else sub b (i + 1 + sz a) p
  | t, _, _ => t
end Go.Proofs.YtpingbiibbmcaaaGreat.Sp

namespace Go.Proofs.YtpingbiibbmcaaaGreat.Do
open Go Go.RowKit Go.Proofs.YtpingbiibbmcaaaGreat.Rw Go.Proofs.YtpingbiibbmcaaaGreat.So Go.Proofs.YtpingbiibbmcaaaGreat.Se
set_option maxRecDepth 20000

theorem infoInt : (Tryz.prog.info? 3).map (fun i => (i.zero, i.size, i.bytes)) = some (some (.int .i64 0), 1, 8) := by kernel_rfl
/-- A row of integers of a call's own. -/
def GotJ (base : Nat) (w : World) (v : Value) (l : List Int) : Prop := w.ownsRow base 3 1 v l.length (l.map (.int .i64)) ∧ base ≤ w.heap.size
theorem GotJ.ints {base : Nat} {w : World} {v : Value} {l : List Int} (h : GotJ base w v l) : Ints w v l := Ap.Rd.owned h.1
theorem GotJ.start (base : Nat) (w : World) (hb : base ≤ w.heap.size) : GotJ base w (.slice none 0 0) [] := ⟨⟨rfl, .inl ⟨rfl, rfl⟩⟩, hb⟩
theorem GotJ.below {base : Nat} {w w' : World} {v : Value} {l : List Int} (h : GotJ base w v l) (hb : Below w.heap.size w w') : GotJ base w' v l := ⟨Ap.own_below h.1 hb, Nat.le_trans h.2 hb.size⟩
theorem GotJ.slice {base : Nat} {w : World} {v : Value} {l : List Int} (h : GotJ base w v l) : ∃ a c, v = .slice a l.length c := by
  obtain ⟨_, a, c, e, -⟩ := h.ints
  exact ⟨a, c, e⟩
theorem GotJ.row {base : Nat} {w : World} {v y : Value} {l m : List Int} (h : GotJ base w v l) (hy : Ints w y m) (hl : l.length + m.length ≤ 2000000) :
    ∃ v' w', (Builtin.append_ #[23, 23] 23 #[v, y]).run Tryz.prog w = .ok v' w' ∧ GotJ base w' v' (l ++ m) ∧ Below base w w' := by
  obtain ⟨i0, hi, hz, hs1, hb8⟩ := info_parts infoInt
  obtain ⟨v', w', h1, h2, _, h4, _⟩ := Ap.run_append_rd (P := Tryz.prog) (ty := 23) Tryz.underlying23 hi hz hs1 hb8 (by rfl) (by omega) h.1 h.2 hy
    (by intro u hu; obtain ⟨x, _, rfl⟩ := List.mem_map.1 hu; rfl) (by unfold maxLen; omega) (by omega)
  exact ⟨v', w', h1, ⟨by rw [List.length_append, List.map_append]; exact h2, Nat.le_trans h.2 h4.size⟩, h4⟩
theorem int_new (w : World) (x : Int) (ty : TypeId) : Ints (w.alloc (.cells #[.int .i64 x] ty)) (.slice (some ⟨w.heap.size, 0, none⟩) 1 1) [x] := by
  refine ⟨rfl, some ⟨w.heap.size, 0, none⟩, 1, rfl, Nat.le_refl _, fun h => (by cases h), fun _ => ⟨w.heap.size, 0, rfl, fun j u hu => ?_⟩⟩
  rw [Nat.zero_add, World.cell?_alloc_new]
  simpa using hu
theorem ints_nil (w : World) : Ints w (.slice none 0 0) [] := ⟨rfl, none, 0, rfl, Nat.le_refl _, fun _ => ⟨rfl, rfl⟩, fun h => absurd h (Nat.lt_irrefl 0)⟩

end Go.Proofs.YtpingbiibbmcaaaGreat.Do
