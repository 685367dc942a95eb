/- The document's Traces: the walk of one node. -/
import Derived.Test.YtghnonbcojbohaaGreatDoorQ22
import Derived.Test.YtghnonbcojbohaaGreatDoorQ21
import Derived.Test.YtghnonbcojbohaaGreatDoorQ30
import Derived.Test.YtghnonbcojbohaaGreatDoorQ06

namespace Go.Proofs.YtghnonbcojbohaaGreatDoor.Mn
open Go Go.RowKit Tr
open Rw (Nd Nds)
set_option maxRecDepth 20000

theorem twoR_any (ok : Nat → Prop) (k : Int) (hk : k = 5 ∨ k = 6 ∨ k = 7 ∨ k = 8) (x y : Value) (A B : List Tr) (w : World) (hx : TsO ok w x A) (hy : TsO ok w y B) (hAB : A.length + B.length ≤ 1000000000000) (hrow : ∀ p ∈ A, ∀ q ∈ B, p.a.length + q.a.length ≤ 9) (hout : (two k A B).length ≤ 1000000000000) :
    Calls Tryz.prog 68 #[.int .i64 k, x, y] w (OutT ok (two k A B) w) := by
  rcases hk with rfl | rfl | rfl | rfl
  · have e : two 5 A B = A.flatMap fun p => B.flatMap (one 5 p) := by unfold two; rw [if_neg (by decide)]
    rw [e] at hout ⊢
    exact twoR5_any ok x y A B w hx hy (by omega) (by omega) hrow hout
  · have e : two 6 A B = A ++ B := by unfold two; rw [if_pos rfl]
    rw [e] at hout ⊢
    exact twoR6_any ok x y A B w hx hy hAB
  · have e : two 7 A B = A.flatMap fun p => B.flatMap (one 7 p) := by unfold two; rw [if_neg (by decide)]
    rw [e] at hout ⊢
    exact twoR7_any ok x y A B w hx hy (by omega) (by omega) hrow hout
  · have e : two 8 A B = A.flatMap fun p => B.flatMap (one 8 p) := by unfold two; rw [if_neg (by decide)]
    rw [e] at hout ⊢
    exact twoR8_any ok x y A B w hx hy (by omega) (by omega) hrow hout

/-- What the document's Traces, and Pairs, tell of a tree. -/
def RT (l : List Nd) : Prop := ∀ (v : Value) (w : World), Nds w v l → Calls Tryz.prog 37 #[v] w (OutT none' (Mt l) w)
def RP (l : List Nd) : Prop := ∀ (v : Value) (w : World), Nds w v l → Calls Tryz.prog 41 #[v] w (OutP none' (Mp l) w)
theorem ts_new {ok : Nat → Prop} {w : World} {a : Value} {t : Tr} (ty : TypeId) (hB : ok w.heap.size) (hs : StrsO ok w a t.a) : TsO ok (w.alloc (.cells #[a, .int .i64 t.e] ty)) (.slice (some ⟨w.heap.size, 0, none⟩) 1 1) [t] :=
  ts_one (by simp) (by simp) hB (so_below hs (bel1 _ _))
theorem strsO_new1 (w : World) (x : ByteArray) (ty : TypeId) : StrsO (fun b => w.heap.size ≤ b) (w.alloc (.cells #[.string x] ty)) (.slice (some ⟨w.heap.size, 0, none⟩) 1 1) [x] :=
  ⟨rfl, _, 1, rfl, Nat.le_refl _, fun h => (by cases h), fun _ => ⟨w.heap.size, 0, rfl, Nat.le_refl _, by simp, fun j u hu => by
    match j, hu with
    | 0, hu => simp at hu; subst hu; simp
    | j + 1, hu => simp at hu⟩⟩
/-- In blocks that were made since. -/
abbrev Fr (w : World) (b : Nat) : Prop := w.heap.size ≤ b
theorem TsO.fr {w wc w1 : World} {v : Value} {l : List Tr} (h : TsO (fun b => none' b ∨ wc.heap.size ≤ b) w1 v l) (hs : w.heap.size ≤ wc.heap.size) : TsO (Fr w) w1 v l := h.imp fun _ _ h => h.elim (fun h => h.elim) fun h => Nat.le_trans hs h
theorem TsO.fr2 {w wc w1 : World} {v : Value} {l : List Tr} (h : TsO (fun b => Fr w b ∨ wc.heap.size ≤ b) w1 v l) (hs : w.heap.size ≤ wc.heap.size) : TsO (Fr w) w1 v l := h.imp fun _ _ h => h.elim id fun h => Nat.le_trans hs h
theorem TsO.told {w w1 : World} {v : Value} {l : List Tr} (h : TsO (Fr w) w1 v l) : TsO (fun b => none' b ∨ w.heap.size ≤ b) w1 v l := h.imp fun _ _ h => .inr h
theorem PsO.fr {w wc w1 : World} {v : Value} {l : List Pr} (h : PsO (fun b => none' b ∨ wc.heap.size ≤ b) w1 v l) (hs : w.heap.size ≤ wc.heap.size) : PsO (Fr w) w1 v l := h.imp fun _ _ h => h.elim (fun h => h.elim) fun h => Nat.le_trans hs h
theorem PsO.fr2 {w wc w1 : World} {v : Value} {l : List Pr} (h : PsO (fun b => Fr w b ∨ wc.heap.size ≤ b) w1 v l) (hs : w.heap.size ≤ wc.heap.size) : PsO (Fr w) w1 v l := h.imp fun _ _ h => h.elim id fun h => Nat.le_trans hs h
theorem PsO.told {w w1 : World} {v : Value} {l : List Pr} (h : PsO (Fr w) w1 v l) : PsO (fun b => none' b ∨ w.heap.size ≤ b) w1 v l := h.imp fun _ _ h => .inr h

set_option maxHeartbeats 4000000 in
theorem traces_step (k : Int) (nm' : ByteArray) (sg' : Int) (rest : List Nd) (v : Value) (w : World) (hv : Nds w v ((⟨k, nm', sg'⟩ : Nd) :: rest)) (ht : So.Tre ((⟨k, nm', sg'⟩ : Nd) :: rest)) (hi : So.Is 3 ((⟨k, nm', sg'⟩ : Nd) :: rest) = true)
    (h24 : ((⟨k, nm', sg'⟩ : Nd) :: rest).length ≤ 24) (h6 : acs ((⟨k, nm', sg'⟩ : Nd) :: rest) ≤ 6) (ihT : ∀ a ∈ Rw.kids ((⟨k, nm', sg'⟩ : Nd) :: rest), So.Is 3 a = true → RT a) (ihP : ∀ a ∈ Rw.kids ((⟨k, nm', sg'⟩ : Nd) :: rest), So.Is 4 a = true → RP a) :
    Calls Tryz.prog 37 #[v] w (OutT none' (Mt ((⟨k, nm', sg'⟩ : Nd) :: rest)) w) := by
  have HK := Lib.hid (Rw.kidsR_any v ((⟨k, nm', sg'⟩ : Nd) :: rest) w hv (by simp at h24 ⊢; omega))
  rcases Rw.Nds.form hv with ⟨h0, _⟩ | ⟨b, o, c, rfl, hc, hat⟩
  · cases h0
  obtain ⟨e0, e1, e2⟩ := hat 0 (by simp)
  simp only [List.getElem_cons_zero, Nat.zero_mul, Nat.add_zero] at e0 e1 e2
  obtain ⟨n, hn⟩ : ∃ n, ((⟨k, nm', sg'⟩ : Nd) :: rest).length = n + 1 := ⟨rest.length, by simp⟩
  rw [hn] at HK hc ⊢
  have hbl : b < w.heap.size := Ap.cell_lt e0
  obtain ⟨ks, hks⟩ : ∃ ks, Rw.kids ((⟨k, nm', sg'⟩ : Nd) :: rest) = ks := ⟨_, rfl⟩
  rw [hks] at HK
  have HKS := Lib.hid hks
  have IT := Lib.hid ihT
  have IP := Lib.hid ihP
  have hn24 : n ≤ 23 := by omega
  have HT := Lib.hid ht
  have HI := Lib.hid hi
  have H24 := Lib.hid h24
  have H6 := Lib.hid h6
  obtain ⟨L, hL⟩ : ∃ L, Mt ((⟨k, nm', sg'⟩ : Nd) :: rest) = L := ⟨_, rfl⟩
  rw [hL]
  have HL := Lib.hid hL
  have SW : Hid (∀ w1, Below w.heap.size w w1 → w1.cell? ⟨b, o, none⟩ = some (.int .i64 k) ∧ w1.cell? ⟨b, o + 1, none⟩ = some (.string nm') ∧ w1.cell? ⟨b, o + 2, none⟩ = some (.int .i64 sg')) := Lib.hid fun w1 hb => ⟨by rw [hb.cell (p := ⟨b, o, none⟩) hbl]; exact e0, by rw [hb.cell (p := ⟨b, o + 1, none⟩) hbl]; exact e1, by rw [hb.cell (p := ⟨b, o + 2, none⟩) hbl]; exact e2⟩
  unfold OutT
  clear hv hat hn hks ihT ihP ht hi h24 h6 hL e0 e1 e2
  go_enter Tryz.func37, Tryz.ntmps37
  go_wp2_with fail
  refine HK.out.mono ?_
  rintro e wc ⟨yk, rfl, hks, hbel⟩
  have BB := Lib.hid hbel
  have KS := Lib.hid hks
  obtain ⟨x0, x1, x2⟩ := SW.out _ hbel
  have hblc : b < wc.heap.size := Nat.lt_of_lt_of_le hbl hbel.size
  obtain ⟨eT, _⟩ := M_eq HT.out.pos
  have ET := Lib.hid eT
  clear eT HK hbl
  have hsh := shape3 HT.out HI.out
  have hhd : So.hd ((⟨k, nm', sg'⟩ : Nd) :: rest) = k := rfl
  rw [hhd] at hsh
  clear hhd
  rcases hsh with ⟨_, hk | hk | hk | hk | hk⟩ | ⟨hk, hi4⟩ | ⟨hk, hi0, hi1, hi8⟩
  · subst hk
    have HLL : Hid (L = [⟨[nm'], 1⟩]) := Lib.hid (HL.out.symm.trans (ET.out.trans (stepT_1 rfl)))
    obtain ⟨_, ⟨_, ak, ck, rfl, -⟩, _⟩ := hks
    clear hbel
    go_wp2_with fail
    go_ret
    rw [HLL.out]
    exact ⟨_, _, rfl, ts_one (t := ⟨[nm'], 1⟩) (by simp [go_sem]) (by simp [go_sem]) (.inr (by have := BB.out.size; omega)) (so_below (so_imp (strsO_new1 wc nm' _) fun _ _ h => .inr (Nat.le_trans BB.out.size h)) (bel1 _ _)), (BB.out.alloc BB.out.size _).alloc (by have := BB.out.size; simp; omega) _⟩
  · subst hk
    have HLL : Hid (L = [tick]) := Lib.hid (HL.out.symm.trans (ET.out.trans (stepT_2l rfl)))
    go_wp2_with fail
    refine (endsR_any 1 _).mono ?_
    rintro e w1 ⟨rfl, hb1⟩
    have B1 := Lib.hid (BB.out.trans (hb1.mono BB.out.size))
    clear hb1 hbel
    go_wp2_with fail
    go_ret
    rw [HLL.out]
    exact ⟨_, _, rfl, ts_new (t := tick) _ (.inr B1.out.size) (so_nil _ _), B1.out.alloc B1.out.size _⟩
  · subst hk
    have HLL : Hid (L = [bang]) := Lib.hid (HL.out.symm.trans (ET.out.trans (stepT_3 rfl)))
    go_wp2_with fail
    refine (endsR_any 2 _).mono ?_
    rintro e w1 ⟨rfl, hb1⟩
    have B1 := Lib.hid (BB.out.trans (hb1.mono BB.out.size))
    clear hb1 hbel
    go_wp2_with fail
    go_ret
    rw [HLL.out]
    exact ⟨_, _, rfl, ts_new (t := bang) _ (.inr B1.out.size) (so_nil _ _), B1.out.alloc B1.out.size _⟩
  · subst hk
    have HLL : Hid (L = [tick, ⟨[], 3⟩]) := Lib.hid (HL.out.symm.trans (ET.out.trans (stepT_4 rfl)))
    go_wp2_with fail
    refine (endsR_any 1 _).mono ?_
    rintro e w1 ⟨rfl, hb1⟩
    have B1 := Lib.hid (BB.out.trans (hb1.mono BB.out.size))
    clear hb1 hbel
    go_wp2_with fail
    refine (endsR_any 3 _).mono ?_
    rintro e w2 ⟨rfl, hb2⟩
    have B2 := Lib.hid (B1.out.trans (hb2.mono B1.out.size))
    clear hb2
    go_wp2_with fail
    go_ret
    rw [HLL.out]
    exact ⟨_, _, rfl, ts_two (by simp [go_sem]) (by simp [go_sem]; rfl) (by simp [go_sem]) (by simp [go_sem]) (.inr B2.out.size) (so_nil _ _) (so_nil _ _), B2.out.alloc B2.out.size _⟩
  · subst hk
    have HLL : Hid (L = [(⟨[], sg'⟩ : Tr)]) := Lib.hid (HL.out.symm.trans (ET.out.trans (stepT_11 rfl)))
    go_wp2_with fail
    refine (endsR_any sg' _).mono ?_
    rintro e w1 ⟨rfl, hb1⟩
    have B1 := Lib.hid (BB.out.trans (hb1.mono BB.out.size))
    clear hb1 hbel
    go_wp2_with fail
    go_ret
    rw [HLL.out]
    exact ⟨_, _, rfl, ts_new (t := ⟨[], sg'⟩) _ (.inr B1.out.size) (so_nil _ _), B1.out.alloc B1.out.size _⟩
  · obtain ⟨a, hka, ek0, hta, hla, hca, hra⟩ := cut1 HT.out (by show Rw.ar k = 1; rw [hk]; rfl)
    subst hk
    rw [ek0] at hi4
    have HLL : Hid (L = norm (blk (Mp a))) := Lib.hid (HL.out.symm.trans (ET.out.trans ((stepT_9 rfl).trans (by rw [ek0]))))
    have hks' := HKS.out.symm.trans hka
    rw [hks'] at KS
    have QA := Lib.hid (IP.out a (by rw [hka]; simp) hi4)
    have GA := Lib.hid (gp hta hi4)
    have HLA := Lib.hid hla
    have HCA := Lib.hid (hca all)
    rcases rws_form KS.out with ⟨h0, _⟩ | ⟨b2, o2, c2, rfl, hat⟩
    · cases h0
    obtain ⟨y0, q0, n0⟩ := hat 0 (by simp)
    simp only [List.getElem_cons_zero, Nat.add_zero] at q0 n0
    have N0 := Lib.hid n0
    clear hat hks' hka ek0 hta hla hca hra hi4 n0 hks KS HKS hbel
    have ha24 : a.length ≤ 23 := by have := HLA.out; have := H24.out; omega
    have ha6 : acs a ≤ 6 := by have := HCA.out; have := H6.out; unfold acs at *; omega
    have LA : Hid ((Mp a).length ≤ 1000000000000) := Lib.hid (Nat.le_trans GA.out.len (Nat.le_trans (K_last (by omega) ha6) (by omega)))
    have LB : Hid ((blk (Mp a)).length ≤ 1000000000000) := Lib.hid (Nat.le_trans (blk_len GA.out.len) (Nat.le_trans (K_last (by omega) ha6) (by omega)))
    have LR : Hid (∀ x ∈ Mp a, x.p.a.length + x.q.a.length ≤ 1000000) := Lib.hid fun x hx => Nat.le_trans ((GA.out.cnt all).len hx) (by unfold acs at ha6; omega)
    have LS : Hid (∀ t ∈ blk (Mp a), t.a.length ≤ 1000000) := Lib.hid fun t ht => by have := (blk_ct (GA.out.cnt all)).len ht; unfold acs at ha6; omega
    clear ha24 ha6
    have QA' := Lib.hid (QA.out y0 wc N0.out)
    have CB := Lib.hid (fun y w1 (h : PsO (Fr w) w1 y (Mp a)) => blockR_any (Fr w) y (Mp a) w1 h LA.out LR.out LB.out)
    have CS := Lib.hid (fun y w1 (h : TsO (Fr w) w1 y (blk (Mp a))) => setTR_any _ (Fr w) y (blk (Mp a)) w1 (Nat.le_refl _) LB.out h LS.out)
    obtain ⟨X, hX⟩ : ∃ X, Mp a = X := ⟨_, rfl⟩
    rw [hX] at HLL QA' CB CS
    obtain ⟨M, hM⟩ : ∃ M, blk X = M := ⟨_, rfl⟩
    rw [hM] at HLL CB CS
    clear hM hX QA GA LA LB LR LS
    go_wp2_with fail
    refine QA'.out.mono ?_
    rintro e w1 ⟨a1, n1, rfl, ht1, hb1⟩
    have B1 := Lib.hid (BB.out.trans (hb1.mono BB.out.size))
    have T1 := Lib.hid (ht1.fr BB.out.size)
    clear ht1 hb1
    go_wp2_with fail
    refine (CB.out _ _ T1.out).mono ?_
    rintro e w2 ⟨a2, n2, rfl, ht2, hb2⟩
    have B2 := Lib.hid (B1.out.trans (hb2.mono B1.out.size))
    have T2 := Lib.hid (ht2.fr2 B1.out.size)
    clear ht2 hb2
    go_wp2_with fail
    refine (CS.out _ _ T2.out).mono ?_
    rw [← HLL.out]
    rintro e w3 ⟨a3, n3, rfl, ht3, hb3⟩
    have B3 := Lib.hid (B2.out.trans (hb3.mono B2.out.size))
    have T3 := Lib.hid (ht3.fr2 B2.out.size)
    clear ht3 hb3
    go_wp2_with fail
    go_ret
    exact ⟨_, _, rfl, T3.out.told, B3.out⟩
  · obtain ⟨a, a', hka, ek0, ek1, hta, htb, hla, hca, hra⟩ := cut2 HT.out (by show Rw.ar k = 2; rcases hk with hk | hk | hk | hk <;> rw [hk] <;> rfl)
    rw [ek0] at hi0
    rw [ek1] at hi1 hi8
    have HLL : Hid (L = norm (two k (Mt a) (Mt a'))) := Lib.hid (HL.out.symm.trans (ET.out.trans ((stepT_2 (l := (⟨k, nm', sg'⟩ : Nd) :: rest) hk).trans (by rw [ek0, ek1]; rfl))))
    have hks' := HKS.out.symm.trans hka
    rw [hks'] at KS
    have QA := Lib.hid (IT.out a (by rw [hka]; simp) hi0)
    have QB := Lib.hid (IT.out a' (by rw [hka]; simp) hi1)
    have GA := Lib.hid (gt hta hi0)
    have GB := Lib.hid (gt htb hi1)
    have HLA := Lib.hid hla
    have HCA := Lib.hid (hca all)
    have hb6 : acs a + acs a' ≤ 6 := by have := HCA.out; have := H6.out; unfold acs at *; omega
    rcases rws_form KS.out with ⟨h0, _⟩ | ⟨b2, o2, c2, rfl, hat⟩
    · cases h0
    obtain ⟨y0, q0, n0⟩ := hat 0 (by simp)
    obtain ⟨y1, q1, n1⟩ := hat 1 (by simp)
    simp only [List.getElem_cons_zero, List.getElem_cons_succ, Nat.add_zero] at q0 n0 q1 n1
    have hb2l : b2 < wc.heap.size := Ap.cell_lt q0
    have N0 := Lib.hid n0
    have N1 := Lib.hid n1
    have ha24 : a.length + a'.length ≤ 23 := by have := HLA.out; have := H24.out; omega
    have LA : Hid ((Mt a).length + (Mt a').length ≤ 1000000000000) := Lib.hid (by
      have h1 := Nat.le_trans GA.out.len (K_last (by omega) (by omega))
      have h2 := Nat.le_trans GB.out.len (K_last (by omega) (by omega))
      omega)
    have LB : Hid ((two k (Mt a) (Mt a')).length ≤ 1000000000000) := Lib.hid (Nat.le_trans (two_len (GA.out.cnt all) (GB.out.cnt all) GA.out.len GB.out.len) (Nat.le_trans (K_last (by omega) hb6) (by omega)))
    have LR : Hid (∀ t ∈ Mt a, ∀ u ∈ Mt a', t.a.length + u.a.length ≤ 9) := Lib.hid fun t ht u hu => by
      have h1 := (GA.out.cnt all).len ht
      have h2 := (GB.out.cnt all).len hu
      unfold acs at hb6
      omega
    have LU : Hid (∀ t ∈ two k (Mt a) (Mt a'), t.a.length ≤ 1000000) := Lib.hid fun t ht => by
      have h2 := (two_ct (GA.out.cnt all) (GB.out.cnt all)).len ht
      unfold acs at hb6
      omega
    have PT' := Lib.hid (fun y y' w1 h1 h2 => twoR_any (Fr w) k hk y y' (Mt a) (Mt a') w1 h1 h2 LA.out LR.out LB.out)
    have CS := Lib.hid (fun y w1 (h : TsO (Fr w) w1 y (two k (Mt a) (Mt a'))) => setTR_any _ (Fr w) y (two k (Mt a) (Mt a')) w1 (Nat.le_refl _) LB.out h LU.out)
    have QA' := Lib.hid (fun w1 (hb : Below wc.heap.size wc w1) => QA.out y0 w1 (N0.out.below hb))
    have QB' := Lib.hid (fun w1 (hb : Below wc.heap.size wc w1) => QB.out y1 w1 (N1.out.below hb))
    generalize two k (Mt a) (Mt a') = M at HLL PT' CS
    generalize Mt a = A1 at QA' PT'
    generalize Mt a' = A2 at QB' PT'
    have g1 : (k == 1) = false := by rcases hk with rfl | rfl | rfl | rfl <;> rfl
    have g2 : (k == 2) = false := by rcases hk with rfl | rfl | rfl | rfl <;> rfl
    have g3 : (k == 3) = false := by rcases hk with rfl | rfl | rfl | rfl <;> rfl
    have g4 : (k == 4) = false := by rcases hk with rfl | rfl | rfl | rfl <;> rfl
    have g11 : (k == 11) = false := by rcases hk with rfl | rfl | rfl | rfl <;> rfl
    have g9 : (k == 9) = false := by rcases hk with rfl | rfl | rfl | rfl <;> rfl
    clear hat hks' hka ek0 ek1 hta htb hla hca hra hi0 hi1 hi8 n0 n1 hks KS HKS ha24 hb6 hk LA LB LR LU GA GB QA QB HT HI ET HL IT IP HCA HLA H24 H6 hbel
    have SS : Hid (∀ w1, Below wc.heap.size wc w1 → w1.cell? ⟨b, o, none⟩ = some (.int .i64 k) ∧ w1.cell? ⟨b2, o2, none⟩ = some y0 ∧ w1.cell? ⟨b2, o2 + 1, none⟩ = some y1) := Lib.hid fun w1 hb => ⟨by rw [hb.cell (p := ⟨b, o, none⟩) hblc]; exact x0, by rw [hb.cell (p := ⟨b2, o2, none⟩) hb2l]; exact q0, by rw [hb.cell (p := ⟨b2, o2 + 1, none⟩) hb2l]; exact q1⟩
    go_wp2_with fail
    go_region_held3 (fun w' => w'.cell? ⟨b, o, none⟩ = some (.int .i64 k) ∧ w'.cell? ⟨b2, o2, none⟩ = some y0 ∧ w'.cell? ⟨b2, o2 + 1, none⟩ = some y1) (first | exact SS.out _ (Below.refl _ _).drew | exact SS.out _ D1.out | exact SS.out _ D2.out | exact SS.out _ D3.out | exact SS.out _ D4.out | fail) (first
      | (go_at_call 37
         (with_reducible refine (QA'.out _ (Below.refl _ _).drew).mono ?_)
         rintro e w1 ⟨a1, n1, rfl, ht1, hb1⟩
         have D1 := Lib.hid ((Below.refl wc.heap.size wc).drew.trans hb1)
         have TA := Lib.hid (ht1.fr BB.out.size)
         clear ht1 hb1)
      | (go_at_call 37
         (with_reducible refine (QB'.out _ D1.out).mono ?_)
         rintro e w2 ⟨a2, n2, rfl, ht2, hb2⟩
         have D2 := Lib.hid (D1.out.trans (hb2.mono D1.out.size))
         have TB := Lib.hid (ht2.fr (Nat.le_trans BB.out.size D1.out.size))
         have TA2 := Lib.hid (TA.out.below hb2)
         clear ht2 hb2)
      | (go_at_call 68
         (with_reducible refine (PT'.out _ _ _ TA2.out TB.out).mono ?_)
         rintro e w3 ⟨a3, n3, rfl, ht3, hb3⟩
         have D3 := Lib.hid (D2.out.trans (hb3.mono D2.out.size))
         have TC := Lib.hid (ht3.fr2 (Nat.le_trans BB.out.size D2.out.size))
         clear ht3 hb3)
      | (go_at_call 45
         (with_reducible refine (CS.out _ _ TC.out).mono ?_)
         rw [← HLL.out]
         rintro e w4 ⟨a4, n4, rfl, ht4, hb4⟩
         have D4 := Lib.hid (D3.out.trans (hb4.mono D3.out.size))
         have T4 := Lib.hid (ht4.fr2 (Nat.le_trans BB.out.size D3.out.size))
         clear ht4 hb4)
      | fail)
    go_wp2_with fail
    go_ret
    exact ⟨_, _, rfl, T4.out.told, BB.out.trans (D4.out.mono BB.out.size)⟩
end Go.Proofs.YtghnonbcojbohaaGreatDoor.Mn
