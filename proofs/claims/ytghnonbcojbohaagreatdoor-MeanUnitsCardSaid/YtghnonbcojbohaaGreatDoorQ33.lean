/- The document's Pairs: the walk of one node. -/
import Derived.Test.YtghnonbcojbohaaGreatDoorQ31
import Derived.Test.YtghnonbcojbohaaGreatDoorQ22
import Derived.Test.YtghnonbcojbohaaGreatDoorQ23
import Derived.Test.YtghnonbcojbohaaGreatDoorQ20

namespace Go.Proofs.YtghnonbcojbohaaGreatDoor.Mn
open Go Go.RowKit Tr
open Rw (Nd Nds)
set_option maxRecDepth 20000

set_option maxHeartbeats 4000000 in
theorem pairs_5 (k : Int) (nm' : ByteArray) (sg' : Int) (rest : List Nd) (v : Value) (w : World) (hk : k = 5) (hv : Nds w v ((⟨k, nm', sg'⟩ : Nd) :: rest)) (ht : So.Tre ((⟨k, nm', sg'⟩ : Nd) :: rest)) (hi : So.Is 4 ((⟨k, nm', sg'⟩ : Nd) :: rest) = true)
    (h24 : ((⟨k, nm', sg'⟩ : Nd) :: rest).length ≤ 24) (h6 : acs ((⟨k, nm', sg'⟩ : Nd) :: rest) ≤ 6) (ihT : ∀ a ∈ Rw.kids ((⟨k, nm', sg'⟩ : Nd) :: rest), So.Is 3 a = true → RT a) (ihP : ∀ a ∈ Rw.kids ((⟨k, nm', sg'⟩ : Nd) :: rest), So.Is 4 a = true → RP a) :
    Calls Tryz.prog 41 #[v] w (OutP none' (Mp ((⟨k, nm', sg'⟩ : Nd) :: rest)) w) := by
  have HK := Lib.hid (Rw.kidsR_any v ((⟨k, nm', sg'⟩ : Nd) :: rest) w hv (by simp at h24 ⊢; omega))
  rcases Rw.Nds.form hv with ⟨h0, _⟩ | ⟨b, o, c, rfl, hc, hat⟩
  · cases h0
  obtain ⟨e0, e1, e2⟩ := hat 0 (by simp)
  simp only [List.getElem_cons_zero, Nat.zero_mul, Nat.add_zero] at e0 e1 e2
  obtain ⟨n, hn⟩ : ∃ n, ((⟨k, nm', sg'⟩ : Nd) :: rest).length = n + 1 := ⟨rest.length, by simp⟩
  rw [hn] at HK hc ⊢
  have hbl : b < w.heap.size := Ap.cell_lt e0
  obtain ⟨ks, hks⟩ : ∃ ks, Rw.kids ((⟨k, nm', sg'⟩ : Nd) :: rest) = ks := ⟨_, rfl⟩
  rw [hks] at HK
  have HKS := Lib.hid hks
  have IT := Lib.hid ihT
  have IP := Lib.hid ihP
  have hn24 : n ≤ 23 := by omega
  have HT := Lib.hid ht
  have HI := Lib.hid hi
  have H24 := Lib.hid h24
  have H6 := Lib.hid h6
  obtain ⟨L, hL⟩ : ∃ L, Mp ((⟨k, nm', sg'⟩ : Nd) :: rest) = L := ⟨_, rfl⟩
  rw [hL]
  have HL := Lib.hid hL
  have SW : Hid (∀ w1, Below w.heap.size w w1 → w1.cell? ⟨b, o, none⟩ = some (.int .i64 k) ∧ w1.cell? ⟨b, o + 1, none⟩ = some (.string nm') ∧ w1.cell? ⟨b, o + 2, none⟩ = some (.int .i64 sg')) := Lib.hid fun w1 hb => ⟨by rw [hb.cell (p := ⟨b, o, none⟩) hbl]; exact e0, by rw [hb.cell (p := ⟨b, o + 1, none⟩) hbl]; exact e1, by rw [hb.cell (p := ⟨b, o + 2, none⟩) hbl]; exact e2⟩
  unfold OutP
  clear hv hat hn hks ihT ihP ht hi h24 h6 hL e0 e1 e2
  go_enter Tryz.func41, Tryz.ntmps41
  go_wp2_with fail
  refine HK.out.mono ?_
  rintro e wc ⟨yk, rfl, hks, hbel⟩
  have BB := Lib.hid hbel
  have KS := Lib.hid hks
  obtain ⟨x0, x1, x2⟩ := SW.out _ hbel
  have hblc : b < wc.heap.size := Nat.lt_of_lt_of_le hbl hbel.size
  obtain ⟨_, eT⟩ := M_eq HT.out.pos
  have ET := Lib.hid eT
  clear eT HK hbl
  have hsh := shape4 HT.out HI.out
  have hhd : So.hd ((⟨k, nm', sg'⟩ : Nd) :: rest) = k := rfl
  rw [hhd] at hsh
  clear hhd
  subst hk
  have hii : So.Is 4 (So.k0 ((⟨5, nm', sg'⟩ : Nd) :: rest)) = true ∧ So.Is 4 (So.k1 ((⟨5, nm', sg'⟩ : Nd) :: rest)) = true := by
    rcases hsh with ⟨hk, hi0, hi1⟩ | ⟨hk, hi0, hi1⟩ | ⟨hk, hi0, hi1⟩ | ⟨hk, hi0⟩
    all_goals first | exact absurd hk (by decide) | exact ⟨hi0, hi1⟩
  clear hsh
  obtain ⟨a, a', hka, ek0, ek1, hta, htb, hla, hca, hra⟩ := cut2 HT.out (by show Rw.ar 5 = 2; rfl)
  obtain ⟨hi0, hi1⟩ := hii
  rw [ek0] at hi0
  rw [ek1] at hi1
  have HLL : Hid (L = pnorm (seq (Mp a) (Mp a'))) := Lib.hid (HL.out.symm.trans (ET.out.trans ((stepP_2 (l := (⟨5, nm', sg'⟩ : Nd) :: rest) (.inl rfl)).trans (by rw [ek0, ek1] <;> rfl))))
  have hks' := HKS.out.symm.trans hka
  rw [hks'] at KS
  have QA := Lib.hid (IP.out a (by rw [hka]; simp) hi0)
  have QB := Lib.hid (IP.out a' (by rw [hka]; simp) hi1)
  have GA := Lib.hid (gp hta hi0)
  have GB := Lib.hid (gp htb hi1)
  have HLA := Lib.hid hla
  have HCA := Lib.hid (hca all)
  have hb6 : acs a + acs a' ≤ 6 := by have := HCA.out; have := H6.out; unfold acs at *; omega
  rcases rws_form KS.out with ⟨h0, _⟩ | ⟨b2, o2, c2, rfl, hat⟩
  · cases h0
  obtain ⟨y0, q0, n0⟩ := hat 0 (by simp)
  obtain ⟨y1, q1, n1⟩ := hat 1 (by simp)
  simp only [List.getElem_cons_zero, List.getElem_cons_succ, Nat.add_zero] at q0 n0 q1 n1
  have hb2l : b2 < wc.heap.size := Ap.cell_lt q0
  have N0 := Lib.hid n0
  have N1 := Lib.hid n1
  have ha24 : a.length + a'.length ≤ 23 := by have := HLA.out; have := H24.out; omega
  have LX : Hid ((Mp a).length + (Mp a').length ≤ 1000000000000) := Lib.hid (by
    have h1 := Nat.le_trans GA.out.len (K_last (by omega) (by omega))
    have h2 := Nat.le_trans GB.out.len (K_last (by omega) (by omega))
    omega)
  have LZ : Hid ((seq (Mp a) (Mp a')).length ≤ 1000000000000) := Lib.hid (Nat.le_trans (seq_len GA.out.len GB.out.len) (Nat.le_trans (K_last (by omega) hb6) (by omega)))
  have LU : Hid (∀ t ∈ seq (Mp a) (Mp a'), t.p.a.length ≤ 1000000 ∧ t.q.a.length ≤ 1000000) := Lib.hid fun t ht => by
    have h2 := (seq_cp (GA.out.cnt all) (GB.out.cnt all)).len ht
    unfold acs at hb6
    omega
  have LR : Hid (∀ x ∈ Mp a, ∀ y ∈ Mp a', x.p.a.length + y.p.a.length ≤ 1000000 ∧ y.q.a.length + x.q.a.length ≤ 1000000) := Lib.hid (fun x hx y hy => by
    have h1 := (GA.out.cnt all).len hx
    have h2 := (GB.out.cnt all).len hy
    unfold acs at hb6
    omega)
  have PT' := Lib.hid (fun x y w1 h1 h2 => seqR_any (Fr w) x y (Mp a) (Mp a') w1 h1 h2 (by have := LX.out; omega) (by have := LX.out; omega) LR.out LZ.out)
  have CS := Lib.hid (fun y w1 (h : PsO (Fr w) w1 y (seq (Mp a) (Mp a'))) => setPR_any _ (Fr w) y (seq (Mp a) (Mp a')) w1 (Nat.le_refl _) LZ.out h LU.out)
  have QA' := Lib.hid (fun w1 (hb : Below wc.heap.size wc w1) => QA.out y0 w1 (N0.out.below hb))
  have QB' := Lib.hid (fun w1 (hb : Below wc.heap.size wc w1) => QB.out y1 w1 (N1.out.below hb))
  generalize Mp a = A1 at *
  generalize Mp a' = A2 at *
  obtain ⟨M, hM⟩ : ∃ M, seq A1 A2 = M := ⟨_, rfl⟩
  rw [hM] at HLL PT' CS LZ
  clear hM
  clear hat hks' hka ek0 ek1 hta htb hla hca hra hi0 hi1 n0 n1 hks KS HKS ha24 hb6 LR LU GA GB QA QB HT HI ET HL IT IP HCA HLA H24 H6 hbel
  have SS : Hid (∀ w1, Below wc.heap.size wc w1 → w1.cell? ⟨b2, o2, none⟩ = some y0 ∧ w1.cell? ⟨b2, o2 + 1, none⟩ = some y1) := Lib.hid fun w1 hb => ⟨by rw [hb.cell (p := ⟨b2, o2, none⟩) hb2l]; exact q0, by rw [hb.cell (p := ⟨b2, o2 + 1, none⟩) hb2l]; exact q1⟩
  go_wp2_with fail
  go_region_held3 (fun w' => w'.cell? ⟨b2, o2, none⟩ = some y0 ∧ w'.cell? ⟨b2, o2 + 1, none⟩ = some y1) (first | exact SS.out _ (Below.refl _ _).drew | exact SS.out _ D1.out | exact SS.out _ D2.out | exact SS.out _ D3.out | exact SS.out _ D4.out | fail) (first
    | (go_at_call 41
       (with_reducible refine (QA'.out _ (Below.refl _ _).drew).mono ?_)
       rintro e w1 ⟨a1, n1, rfl, ht1, hb1⟩
       have D1 := Lib.hid ((Below.refl wc.heap.size wc).drew.trans hb1)
       have TA := Lib.hid (ht1.fr BB.out.size)
       clear ht1 hb1)
    | (go_at_call 41
       (with_reducible refine (QB'.out _ D1.out).mono ?_)
       rintro e w2 ⟨a2, n2, rfl, ht2, hb2⟩
       have D2 := Lib.hid (D1.out.trans (hb2.mono D1.out.size))
       have TB := Lib.hid (ht2.fr (Nat.le_trans BB.out.size D1.out.size))
       have TA2 := Lib.hid (TA.out.below hb2)
       clear ht2 hb2)
    | (go_at_call 77
       (with_reducible refine (PT'.out _ _ _ TA2.out TB.out).mono ?_)
       rintro e w3 ⟨a3, n3, rfl, ht3, hb3⟩
       have D3 := Lib.hid (D2.out.trans (hb3.mono D2.out.size))
       have TC := Lib.hid (ht3.fr2 (Nat.le_trans BB.out.size D2.out.size))
       clear ht3 hb3)
    | (go_at_call 75
       (with_reducible refine (CS.out _ _ TC.out).mono ?_)
       rw [← HLL.out]
       rintro e w4 ⟨a4, n4, rfl, ht4, hb4⟩
       have D4 := Lib.hid (D3.out.trans (hb4.mono D3.out.size))
       have T4 := Lib.hid (ht4.fr2 (Nat.le_trans BB.out.size D3.out.size))
       clear ht4 hb4)
    | fail)
  go_wp2_with fail
  go_ret
  exact ⟨_, _, rfl, T4.out.told, BB.out.trans (D4.out.mono BB.out.size)⟩

set_option maxHeartbeats 4000000 in
theorem pairs_7 (k : Int) (nm' : ByteArray) (sg' : Int) (rest : List Nd) (v : Value) (w : World) (hk : k = 7) (hv : Nds w v ((⟨k, nm', sg'⟩ : Nd) :: rest)) (ht : So.Tre ((⟨k, nm', sg'⟩ : Nd) :: rest)) (hi : So.Is 4 ((⟨k, nm', sg'⟩ : Nd) :: rest) = true)
    (h24 : ((⟨k, nm', sg'⟩ : Nd) :: rest).length ≤ 24) (h6 : acs ((⟨k, nm', sg'⟩ : Nd) :: rest) ≤ 6) (ihT : ∀ a ∈ Rw.kids ((⟨k, nm', sg'⟩ : Nd) :: rest), So.Is 3 a = true → RT a) (ihP : ∀ a ∈ Rw.kids ((⟨k, nm', sg'⟩ : Nd) :: rest), So.Is 4 a = true → RP a) :
    Calls Tryz.prog 41 #[v] w (OutP none' (Mp ((⟨k, nm', sg'⟩ : Nd) :: rest)) w) := by
  have HK := Lib.hid (Rw.kidsR_any v ((⟨k, nm', sg'⟩ : Nd) :: rest) w hv (by simp at h24 ⊢; omega))
  rcases Rw.Nds.form hv with ⟨h0, _⟩ | ⟨b, o, c, rfl, hc, hat⟩
  · cases h0
  obtain ⟨e0, e1, e2⟩ := hat 0 (by simp)
  simp only [List.getElem_cons_zero, Nat.zero_mul, Nat.add_zero] at e0 e1 e2
  obtain ⟨n, hn⟩ : ∃ n, ((⟨k, nm', sg'⟩ : Nd) :: rest).length = n + 1 := ⟨rest.length, by simp⟩
  rw [hn] at HK hc ⊢
  have hbl : b < w.heap.size := Ap.cell_lt e0
  obtain ⟨ks, hks⟩ : ∃ ks, Rw.kids ((⟨k, nm', sg'⟩ : Nd) :: rest) = ks := ⟨_, rfl⟩
  rw [hks] at HK
  have HKS := Lib.hid hks
  have IT := Lib.hid ihT
  have IP := Lib.hid ihP
  have hn24 : n ≤ 23 := by omega
  have HT := Lib.hid ht
  have HI := Lib.hid hi
  have H24 := Lib.hid h24
  have H6 := Lib.hid h6
  obtain ⟨L, hL⟩ : ∃ L, Mp ((⟨k, nm', sg'⟩ : Nd) :: rest) = L := ⟨_, rfl⟩
  rw [hL]
  have HL := Lib.hid hL
  have SW : Hid (∀ w1, Below w.heap.size w w1 → w1.cell? ⟨b, o, none⟩ = some (.int .i64 k) ∧ w1.cell? ⟨b, o + 1, none⟩ = some (.string nm') ∧ w1.cell? ⟨b, o + 2, none⟩ = some (.int .i64 sg')) := Lib.hid fun w1 hb => ⟨by rw [hb.cell (p := ⟨b, o, none⟩) hbl]; exact e0, by rw [hb.cell (p := ⟨b, o + 1, none⟩) hbl]; exact e1, by rw [hb.cell (p := ⟨b, o + 2, none⟩) hbl]; exact e2⟩
  unfold OutP
  clear hv hat hn hks ihT ihP ht hi h24 h6 hL e0 e1 e2
  go_enter Tryz.func41, Tryz.ntmps41
  go_wp2_with fail
  refine HK.out.mono ?_
  rintro e wc ⟨yk, rfl, hks, hbel⟩
  have BB := Lib.hid hbel
  have KS := Lib.hid hks
  obtain ⟨x0, x1, x2⟩ := SW.out _ hbel
  have hblc : b < wc.heap.size := Nat.lt_of_lt_of_le hbl hbel.size
  obtain ⟨_, eT⟩ := M_eq HT.out.pos
  have ET := Lib.hid eT
  clear eT HK hbl
  have hsh := shape4 HT.out HI.out
  have hhd : So.hd ((⟨k, nm', sg'⟩ : Nd) :: rest) = k := rfl
  rw [hhd] at hsh
  clear hhd
  subst hk
  have hii : So.Is 4 (So.k0 ((⟨7, nm', sg'⟩ : Nd) :: rest)) = true ∧ So.Is 4 (So.k1 ((⟨7, nm', sg'⟩ : Nd) :: rest)) = true := by
    rcases hsh with ⟨hk, hi0, hi1⟩ | ⟨hk, hi0, hi1⟩ | ⟨hk, hi0, hi1⟩ | ⟨hk, hi0⟩
    all_goals first | exact absurd hk (by decide) | exact ⟨hi0, hi1⟩
  clear hsh
  obtain ⟨a, a', hka, ek0, ek1, hta, htb, hla, hca, hra⟩ := cut2 HT.out (by show Rw.ar 7 = 2; rfl)
  obtain ⟨hi0, hi1⟩ := hii
  rw [ek0] at hi0
  rw [ek1] at hi1
  have HLL : Hid (L = pnorm (par (Mp a) (Mp a'))) := Lib.hid (HL.out.symm.trans (ET.out.trans ((stepP_2 (l := (⟨7, nm', sg'⟩ : Nd) :: rest) (.inr (.inr rfl))).trans (by rw [ek0, ek1] <;> rfl))))
  have hks' := HKS.out.symm.trans hka
  rw [hks'] at KS
  have QA := Lib.hid (IP.out a (by rw [hka]; simp) hi0)
  have QB := Lib.hid (IP.out a' (by rw [hka]; simp) hi1)
  have GA := Lib.hid (gp hta hi0)
  have GB := Lib.hid (gp htb hi1)
  have HLA := Lib.hid hla
  have HCA := Lib.hid (hca all)
  have hb6 : acs a + acs a' ≤ 6 := by have := HCA.out; have := H6.out; unfold acs at *; omega
  rcases rws_form KS.out with ⟨h0, _⟩ | ⟨b2, o2, c2, rfl, hat⟩
  · cases h0
  obtain ⟨y0, q0, n0⟩ := hat 0 (by simp)
  obtain ⟨y1, q1, n1⟩ := hat 1 (by simp)
  simp only [List.getElem_cons_zero, List.getElem_cons_succ, Nat.add_zero] at q0 n0 q1 n1
  have hb2l : b2 < wc.heap.size := Ap.cell_lt q0
  have N0 := Lib.hid n0
  have N1 := Lib.hid n1
  have ha24 : a.length + a'.length ≤ 23 := by have := HLA.out; have := H24.out; omega
  have LX : Hid ((Mp a).length + (Mp a').length ≤ 1000000000000) := Lib.hid (by
    have h1 := Nat.le_trans GA.out.len (K_last (by omega) (by omega))
    have h2 := Nat.le_trans GB.out.len (K_last (by omega) (by omega))
    omega)
  have LZ : Hid ((par (Mp a) (Mp a')).length ≤ 1000000000000) := Lib.hid (Nat.le_trans (par_len (GA.out.cnt all) (GB.out.cnt all) GA.out.len GB.out.len) (Nat.le_trans (K_last (by omega) hb6) (by omega)))
  have LU : Hid (∀ t ∈ par (Mp a) (Mp a'), t.p.a.length ≤ 1000000 ∧ t.q.a.length ≤ 1000000) := Lib.hid fun t ht => by
    have h2 := (par_cp (GA.out.cnt all) (GB.out.cnt all)).len ht
    unfold acs at hb6
    omega
  have LR : Hid (∀ x ∈ Mp a, ∀ y ∈ Mp a', x.p.a.length + y.p.a.length ≤ 19 ∧ x.q.a.length + y.q.a.length ≤ 19) := Lib.hid (fun x hx y hy => by
    have h1 := (GA.out.cnt all).len hx
    have h2 := (GB.out.cnt all).len hy
    unfold acs at hb6
    omega)
  have PT' := Lib.hid (fun x y w1 h1 h2 => parP_any (Fr w) x y (Mp a) (Mp a') w1 h1 h2 (by have := LX.out; omega) (by have := LX.out; omega) LR.out LZ.out)
  have CS := Lib.hid (fun y w1 (h : PsO (Fr w) w1 y (par (Mp a) (Mp a'))) => setPR_any _ (Fr w) y (par (Mp a) (Mp a')) w1 (Nat.le_refl _) LZ.out h LU.out)
  have QA' := Lib.hid (fun w1 (hb : Below wc.heap.size wc w1) => QA.out y0 w1 (N0.out.below hb))
  have QB' := Lib.hid (fun w1 (hb : Below wc.heap.size wc w1) => QB.out y1 w1 (N1.out.below hb))
  generalize Mp a = A1 at *
  generalize Mp a' = A2 at *
  obtain ⟨M, hM⟩ : ∃ M, par A1 A2 = M := ⟨_, rfl⟩
  rw [hM] at HLL PT' CS LZ
  clear hM
  clear hat hks' hka ek0 ek1 hta htb hla hca hra hi0 hi1 n0 n1 hks KS HKS ha24 hb6 LR LU GA GB QA QB HT HI ET HL IT IP HCA HLA H24 H6 hbel
  have SS : Hid (∀ w1, Below wc.heap.size wc w1 → w1.cell? ⟨b2, o2, none⟩ = some y0 ∧ w1.cell? ⟨b2, o2 + 1, none⟩ = some y1) := Lib.hid fun w1 hb => ⟨by rw [hb.cell (p := ⟨b2, o2, none⟩) hb2l]; exact q0, by rw [hb.cell (p := ⟨b2, o2 + 1, none⟩) hb2l]; exact q1⟩
  go_wp2_with fail
  go_region_held3 (fun w' => w'.cell? ⟨b2, o2, none⟩ = some y0 ∧ w'.cell? ⟨b2, o2 + 1, none⟩ = some y1) (first | exact SS.out _ (Below.refl _ _).drew | exact SS.out _ D1.out | exact SS.out _ D2.out | exact SS.out _ D3.out | exact SS.out _ D4.out | fail) (first
    | (go_at_call 41
       (with_reducible refine (QA'.out _ (Below.refl _ _).drew).mono ?_)
       rintro e w1 ⟨a1, n1, rfl, ht1, hb1⟩
       have D1 := Lib.hid ((Below.refl wc.heap.size wc).drew.trans hb1)
       have TA := Lib.hid (ht1.fr BB.out.size)
       clear ht1 hb1)
    | (go_at_call 41
       (with_reducible refine (QB'.out _ D1.out).mono ?_)
       rintro e w2 ⟨a2, n2, rfl, ht2, hb2⟩
       have D2 := Lib.hid (D1.out.trans (hb2.mono D1.out.size))
       have TB := Lib.hid (ht2.fr (Nat.le_trans BB.out.size D1.out.size))
       have TA2 := Lib.hid (TA.out.below hb2)
       clear ht2 hb2)
    | (go_at_call 78
       (with_reducible refine (PT'.out _ _ _ TA2.out TB.out).mono ?_)
       rintro e w3 ⟨a3, n3, rfl, ht3, hb3⟩
       have D3 := Lib.hid (D2.out.trans (hb3.mono D2.out.size))
       have TC := Lib.hid (ht3.fr2 (Nat.le_trans BB.out.size D2.out.size))
       clear ht3 hb3)
    | (go_at_call 75
       (with_reducible refine (CS.out _ _ TC.out).mono ?_)
       rw [← HLL.out]
       rintro e w4 ⟨a4, n4, rfl, ht4, hb4⟩
       have D4 := Lib.hid (D3.out.trans (hb4.mono D3.out.size))
       have T4 := Lib.hid (ht4.fr2 (Nat.le_trans BB.out.size D3.out.size))
       clear ht4 hb4)
    | fail)
  go_wp2_with fail
  go_ret
  exact ⟨_, _, rfl, T4.out.told, BB.out.trans (D4.out.mono BB.out.size)⟩

set_option maxHeartbeats 4000000 in
theorem pairs_13 (k : Int) (nm' : ByteArray) (sg' : Int) (rest : List Nd) (v : Value) (w : World) (hk : k = 13) (hv : Nds w v ((⟨k, nm', sg'⟩ : Nd) :: rest)) (ht : So.Tre ((⟨k, nm', sg'⟩ : Nd) :: rest)) (hi : So.Is 4 ((⟨k, nm', sg'⟩ : Nd) :: rest) = true)
    (h24 : ((⟨k, nm', sg'⟩ : Nd) :: rest).length ≤ 24) (h6 : acs ((⟨k, nm', sg'⟩ : Nd) :: rest) ≤ 6) (ihT : ∀ a ∈ Rw.kids ((⟨k, nm', sg'⟩ : Nd) :: rest), So.Is 3 a = true → RT a) (ihP : ∀ a ∈ Rw.kids ((⟨k, nm', sg'⟩ : Nd) :: rest), So.Is 4 a = true → RP a) :
    Calls Tryz.prog 41 #[v] w (OutP none' (Mp ((⟨k, nm', sg'⟩ : Nd) :: rest)) w) := by
  have HK := Lib.hid (Rw.kidsR_any v ((⟨k, nm', sg'⟩ : Nd) :: rest) w hv (by simp at h24 ⊢; omega))
  rcases Rw.Nds.form hv with ⟨h0, _⟩ | ⟨b, o, c, rfl, hc, hat⟩
  · cases h0
  obtain ⟨e0, e1, e2⟩ := hat 0 (by simp)
  simp only [List.getElem_cons_zero, Nat.zero_mul, Nat.add_zero] at e0 e1 e2
  obtain ⟨n, hn⟩ : ∃ n, ((⟨k, nm', sg'⟩ : Nd) :: rest).length = n + 1 := ⟨rest.length, by simp⟩
  rw [hn] at HK hc ⊢
  have hbl : b < w.heap.size := Ap.cell_lt e0
  obtain ⟨ks, hks⟩ : ∃ ks, Rw.kids ((⟨k, nm', sg'⟩ : Nd) :: rest) = ks := ⟨_, rfl⟩
  rw [hks] at HK
  have HKS := Lib.hid hks
  have IT := Lib.hid ihT
  have IP := Lib.hid ihP
  have hn24 : n ≤ 23 := by omega
  have HT := Lib.hid ht
  have HI := Lib.hid hi
  have H24 := Lib.hid h24
  have H6 := Lib.hid h6
  obtain ⟨L, hL⟩ : ∃ L, Mp ((⟨k, nm', sg'⟩ : Nd) :: rest) = L := ⟨_, rfl⟩
  rw [hL]
  have HL := Lib.hid hL
  have SW : Hid (∀ w1, Below w.heap.size w w1 → w1.cell? ⟨b, o, none⟩ = some (.int .i64 k) ∧ w1.cell? ⟨b, o + 1, none⟩ = some (.string nm') ∧ w1.cell? ⟨b, o + 2, none⟩ = some (.int .i64 sg')) := Lib.hid fun w1 hb => ⟨by rw [hb.cell (p := ⟨b, o, none⟩) hbl]; exact e0, by rw [hb.cell (p := ⟨b, o + 1, none⟩) hbl]; exact e1, by rw [hb.cell (p := ⟨b, o + 2, none⟩) hbl]; exact e2⟩
  unfold OutP
  clear hv hat hn hks ihT ihP ht hi h24 h6 hL e0 e1 e2
  go_enter Tryz.func41, Tryz.ntmps41
  go_wp2_with fail
  refine HK.out.mono ?_
  rintro e wc ⟨yk, rfl, hks, hbel⟩
  have BB := Lib.hid hbel
  have KS := Lib.hid hks
  obtain ⟨x0, x1, x2⟩ := SW.out _ hbel
  have hblc : b < wc.heap.size := Nat.lt_of_lt_of_le hbl hbel.size
  obtain ⟨_, eT⟩ := M_eq HT.out.pos
  have ET := Lib.hid eT
  clear eT HK hbl
  have hsh := shape4 HT.out HI.out
  have hhd : So.hd ((⟨k, nm', sg'⟩ : Nd) :: rest) = k := rfl
  rw [hhd] at hsh
  clear hhd
  subst hk
  have hii : So.Is 4 (So.k0 ((⟨13, nm', sg'⟩ : Nd) :: rest)) = true ∧ So.Is 1 (So.k1 ((⟨13, nm', sg'⟩ : Nd) :: rest)) = true := by
    rcases hsh with ⟨hk, hi0, hi1⟩ | ⟨hk, hi0, hi1⟩ | ⟨hk, hi0, hi1⟩ | ⟨hk, hi0⟩
    all_goals first | exact absurd hk (by decide) | exact ⟨hi0, hi1⟩
  clear hsh
  obtain ⟨a, a', hka, ek0, ek1, hta, htb, hla, hca, hra⟩ := cut2 HT.out (by show Rw.ar 13 = 2; rfl)
  obtain ⟨hi0, hi1⟩ := hii
  rw [ek0] at hi0
  rw [ek1] at hi1
  have HLL : Hid (L = pnorm (stack (Mp a) (Mt a'))) := Lib.hid (HL.out.symm.trans (ET.out.trans ((stepP_13 (l := (⟨13, nm', sg'⟩ : Nd) :: rest) rfl).trans (by rw [ek0, ek1] <;> rfl))))
  have hks' := HKS.out.symm.trans hka
  rw [hks'] at KS
  have QA := Lib.hid (IP.out a (by rw [hka]; simp) hi0)
  have QB := Lib.hid (IT.out a' (by rw [hka]; simp) (So.one_three hi1))
  have GA := Lib.hid (gp hta hi0)
  have GB := Lib.hid (gt htb (So.one_three hi1))
  have HLA := Lib.hid hla
  have HCA := Lib.hid (hca all)
  have hb6 : acs a + acs a' ≤ 6 := by have := HCA.out; have := H6.out; unfold acs at *; omega
  rcases rws_form KS.out with ⟨h0, _⟩ | ⟨b2, o2, c2, rfl, hat⟩
  · cases h0
  obtain ⟨y0, q0, n0⟩ := hat 0 (by simp)
  obtain ⟨y1, q1, n1⟩ := hat 1 (by simp)
  simp only [List.getElem_cons_zero, List.getElem_cons_succ, Nat.add_zero] at q0 n0 q1 n1
  have hb2l : b2 < wc.heap.size := Ap.cell_lt q0
  have N0 := Lib.hid n0
  have N1 := Lib.hid n1
  have ha24 : a.length + a'.length ≤ 23 := by have := HLA.out; have := H24.out; omega
  have LX : Hid ((Mp a).length + (Mt a').length ≤ 1000000000000) := Lib.hid (by
    have h1 := Nat.le_trans GA.out.len (K_last (by omega) (by omega))
    have h2 := Nat.le_trans GB.out.len (K_last (by omega) (by omega))
    omega)
  have LZ : Hid ((stack (Mp a) (Mt a')).length ≤ 1000000000000) := Lib.hid (Nat.le_trans (stack_len GA.out.len GB.out.len) (Nat.le_trans (K_last (by omega) hb6) (by omega)))
  have LU : Hid (∀ t ∈ stack (Mp a) (Mt a'), t.p.a.length ≤ 1000000 ∧ t.q.a.length ≤ 1000000) := Lib.hid fun t ht => by
    have h2 := (stack_cp (GA.out.cnt all) (GB.out.cnt all)).len ht
    unfold acs at hb6
    omega
  have LR : Hid (∀ x ∈ Mp a, ∀ c ∈ Mt a', x.q.a.length + c.a.length ≤ 1000000) := Lib.hid (fun x hx y hy => by
    have h1 := (GA.out.cnt all).len hx
    have h2 := (GB.out.cnt all).len hy
    unfold acs at hb6
    omega)
  have PT' := Lib.hid (fun x y w1 h1 h2 => stackR_any (Fr w) x y (Mp a) (Mt a') w1 h1 h2 (by have := LX.out; omega) (by have := LX.out; omega) LR.out LZ.out)
  have CS := Lib.hid (fun y w1 (h : PsO (Fr w) w1 y (stack (Mp a) (Mt a'))) => setPR_any _ (Fr w) y (stack (Mp a) (Mt a')) w1 (Nat.le_refl _) LZ.out h LU.out)
  have QA' := Lib.hid (fun w1 (hb : Below wc.heap.size wc w1) => QA.out y0 w1 (N0.out.below hb))
  have QB' := Lib.hid (fun w1 (hb : Below wc.heap.size wc w1) => QB.out y1 w1 (N1.out.below hb))
  generalize Mp a = A1 at *
  generalize Mt a' = A2 at *
  obtain ⟨M, hM⟩ : ∃ M, stack A1 A2 = M := ⟨_, rfl⟩
  rw [hM] at HLL PT' CS LZ
  clear hM
  clear hat hks' hka ek0 ek1 hta htb hla hca hra hi0 hi1 n0 n1 hks KS HKS ha24 hb6 LR LU GA GB QA QB HT HI ET HL IT IP HCA HLA H24 H6 hbel
  have SS : Hid (∀ w1, Below wc.heap.size wc w1 → w1.cell? ⟨b2, o2, none⟩ = some y0 ∧ w1.cell? ⟨b2, o2 + 1, none⟩ = some y1) := Lib.hid fun w1 hb => ⟨by rw [hb.cell (p := ⟨b2, o2, none⟩) hb2l]; exact q0, by rw [hb.cell (p := ⟨b2, o2 + 1, none⟩) hb2l]; exact q1⟩
  go_wp2_with fail
  go_region_held3 (fun w' => w'.cell? ⟨b2, o2, none⟩ = some y0 ∧ w'.cell? ⟨b2, o2 + 1, none⟩ = some y1) (first | exact SS.out _ (Below.refl _ _).drew | exact SS.out _ D1.out | exact SS.out _ D2.out | exact SS.out _ D3.out | exact SS.out _ D4.out | fail) (first
    | (go_at_call 41
       (with_reducible refine (QA'.out _ (Below.refl _ _).drew).mono ?_)
       rintro e w1 ⟨a1, n1, rfl, ht1, hb1⟩
       have D1 := Lib.hid ((Below.refl wc.heap.size wc).drew.trans hb1)
       have TA := Lib.hid (ht1.fr BB.out.size)
       clear ht1 hb1)
    | (go_at_call 37
       (with_reducible refine (QB'.out _ D1.out).mono ?_)
       rintro e w2 ⟨a2, n2, rfl, ht2, hb2⟩
       have D2 := Lib.hid (D1.out.trans (hb2.mono D1.out.size))
       have TB := Lib.hid (ht2.fr (Nat.le_trans BB.out.size D1.out.size))
       have TA2 := Lib.hid (TA.out.below hb2)
       clear ht2 hb2)
    | (go_at_call 79
       (with_reducible refine (PT'.out _ _ _ TA2.out TB.out).mono ?_)
       rintro e w3 ⟨a3, n3, rfl, ht3, hb3⟩
       have D3 := Lib.hid (D2.out.trans (hb3.mono D2.out.size))
       have TC := Lib.hid (ht3.fr2 (Nat.le_trans BB.out.size D2.out.size))
       clear ht3 hb3)
    | (go_at_call 75
       (with_reducible refine (CS.out _ _ TC.out).mono ?_)
       rw [← HLL.out]
       rintro e w4 ⟨a4, n4, rfl, ht4, hb4⟩
       have D4 := Lib.hid (D3.out.trans (hb4.mono D3.out.size))
       have T4 := Lib.hid (ht4.fr2 (Nat.le_trans BB.out.size D3.out.size))
       clear ht4 hb4)
    | fail)
  go_wp2_with fail
  go_ret
  exact ⟨_, _, rfl, T4.out.told, BB.out.trans (D4.out.mono BB.out.size)⟩

set_option maxHeartbeats 4000000 in
theorem pairs_12 (k : Int) (nm' : ByteArray) (sg' : Int) (rest : List Nd) (v : Value) (w : World) (hk : k = 12) (hv : Nds w v ((⟨k, nm', sg'⟩ : Nd) :: rest)) (ht : So.Tre ((⟨k, nm', sg'⟩ : Nd) :: rest)) (hi : So.Is 4 ((⟨k, nm', sg'⟩ : Nd) :: rest) = true)
    (h24 : ((⟨k, nm', sg'⟩ : Nd) :: rest).length ≤ 24) (h6 : acs ((⟨k, nm', sg'⟩ : Nd) :: rest) ≤ 6) (ihT : ∀ a ∈ Rw.kids ((⟨k, nm', sg'⟩ : Nd) :: rest), So.Is 3 a = true → RT a) (ihP : ∀ a ∈ Rw.kids ((⟨k, nm', sg'⟩ : Nd) :: rest), So.Is 4 a = true → RP a) :
    Calls Tryz.prog 41 #[v] w (OutP none' (Mp ((⟨k, nm', sg'⟩ : Nd) :: rest)) w) := by
  have HK := Lib.hid (Rw.kidsR_any v ((⟨k, nm', sg'⟩ : Nd) :: rest) w hv (by simp at h24 ⊢; omega))
  rcases Rw.Nds.form hv with ⟨h0, _⟩ | ⟨b, o, c, rfl, hc, hat⟩
  · cases h0
  obtain ⟨e0, e1, e2⟩ := hat 0 (by simp)
  simp only [List.getElem_cons_zero, Nat.zero_mul, Nat.add_zero] at e0 e1 e2
  obtain ⟨n, hn⟩ : ∃ n, ((⟨k, nm', sg'⟩ : Nd) :: rest).length = n + 1 := ⟨rest.length, by simp⟩
  rw [hn] at HK hc ⊢
  have hbl : b < w.heap.size := Ap.cell_lt e0
  obtain ⟨ks, hks⟩ : ∃ ks, Rw.kids ((⟨k, nm', sg'⟩ : Nd) :: rest) = ks := ⟨_, rfl⟩
  rw [hks] at HK
  have HKS := Lib.hid hks
  have IT := Lib.hid ihT
  have IP := Lib.hid ihP
  have hn24 : n ≤ 23 := by omega
  have HT := Lib.hid ht
  have HI := Lib.hid hi
  have H24 := Lib.hid h24
  have H6 := Lib.hid h6
  obtain ⟨L, hL⟩ : ∃ L, Mp ((⟨k, nm', sg'⟩ : Nd) :: rest) = L := ⟨_, rfl⟩
  rw [hL]
  have HL := Lib.hid hL
  have SW : Hid (∀ w1, Below w.heap.size w w1 → w1.cell? ⟨b, o, none⟩ = some (.int .i64 k) ∧ w1.cell? ⟨b, o + 1, none⟩ = some (.string nm') ∧ w1.cell? ⟨b, o + 2, none⟩ = some (.int .i64 sg')) := Lib.hid fun w1 hb => ⟨by rw [hb.cell (p := ⟨b, o, none⟩) hbl]; exact e0, by rw [hb.cell (p := ⟨b, o + 1, none⟩) hbl]; exact e1, by rw [hb.cell (p := ⟨b, o + 2, none⟩) hbl]; exact e2⟩
  unfold OutP
  clear hv hat hn hks ihT ihP ht hi h24 h6 hL e0 e1 e2
  go_enter Tryz.func41, Tryz.ntmps41
  go_wp2_with fail
  refine HK.out.mono ?_
  rintro e wc ⟨yk, rfl, hks, hbel⟩
  have BB := Lib.hid hbel
  have KS := Lib.hid hks
  obtain ⟨x0, x1, x2⟩ := SW.out _ hbel
  have hblc : b < wc.heap.size := Nat.lt_of_lt_of_le hbl hbel.size
  obtain ⟨_, eT⟩ := M_eq HT.out.pos
  have ET := Lib.hid eT
  clear eT HK hbl
  have hsh := shape4 HT.out HI.out
  have hhd : So.hd ((⟨k, nm', sg'⟩ : Nd) :: rest) = k := rfl
  rw [hhd] at hsh
  clear hhd
  subst hk
  have hii : So.Is 3 (So.k0 ((⟨12, nm', sg'⟩ : Nd) :: rest)) = true ∧ So.Is 1 (So.k1 ((⟨12, nm', sg'⟩ : Nd) :: rest)) = true := by
    rcases hsh with ⟨hk, hi0, hi1⟩ | ⟨hk, hi0, hi1⟩ | ⟨hk, hi0, hi1⟩ | ⟨hk, hi0⟩
    all_goals first | exact absurd hk (by decide) | exact ⟨hi0, hi1⟩
  clear hsh
  obtain ⟨a, a', hka, ek0, ek1, hta, htb, hla, hca, hra⟩ := cut2 HT.out (by show Rw.ar 12 = 2; rfl)
  obtain ⟨hi0, hi1⟩ := hii
  rw [ek0] at hi0
  rw [ek1] at hi1
  have HLL : Hid (L = pnorm (going (Mt a) (Mt a'))) := Lib.hid (HL.out.symm.trans (ET.out.trans ((stepP_12 (l := (⟨12, nm', sg'⟩ : Nd) :: rest) rfl).trans (by rw [ek0, ek1] <;> rfl))))
  have hks' := HKS.out.symm.trans hka
  rw [hks'] at KS
  have QA := Lib.hid (IT.out a (by rw [hka]; simp) hi0)
  have QB := Lib.hid (IT.out a' (by rw [hka]; simp) (So.one_three hi1))
  have GA := Lib.hid (gt hta hi0)
  have GB := Lib.hid (gt htb (So.one_three hi1))
  have HLA := Lib.hid hla
  have HCA := Lib.hid (hca all)
  have hb6 : acs a + acs a' ≤ 6 := by have := HCA.out; have := H6.out; unfold acs at *; omega
  rcases rws_form KS.out with ⟨h0, _⟩ | ⟨b2, o2, c2, rfl, hat⟩
  · cases h0
  obtain ⟨y0, q0, n0⟩ := hat 0 (by simp)
  obtain ⟨y1, q1, n1⟩ := hat 1 (by simp)
  simp only [List.getElem_cons_zero, List.getElem_cons_succ, Nat.add_zero] at q0 n0 q1 n1
  have hb2l : b2 < wc.heap.size := Ap.cell_lt q0
  have N0 := Lib.hid n0
  have N1 := Lib.hid n1
  have ha24 : a.length + a'.length ≤ 23 := by have := HLA.out; have := H24.out; omega
  have LX : Hid ((Mt a).length + (Mt a').length ≤ 1000000000000) := Lib.hid (by
    have h1 := Nat.le_trans GA.out.len (K_last (by omega) (by omega))
    have h2 := Nat.le_trans GB.out.len (K_last (by omega) (by omega))
    omega)
  have LZ : Hid ((going (Mt a) (Mt a')).length ≤ 1000000000000) := Lib.hid (Nat.le_trans (going_len GA.out.len GB.out.len) (Nat.le_trans (K_last (by omega) hb6) (by omega)))
  have LU : Hid (∀ t ∈ going (Mt a) (Mt a'), t.p.a.length ≤ 1000000 ∧ t.q.a.length ≤ 1000000) := Lib.hid fun t ht => by
    have h2 := (going_cp (GA.out.cnt all) (GB.out.cnt all)).len ht
    unfold acs at hb6
    omega
  have LR : Hid (True) := Lib.hid (trivial)
  have PT' := Lib.hid (fun x y w1 h1 h2 => goingR_any (Fr w) x y (Mt a) (Mt a') w1 h1 h2 (by have := LX.out; omega) (by have := LX.out; omega) LZ.out)
  have CS := Lib.hid (fun y w1 (h : PsO (Fr w) w1 y (going (Mt a) (Mt a'))) => setPR_any _ (Fr w) y (going (Mt a) (Mt a')) w1 (Nat.le_refl _) LZ.out h LU.out)
  have QA' := Lib.hid (fun w1 (hb : Below wc.heap.size wc w1) => QA.out y0 w1 (N0.out.below hb))
  have QB' := Lib.hid (fun w1 (hb : Below wc.heap.size wc w1) => QB.out y1 w1 (N1.out.below hb))
  generalize Mt a = A1 at *
  generalize Mt a' = A2 at *
  obtain ⟨M, hM⟩ : ∃ M, going A1 A2 = M := ⟨_, rfl⟩
  rw [hM] at HLL PT' CS LZ
  clear hM
  clear hat hks' hka ek0 ek1 hta htb hla hca hra hi0 hi1 n0 n1 hks KS HKS ha24 hb6 LR LU GA GB QA QB HT HI ET HL IT IP HCA HLA H24 H6 hbel
  have SS : Hid (∀ w1, Below wc.heap.size wc w1 → w1.cell? ⟨b2, o2, none⟩ = some y0 ∧ w1.cell? ⟨b2, o2 + 1, none⟩ = some y1) := Lib.hid fun w1 hb => ⟨by rw [hb.cell (p := ⟨b2, o2, none⟩) hb2l]; exact q0, by rw [hb.cell (p := ⟨b2, o2 + 1, none⟩) hb2l]; exact q1⟩
  go_wp2_with fail
  go_region_held3 (fun w' => w'.cell? ⟨b2, o2, none⟩ = some y0 ∧ w'.cell? ⟨b2, o2 + 1, none⟩ = some y1) (first | exact SS.out _ (Below.refl _ _).drew | exact SS.out _ D1.out | exact SS.out _ D2.out | exact SS.out _ D3.out | exact SS.out _ D4.out | fail) (first
    | (go_at_call 37
       (with_reducible refine (QA'.out _ (Below.refl _ _).drew).mono ?_)
       rintro e w1 ⟨a1, n1, rfl, ht1, hb1⟩
       have D1 := Lib.hid ((Below.refl wc.heap.size wc).drew.trans hb1)
       have TA := Lib.hid (ht1.fr BB.out.size)
       clear ht1 hb1)
    | (go_at_call 37
       (with_reducible refine (QB'.out _ D1.out).mono ?_)
       rintro e w2 ⟨a2, n2, rfl, ht2, hb2⟩
       have D2 := Lib.hid (D1.out.trans (hb2.mono D1.out.size))
       have TB := Lib.hid (ht2.fr (Nat.le_trans BB.out.size D1.out.size))
       have TA2 := Lib.hid (TA.out.below hb2)
       clear ht2 hb2)
    | (go_at_call 76
       (with_reducible refine (PT'.out _ _ _ TA2.out TB.out).mono ?_)
       rintro e w3 ⟨a3, n3, rfl, ht3, hb3⟩
       have D3 := Lib.hid (D2.out.trans (hb3.mono D2.out.size))
       have TC := Lib.hid (ht3.fr2 (Nat.le_trans BB.out.size D2.out.size))
       clear ht3 hb3)
    | (go_at_call 75
       (with_reducible refine (CS.out _ _ TC.out).mono ?_)
       rw [← HLL.out]
       rintro e w4 ⟨a4, n4, rfl, ht4, hb4⟩
       have D4 := Lib.hid (D3.out.trans (hb4.mono D3.out.size))
       have T4 := Lib.hid (ht4.fr2 (Nat.le_trans BB.out.size D3.out.size))
       clear ht4 hb4)
    | fail)
  go_wp2_with fail
  go_ret
  exact ⟨_, _, rfl, T4.out.told, BB.out.trans (D4.out.mono BB.out.size)⟩

set_option maxHeartbeats 4000000 in
theorem pairs_10 (k : Int) (nm' : ByteArray) (sg' : Int) (rest : List Nd) (v : Value) (w : World) (hk : k = 10) (hv : Nds w v ((⟨k, nm', sg'⟩ : Nd) :: rest)) (ht : So.Tre ((⟨k, nm', sg'⟩ : Nd) :: rest)) (hi : So.Is 4 ((⟨k, nm', sg'⟩ : Nd) :: rest) = true)
    (h24 : ((⟨k, nm', sg'⟩ : Nd) :: rest).length ≤ 24) (h6 : acs ((⟨k, nm', sg'⟩ : Nd) :: rest) ≤ 6) (ihT : ∀ a ∈ Rw.kids ((⟨k, nm', sg'⟩ : Nd) :: rest), So.Is 3 a = true → RT a) (ihP : ∀ a ∈ Rw.kids ((⟨k, nm', sg'⟩ : Nd) :: rest), So.Is 4 a = true → RP a) :
    Calls Tryz.prog 41 #[v] w (OutP none' (Mp ((⟨k, nm', sg'⟩ : Nd) :: rest)) w) := by
  have HK := Lib.hid (Rw.kidsR_any v ((⟨k, nm', sg'⟩ : Nd) :: rest) w hv (by simp at h24 ⊢; omega))
  rcases Rw.Nds.form hv with ⟨h0, _⟩ | ⟨b, o, c, rfl, hc, hat⟩
  · cases h0
  obtain ⟨e0, e1, e2⟩ := hat 0 (by simp)
  simp only [List.getElem_cons_zero, Nat.zero_mul, Nat.add_zero] at e0 e1 e2
  obtain ⟨n, hn⟩ : ∃ n, ((⟨k, nm', sg'⟩ : Nd) :: rest).length = n + 1 := ⟨rest.length, by simp⟩
  rw [hn] at HK hc ⊢
  have hbl : b < w.heap.size := Ap.cell_lt e0
  obtain ⟨ks, hks⟩ : ∃ ks, Rw.kids ((⟨k, nm', sg'⟩ : Nd) :: rest) = ks := ⟨_, rfl⟩
  rw [hks] at HK
  have HKS := Lib.hid hks
  have IT := Lib.hid ihT
  have IP := Lib.hid ihP
  have hn24 : n ≤ 23 := by omega
  have HT := Lib.hid ht
  have HI := Lib.hid hi
  have H24 := Lib.hid h24
  have H6 := Lib.hid h6
  obtain ⟨L, hL⟩ : ∃ L, Mp ((⟨k, nm', sg'⟩ : Nd) :: rest) = L := ⟨_, rfl⟩
  rw [hL]
  have HL := Lib.hid hL
  have SW : Hid (∀ w1, Below w.heap.size w w1 → w1.cell? ⟨b, o, none⟩ = some (.int .i64 k) ∧ w1.cell? ⟨b, o + 1, none⟩ = some (.string nm') ∧ w1.cell? ⟨b, o + 2, none⟩ = some (.int .i64 sg')) := Lib.hid fun w1 hb => ⟨by rw [hb.cell (p := ⟨b, o, none⟩) hbl]; exact e0, by rw [hb.cell (p := ⟨b, o + 1, none⟩) hbl]; exact e1, by rw [hb.cell (p := ⟨b, o + 2, none⟩) hbl]; exact e2⟩
  unfold OutP
  clear hv hat hn hks ihT ihP ht hi h24 h6 hL e0 e1 e2
  go_enter Tryz.func41, Tryz.ntmps41
  go_wp2_with fail
  refine HK.out.mono ?_
  rintro e wc ⟨yk, rfl, hks, hbel⟩
  have BB := Lib.hid hbel
  have KS := Lib.hid hks
  obtain ⟨x0, x1, x2⟩ := SW.out _ hbel
  have hblc : b < wc.heap.size := Nat.lt_of_lt_of_le hbl hbel.size
  obtain ⟨_, eT⟩ := M_eq HT.out.pos
  have ET := Lib.hid eT
  clear eT HK hbl
  have hsh := shape4 HT.out HI.out
  have hhd : So.hd ((⟨k, nm', sg'⟩ : Nd) :: rest) = k := rfl
  rw [hhd] at hsh
  clear hhd
  subst hk
  have hii : So.Is 3 (So.k0 ((⟨10, nm', sg'⟩ : Nd) :: rest)) = true ∧ So.Is 1 (So.k1 ((⟨10, nm', sg'⟩ : Nd) :: rest)) = true := by
    rcases hsh with ⟨hk, hi0, hi1⟩ | ⟨hk, hi0, hi1⟩ | ⟨hk, hi0, hi1⟩ | ⟨hk, hi0⟩
    all_goals first | exact absurd hk (by decide) | exact ⟨hi0, hi1⟩
  clear hsh
  obtain ⟨a, a', hka, ek0, ek1, hta, htb, hla, hca, hra⟩ := cut2 HT.out (by show Rw.ar 10 = 2; rfl)
  obtain ⟨hi0, hi1⟩ := hii
  rw [ek0] at hi0
  rw [ek1] at hi1
  have HLL : Hid (L = pnorm (going (Mt a) (Mt a') ++ [way])) := Lib.hid (HL.out.symm.trans (ET.out.trans ((stepP_10 (l := (⟨10, nm', sg'⟩ : Nd) :: rest) rfl).trans (by rw [ek0, ek1] <;> rfl))))
  have hks' := HKS.out.symm.trans hka
  rw [hks'] at KS
  have QA := Lib.hid (IT.out a (by rw [hka]; simp) hi0)
  have QB := Lib.hid (IT.out a' (by rw [hka]; simp) (So.one_three hi1))
  have GA := Lib.hid (gt hta hi0)
  have GB := Lib.hid (gt htb (So.one_three hi1))
  have HLA := Lib.hid hla
  have HCA := Lib.hid (hca all)
  have hb6 : acs a + acs a' ≤ 6 := by have := HCA.out; have := H6.out; unfold acs at *; omega
  rcases rws_form KS.out with ⟨h0, _⟩ | ⟨b2, o2, c2, rfl, hat⟩
  · cases h0
  obtain ⟨y0, q0, n0⟩ := hat 0 (by simp)
  obtain ⟨y1, q1, n1⟩ := hat 1 (by simp)
  simp only [List.getElem_cons_zero, List.getElem_cons_succ, Nat.add_zero] at q0 n0 q1 n1
  have hb2l : b2 < wc.heap.size := Ap.cell_lt q0
  have N0 := Lib.hid n0
  have N1 := Lib.hid n1
  have ha24 : a.length + a'.length ≤ 23 := by have := HLA.out; have := H24.out; omega
  have LX : Hid ((Mt a).length + (Mt a').length ≤ 1000000000000) := Lib.hid (by
    have h1 := Nat.le_trans GA.out.len (K_last (by omega) (by omega))
    have h2 := Nat.le_trans GB.out.len (K_last (by omega) (by omega))
    omega)
  have LZ : Hid ((going (Mt a) (Mt a') ++ [way]).length ≤ 1000000000000) := Lib.hid (Nat.le_trans (way_len (going_len GA.out.len GB.out.len)) (Nat.le_trans (K_last (by omega) hb6) (by omega)))
  have LU : Hid (∀ t ∈ going (Mt a) (Mt a') ++ [way], t.p.a.length ≤ 1000000 ∧ t.q.a.length ≤ 1000000) := Lib.hid fun t ht => by
    have h2 := (way_cp (going_cp (GA.out.cnt all) (GB.out.cnt all))).len ht
    unfold acs at hb6
    omega
  have LR : Hid (True) := Lib.hid (trivial)
  have PT' := Lib.hid (fun x y w1 h1 h2 => goingR_own (Fr w) x y (Mt a) (Mt a') w1 h1 h2 (by have := LX.out; omega) (by have := LX.out; omega) (by have := LZ.out; rw [List.length_append] at this; omega))
  have CS := Lib.hid (fun y w1 (h : PsO (Fr w) w1 y (going (Mt a) (Mt a') ++ [way])) => setPR_any _ (Fr w) y (going (Mt a) (Mt a') ++ [way]) w1 (Nat.le_refl _) LZ.out h LU.out)
  have QA' := Lib.hid (fun w1 (hb : Below wc.heap.size wc w1) => QA.out y0 w1 (N0.out.below hb))
  have QB' := Lib.hid (fun w1 (hb : Below wc.heap.size wc w1) => QB.out y1 w1 (N1.out.below hb))
  generalize Mt a = A1 at *
  generalize Mt a' = A2 at *
  obtain ⟨M, hM⟩ : ∃ M, going A1 A2 = M := ⟨_, rfl⟩
  rw [hM] at HLL PT' CS LZ
  have hw : [way] = [(⟨⟨[], 3⟩, ⟨[], 1⟩⟩ : Pr)] := rfl
  rw [hw] at HLL CS LZ
  rw [List.length_append] at LZ
  clear hM hw
  clear hat hks' hka ek0 ek1 hta htb hla hca hra hi0 hi1 n0 n1 hks KS HKS ha24 hb6 LR LU GA GB QA QB HT HI ET HL IT IP HCA HLA H24 H6 hbel
  have SS : Hid (∀ w1, Below wc.heap.size wc w1 → w1.cell? ⟨b2, o2, none⟩ = some y0 ∧ w1.cell? ⟨b2, o2 + 1, none⟩ = some y1) := Lib.hid fun w1 hb => ⟨by rw [hb.cell (p := ⟨b2, o2, none⟩) hb2l]; exact q0, by rw [hb.cell (p := ⟨b2, o2 + 1, none⟩) hb2l]; exact q1⟩
  go_wp2_with fail
  go_region_held3 (fun w' => w'.cell? ⟨b2, o2, none⟩ = some y0 ∧ w'.cell? ⟨b2, o2 + 1, none⟩ = some y1) (first | exact SS.out _ (Below.refl _ _).drew | exact SS.out _ D1.out | exact SS.out _ D2.out | exact SS.out _ D3.out | exact SS.out _ D5.out | exact SS.out _ D6.out | exact SS.out _ (D6.out.alloc D6.out.size _) | exact SS.out _ D7.out | exact SS.out _ D4.out | fail) (first
    | (go_at_call 37
       (with_reducible refine (QA'.out _ (Below.refl _ _).drew).mono ?_)
       rintro e w1 ⟨a1, n1, rfl, ht1, hb1⟩
       have D1 := Lib.hid ((Below.refl wc.heap.size wc).drew.trans hb1)
       have TA := Lib.hid (ht1.fr BB.out.size)
       clear ht1 hb1)
    | (go_at_call 37
       (with_reducible refine (QB'.out _ D1.out).mono ?_)
       rintro e w2 ⟨a2, n2, rfl, ht2, hb2⟩
       have D2 := Lib.hid (D1.out.trans (hb2.mono D1.out.size))
       have TB := Lib.hid (ht2.fr (Nat.le_trans BB.out.size D1.out.size))
       have TA2 := Lib.hid (TA.out.below hb2)
       clear ht2 hb2)
    | (go_at_call 76
       (with_reducible refine (PT'.out _ _ _ TA2.out TB.out).mono ?_)
       rintro e w3 ⟨a3, n3, cs3, rfl, hown3, hc3, hb3⟩
       have D3 := Lib.hid (D2.out.trans (hb3.mono D2.out.size))
       have O3 := Lib.hid hown3
       have D3S := Lib.hid hb3.size
       have C3 := Lib.hid hc3
       clear hown3 hc3 hb3)
    | (go_at_call 66
       (with_reducible refine (endsR_any 3 w3).mono ?_)
       rintro e w5 ⟨rfl, hb5⟩
       have D5 := Lib.hid (D3.out.trans (hb5.mono D3.out.size))
       have O5 := Lib.hid (Ap.own_below O3.out hb5)
       have D5S := Lib.hid hb5.size
       have C5 := Lib.hid (clP_below C3.out hb5)
       clear hb5)
    | (go_at_call 66
       (with_reducible refine (endsR_any 1 w5).mono ?_)
       rintro e w6 ⟨rfl, hb6⟩
       have D6 := Lib.hid (D5.out.trans (hb6.mono D5.out.size))
       have s2 := D2.out.size
       have s23 := BB.out.size
       obtain ⟨v7, w7, hrun, hown7, hg7, hb7, hf7⟩ := app1P (x := ⟨⟨[], 3⟩, ⟨[], 1⟩⟩) (Ap.own_below O5.out hb6) (by have := D5.out.size; have := D6.out.size; have h3 := D3S.out; have h5 := D5S.out; have := hb6.size; omega) (so_nil any w6) (so_nil any w6) (by have := LZ.out; omega)
       have RUN := Lib.hid hrun
       have D7 := Lib.hid (D6.out.trans (hb7.mono s2))
       have C7 := accP2 (M := [⟨⟨[], 3⟩, ⟨[], 1⟩⟩]) (clP_below C5.out hb6) (Cl.one ⟨_, _, rfl, so_nil _ _, so_nil _ _⟩ rfl) hg7 hf7
       have TC : Hid (PsO (Fr w) w7 v7 (M ++ [⟨⟨[], 3⟩, ⟨[], 1⟩⟩])) := Lib.hid ⟨_, Ap.RdO.imp (Ap.RdO.fresh hown7) fun _ _ h => Nat.le_trans (Nat.le_trans s23 s2) h, C7.imp (EP.map fun _ _ h => so_imp h fun _ _ h => h.1.elim id fun h => Nat.le_trans (Nat.le_trans s23 s2) h)⟩
       clear hrun hown7 hg7 hb7 hf7 C7 s2 s23 hb6)
    | (refine Ap.step_append_run (by rfl) _ _ _ _ rfl _ _ rfl rfl v7 w7 RUN.out ?_)
    | (go_at_call 75
       (with_reducible refine (CS.out _ _ TC.out).mono ?_)
       rw [← HLL.out]
       rintro e w4 ⟨a4, n4, rfl, ht4, hb4⟩
       have D4 := Lib.hid (D7.out.trans (hb4.mono D7.out.size))
       have T4 := Lib.hid (ht4.fr2 (Nat.le_trans BB.out.size D7.out.size))
       clear ht4 hb4)
    | fail)
  go_wp2_with fail
  go_ret
  exact ⟨_, _, rfl, T4.out.told, BB.out.trans (D4.out.mono BB.out.size)⟩

set_option maxHeartbeats 4000000 in
theorem pairs_6 (k : Int) (nm' : ByteArray) (sg' : Int) (rest : List Nd) (v : Value) (w : World) (hk : k = 6) (hv : Nds w v ((⟨k, nm', sg'⟩ : Nd) :: rest)) (ht : So.Tre ((⟨k, nm', sg'⟩ : Nd) :: rest)) (hi : So.Is 4 ((⟨k, nm', sg'⟩ : Nd) :: rest) = true)
    (h24 : ((⟨k, nm', sg'⟩ : Nd) :: rest).length ≤ 24) (h6 : acs ((⟨k, nm', sg'⟩ : Nd) :: rest) ≤ 6) (ihT : ∀ a ∈ Rw.kids ((⟨k, nm', sg'⟩ : Nd) :: rest), So.Is 3 a = true → RT a) (ihP : ∀ a ∈ Rw.kids ((⟨k, nm', sg'⟩ : Nd) :: rest), So.Is 4 a = true → RP a) :
    Calls Tryz.prog 41 #[v] w (OutP none' (Mp ((⟨k, nm', sg'⟩ : Nd) :: rest)) w) := by
  have HK := Lib.hid (Rw.kidsR_any v ((⟨k, nm', sg'⟩ : Nd) :: rest) w hv (by simp at h24 ⊢; omega))
  rcases Rw.Nds.form hv with ⟨h0, _⟩ | ⟨b, o, c, rfl, hc, hat⟩
  · cases h0
  obtain ⟨e0, e1, e2⟩ := hat 0 (by simp)
  simp only [List.getElem_cons_zero, Nat.zero_mul, Nat.add_zero] at e0 e1 e2
  obtain ⟨n, hn⟩ : ∃ n, ((⟨k, nm', sg'⟩ : Nd) :: rest).length = n + 1 := ⟨rest.length, by simp⟩
  rw [hn] at HK hc ⊢
  have hbl : b < w.heap.size := Ap.cell_lt e0
  obtain ⟨ks, hks⟩ : ∃ ks, Rw.kids ((⟨k, nm', sg'⟩ : Nd) :: rest) = ks := ⟨_, rfl⟩
  rw [hks] at HK
  have HKS := Lib.hid hks
  have IT := Lib.hid ihT
  have IP := Lib.hid ihP
  have hn24 : n ≤ 23 := by omega
  have HT := Lib.hid ht
  have HI := Lib.hid hi
  have H24 := Lib.hid h24
  have H6 := Lib.hid h6
  obtain ⟨L, hL⟩ : ∃ L, Mp ((⟨k, nm', sg'⟩ : Nd) :: rest) = L := ⟨_, rfl⟩
  rw [hL]
  have HL := Lib.hid hL
  have SW : Hid (∀ w1, Below w.heap.size w w1 → w1.cell? ⟨b, o, none⟩ = some (.int .i64 k) ∧ w1.cell? ⟨b, o + 1, none⟩ = some (.string nm') ∧ w1.cell? ⟨b, o + 2, none⟩ = some (.int .i64 sg')) := Lib.hid fun w1 hb => ⟨by rw [hb.cell (p := ⟨b, o, none⟩) hbl]; exact e0, by rw [hb.cell (p := ⟨b, o + 1, none⟩) hbl]; exact e1, by rw [hb.cell (p := ⟨b, o + 2, none⟩) hbl]; exact e2⟩
  unfold OutP
  clear hv hat hn hks ihT ihP ht hi h24 h6 hL e0 e1 e2
  go_enter Tryz.func41, Tryz.ntmps41
  go_wp2_with fail
  refine HK.out.mono ?_
  rintro e wc ⟨yk, rfl, hks, hbel⟩
  have BB := Lib.hid hbel
  have KS := Lib.hid hks
  obtain ⟨x0, x1, x2⟩ := SW.out _ hbel
  have hblc : b < wc.heap.size := Nat.lt_of_lt_of_le hbl hbel.size
  obtain ⟨_, eT⟩ := M_eq HT.out.pos
  have ET := Lib.hid eT
  clear eT HK hbl
  have hsh := shape4 HT.out HI.out
  have hhd : So.hd ((⟨k, nm', sg'⟩ : Nd) :: rest) = k := rfl
  rw [hhd] at hsh
  clear hhd
  subst hk
  have hii : So.Is 4 (So.k0 ((⟨6, nm', sg'⟩ : Nd) :: rest)) = true ∧ So.Is 4 (So.k1 ((⟨6, nm', sg'⟩ : Nd) :: rest)) = true := by
    rcases hsh with ⟨hk, hi0, hi1⟩ | ⟨hk, hi0, hi1⟩ | ⟨hk, hi0, hi1⟩ | ⟨hk, hi0⟩
    all_goals first | exact absurd hk (by decide) | exact ⟨hi0, hi1⟩
  clear hsh
  obtain ⟨a, a', hka, ek0, ek1, hta, htb, hla, hca, hra⟩ := cut2 HT.out (by show Rw.ar 6 = 2; rfl)
  obtain ⟨hi0, hi1⟩ := hii
  rw [ek0] at hi0
  rw [ek1] at hi1
  have HLL : Hid (L = pnorm ((Mp a) ++ (Mp a'))) := Lib.hid (HL.out.symm.trans (ET.out.trans ((stepP_2 (l := (⟨6, nm', sg'⟩ : Nd) :: rest) (.inr (.inl rfl))).trans (by rw [ek0, ek1] <;> rfl))))
  have hks' := HKS.out.symm.trans hka
  rw [hks'] at KS
  have QA := Lib.hid (IP.out a (by rw [hka]; simp) hi0)
  have QB := Lib.hid (IP.out a' (by rw [hka]; simp) hi1)
  have GA := Lib.hid (gp hta hi0)
  have GB := Lib.hid (gp htb hi1)
  have HLA := Lib.hid hla
  have HCA := Lib.hid (hca all)
  have hb6 : acs a + acs a' ≤ 6 := by have := HCA.out; have := H6.out; unfold acs at *; omega
  rcases rws_form KS.out with ⟨h0, _⟩ | ⟨b2, o2, c2, rfl, hat⟩
  · cases h0
  obtain ⟨y0, q0, n0⟩ := hat 0 (by simp)
  obtain ⟨y1, q1, n1⟩ := hat 1 (by simp)
  simp only [List.getElem_cons_zero, List.getElem_cons_succ, Nat.add_zero] at q0 n0 q1 n1
  have hb2l : b2 < wc.heap.size := Ap.cell_lt q0
  have N0 := Lib.hid n0
  have N1 := Lib.hid n1
  have ha24 : a.length + a'.length ≤ 23 := by have := HLA.out; have := H24.out; omega
  have LX : Hid ((Mp a).length + (Mp a').length ≤ 1000000000000) := Lib.hid (by
    have h1 := Nat.le_trans GA.out.len (K_last (by omega) (by omega))
    have h2 := Nat.le_trans GB.out.len (K_last (by omega) (by omega))
    omega)
  have LZ : Hid (((Mp a) ++ (Mp a')).length ≤ 1000000000000) := Lib.hid (by rw [List.length_append]; exact LX.out)
  have LU : Hid (∀ t ∈ (Mp a) ++ (Mp a'), t.p.a.length ≤ 1000000 ∧ t.q.a.length ≤ 1000000) := Lib.hid fun t ht => by
    have h2 := (twoP_cp (k := 6) (GA.out.cnt all) (GB.out.cnt all)).len ht
    unfold acs at hb6
    omega
  have LR : Hid (True) := Lib.hid (trivial)
  have PT' := Lib.hid (trivial)
  have CS := Lib.hid (fun y w1 (h : PsO (Fr w) w1 y ((Mp a) ++ (Mp a'))) => setPR_any _ (Fr w) y ((Mp a) ++ (Mp a')) w1 (Nat.le_refl _) LZ.out h LU.out)
  have QA' := Lib.hid (fun w1 (hb : Below wc.heap.size wc w1) => QA.out y0 w1 (N0.out.below hb))
  have QB' := Lib.hid (fun w1 (hb : Below wc.heap.size wc w1) => QB.out y1 w1 (N1.out.below hb))
  generalize Mp a = A1 at *
  generalize Mp a' = A2 at *
  clear hat hks' hka ek0 ek1 hta htb hla hca hra hi0 hi1 n0 n1 hks KS HKS ha24 hb6 LR LU GA GB QA QB HT HI ET HL IT IP HCA HLA H24 H6 hbel
  have SS : Hid (∀ w1, Below wc.heap.size wc w1 → w1.cell? ⟨b2, o2, none⟩ = some y0 ∧ w1.cell? ⟨b2, o2 + 1, none⟩ = some y1) := Lib.hid fun w1 hb => ⟨by rw [hb.cell (p := ⟨b2, o2, none⟩) hb2l]; exact q0, by rw [hb.cell (p := ⟨b2, o2 + 1, none⟩) hb2l]; exact q1⟩
  go_wp2_with fail
  refine (QA'.out _ (Below.refl _ _)).mono ?_
  rintro e w1 ⟨a1, n1, rfl, ht1, hb1⟩
  have D1 := Lib.hid hb1
  obtain ⟨cx, hrx, hcx⟩ := ht1.fr BB.out.size
  obtain ⟨v2, w2, hrun, hown2, hg2, hb2, hf2⟩ := appPR (w := w1) (base := w1.heap.size) (n := 0) (v := .slice none 0 0) (cs := []) ⟨rfl, .inl ⟨rfl, rfl⟩⟩ (Nat.le_refl _) (x := .slice a1 A1.length n1) (m := A1.length) (ds := cx) (Ap.RdO.rd hrx) (Cl.cells _ EP.one hcx) (by have := LX.out; omega)
  rw [Nat.zero_add, List.nil_append] at hown2
  have RUN := Lib.hid hrun
  have O2 := Lib.hid hown2
  have D2 := Lib.hid (D1.out.trans (hb2.mono D1.out.size))
  have S2 := Lib.hid hb2.size
  have C2 : Hid (Cl (EP (Old (Fr w) w1) w2) 4 A1 cx) := Lib.hid (clP_below (hcx.imp (EP.map fun _ _ h => so_old h)) hb2)
  clear hrun hown2 hg2 hb2 hf2 ht1 hb1 hrx hcx
  obtain ⟨q0, q1⟩ := SS.out _ D2.out
  go_wp2_with (at_builtin; refine Ap.wpList_append_run (by rfl) _ _ _ _ rfl _ _ rfl rfl v2 w2 RUN.out ?_)
  refine (QB'.out _ D2.out).mono ?_
  rintro e w3 ⟨a3, n3, rfl, ht3, hb3'⟩
  have D3 := Lib.hid (D2.out.trans (hb3'.mono D2.out.size))
  obtain ⟨cy, hry, hcy⟩ := id ht3
  have s1 := D1.out.size
  have s0 := BB.out.size
  have s2 := S2.out
  have s3 := hb3'.size
  obtain ⟨v5, w5, hrun, hown5, hg5, hb5, hf5⟩ := appPR (Ap.own_below O2.out hb3') (by omega) (x := .slice a3 A2.length n3) (m := A2.length) (ds := cy) (Ap.RdO.rd hry) (Cl.cells _ EP.one hcy) (by have := LX.out; omega)
  rw [show A1.length + A2.length = (A1 ++ A2).length by simp] at hown5
  have RUN5 := Lib.hid hrun
  have D5 := Lib.hid (D3.out.trans (hb5.mono s1))
  have hap : ∀ b, some b = v2.ownBlock → w1.heap.size ≤ b ∧ b < w2.heap.size := own_old O2.out
  have hcX : Cl (EP (Apart (Fr w) v2) w3) 4 A1 cx := (clP_below C2.out hb3').imp (EP.map fun _ _ h => so_imp h fun b _ h => ⟨h.1, fun e => by have := hap b e; have := h.2; omega⟩)
  have hcY : Cl (EP (Apart (Fr w) v2) w3) 4 A2 cy := hcy.imp (EP.map fun _ _ h => so_imp h fun b _ h => h.elim (fun h => h.elim) fun (h : w2.heap.size ≤ b) => ⟨by show w.heap.size ≤ b; omega, fun e => by have := hap b e; omega⟩)
  have TC : Hid (PsO (Fr w) w5 v5 (A1 ++ A2)) := Lib.hid ⟨_, Ap.RdO.imp (Ap.RdO.fresh hown5) fun b _ (h : w1.heap.size ≤ b) => by show w.heap.size ≤ b; omega, (accP2 hcX hcY hg5 hf5).imp (EP.map fun _ _ h => so_imp h fun _ _ h => h.1)⟩
  clear hrun hown5 hg5 hb5 hf5 ht3 hb3' hry hcy s0 s1 s2 s3 hap hcX hcY
  go_wp2_with (at_builtin; refine Ap.wpList_append_run (by rfl) _ _ _ _ rfl _ _ rfl rfl v5 w5 RUN5.out ?_)
  refine (CS.out _ _ TC.out).mono ?_
  rw [← HLL.out]
  rintro e w4 ⟨a4, n4, rfl, ht4, hb4⟩
  have D4 := Lib.hid (D5.out.trans (hb4.mono D5.out.size))
  have T4 := Lib.hid (ht4.fr2 (Nat.le_trans BB.out.size D5.out.size))
  clear ht4 hb4
  go_wp2_with fail
  go_ret
  exact ⟨_, _, rfl, T4.out.told, BB.out.trans (D4.out.mono BB.out.size)⟩

set_option maxHeartbeats 4000000 in
theorem pairs_14 (k : Int) (nm' : ByteArray) (sg' : Int) (rest : List Nd) (v : Value) (w : World) (hk : k = 14) (hv : Nds w v ((⟨k, nm', sg'⟩ : Nd) :: rest)) (ht : So.Tre ((⟨k, nm', sg'⟩ : Nd) :: rest)) (hi : So.Is 4 ((⟨k, nm', sg'⟩ : Nd) :: rest) = true)
    (h24 : ((⟨k, nm', sg'⟩ : Nd) :: rest).length ≤ 24) (h6 : acs ((⟨k, nm', sg'⟩ : Nd) :: rest) ≤ 6) (ihT : ∀ a ∈ Rw.kids ((⟨k, nm', sg'⟩ : Nd) :: rest), So.Is 3 a = true → RT a) (ihP : ∀ a ∈ Rw.kids ((⟨k, nm', sg'⟩ : Nd) :: rest), So.Is 4 a = true → RP a) :
    Calls Tryz.prog 41 #[v] w (OutP none' (Mp ((⟨k, nm', sg'⟩ : Nd) :: rest)) w) := by
  have HK := Lib.hid (Rw.kidsR_any v ((⟨k, nm', sg'⟩ : Nd) :: rest) w hv (by simp at h24 ⊢; omega))
  rcases Rw.Nds.form hv with ⟨h0, _⟩ | ⟨b, o, c, rfl, hc, hat⟩
  · cases h0
  obtain ⟨e0, e1, e2⟩ := hat 0 (by simp)
  simp only [List.getElem_cons_zero, Nat.zero_mul, Nat.add_zero] at e0 e1 e2
  obtain ⟨n, hn⟩ : ∃ n, ((⟨k, nm', sg'⟩ : Nd) :: rest).length = n + 1 := ⟨rest.length, by simp⟩
  rw [hn] at HK hc ⊢
  have hbl : b < w.heap.size := Ap.cell_lt e0
  obtain ⟨ks, hks⟩ : ∃ ks, Rw.kids ((⟨k, nm', sg'⟩ : Nd) :: rest) = ks := ⟨_, rfl⟩
  rw [hks] at HK
  have HKS := Lib.hid hks
  have IT := Lib.hid ihT
  have IP := Lib.hid ihP
  have hn24 : n ≤ 23 := by omega
  have HT := Lib.hid ht
  have HI := Lib.hid hi
  have H24 := Lib.hid h24
  have H6 := Lib.hid h6
  obtain ⟨L, hL⟩ : ∃ L, Mp ((⟨k, nm', sg'⟩ : Nd) :: rest) = L := ⟨_, rfl⟩
  rw [hL]
  have HL := Lib.hid hL
  have SW : Hid (∀ w1, Below w.heap.size w w1 → w1.cell? ⟨b, o, none⟩ = some (.int .i64 k) ∧ w1.cell? ⟨b, o + 1, none⟩ = some (.string nm') ∧ w1.cell? ⟨b, o + 2, none⟩ = some (.int .i64 sg')) := Lib.hid fun w1 hb => ⟨by rw [hb.cell (p := ⟨b, o, none⟩) hbl]; exact e0, by rw [hb.cell (p := ⟨b, o + 1, none⟩) hbl]; exact e1, by rw [hb.cell (p := ⟨b, o + 2, none⟩) hbl]; exact e2⟩
  unfold OutP
  clear hv hat hn hks ihT ihP ht hi h24 h6 hL e0 e1 e2
  go_enter Tryz.func41, Tryz.ntmps41
  go_wp2_with fail
  refine HK.out.mono ?_
  rintro e wc ⟨yk, rfl, hks, hbel⟩
  have BB := Lib.hid hbel
  have KS := Lib.hid hks
  obtain ⟨x0, x1, x2⟩ := SW.out _ hbel
  have hblc : b < wc.heap.size := Nat.lt_of_lt_of_le hbl hbel.size
  obtain ⟨_, eT⟩ := M_eq HT.out.pos
  have ET := Lib.hid eT
  clear eT HK hbl
  have hsh := shape4 HT.out HI.out
  have hhd : So.hd ((⟨k, nm', sg'⟩ : Nd) :: rest) = k := rfl
  rw [hhd] at hsh
  clear hhd
  subst hk
  have hii : So.Is 1 (So.k0 ((⟨14, nm', sg'⟩ : Nd) :: rest)) = true := by
    rcases hsh with ⟨hk, hi0, hi1⟩ | ⟨hk, hi0, hi1⟩ | ⟨hk, hi0, hi1⟩ | ⟨hk, hi0⟩
    all_goals first | exact absurd hk (by decide) | exact hi0
  clear hsh
  obtain ⟨a, hka, ek0, hta, hla, hca, hra⟩ := cut1 HT.out (by show Rw.ar 14 = 1; rfl)
  rw [ek0] at hii
  have HLL : Hid (L = pnorm (fin sg' (Mt a))) := Lib.hid (HL.out.symm.trans (ET.out.trans ((stepP_14 (l := (⟨14, nm', sg'⟩ : Nd) :: rest) rfl).trans (by rw [ek0] <;> rfl))))
  have hks' := HKS.out.symm.trans hka
  rw [hks'] at KS
  have QA := Lib.hid (IT.out a (by rw [hka]; simp) (So.one_three hii))
  have GA := Lib.hid (gt hta (So.one_three hii))
  have HLA := Lib.hid hla
  have HCA := Lib.hid (hca all)
  have ha6 : acs a ≤ 6 := by have := HCA.out; have := H6.out; unfold acs at *; omega
  rcases rws_form KS.out with ⟨h0, _⟩ | ⟨b2, o2, c2, rfl, hat⟩
  · cases h0
  obtain ⟨y0, q0, n0⟩ := hat 0 (by simp)
  simp only [List.getElem_cons_zero, Nat.add_zero] at q0 n0
  have hb2l : b2 < wc.heap.size := Ap.cell_lt q0
  have N0 := Lib.hid n0
  have ha24 : a.length ≤ 23 := by have := HLA.out; have := H24.out; omega
  have LX : Hid ((Mt a).length ≤ 1000000000000) := Lib.hid (Nat.le_trans GA.out.len (Nat.le_trans (K_last (by omega) ha6) (by omega)))
  have LZ : Hid ((fin sg' (Mt a)).length ≤ 1000000000000) := Lib.hid (by unfold fin; rw [List.length_map]; exact LX.out)
  have LU : Hid (∀ t ∈ fin sg' (Mt a), t.p.a.length ≤ 1000000 ∧ t.q.a.length ≤ 1000000) := Lib.hid fun t ht => by
    have h2 := (fin_cp (e := sg') (GA.out.cnt all)).len ht
    unfold acs at ha6
    omega
  have PT' := Lib.hid (fun x w1 h1 => endR_any (Fr w) sg' x (Mt a) w1 h1 LX.out)
  have CS := Lib.hid (fun y w1 (h : PsO (Fr w) w1 y (fin sg' (Mt a))) => setPR_any _ (Fr w) y (fin sg' (Mt a)) w1 (Nat.le_refl _) LZ.out h LU.out)
  have QA' := Lib.hid (fun w1 (hb : Below wc.heap.size wc w1) => QA.out y0 w1 (N0.out.below hb))
  generalize Mt a = A1 at *
  obtain ⟨M, hM⟩ : ∃ M, fin sg' A1 = M := ⟨_, rfl⟩
  rw [hM] at HLL PT' CS LZ
  clear hM
  clear hat hks' hka ek0 hta hla hca hra hii n0 hks KS HKS ha24 ha6 LU GA QA HT HI ET HL IT IP HCA HLA H24 H6 hbel
  have SS : Hid (∀ w1, Below wc.heap.size wc w1 → w1.cell? ⟨b2, o2, none⟩ = some y0 ∧ w1.cell? ⟨b, o + 2, none⟩ = some (.int .i64 sg')) := Lib.hid fun w1 hb => ⟨by rw [hb.cell (p := ⟨b2, o2, none⟩) hb2l]; exact q0, by rw [hb.cell (p := ⟨b, o + 2, none⟩) hblc]; exact x2⟩
  go_wp2_with fail
  go_region_held3 (fun w' => w'.cell? ⟨b2, o2, none⟩ = some y0 ∧ w'.cell? ⟨b, o + 2, none⟩ = some (.int .i64 sg')) (first | exact SS.out _ (Below.refl _ _).drew | exact SS.out _ D1.out | exact SS.out _ D3.out | exact SS.out _ D4.out | fail) (first
    | (go_at_call 37
       (with_reducible refine (QA'.out _ (Below.refl _ _).drew).mono ?_)
       rintro e w1 ⟨a1, n1, rfl, ht1, hb1⟩
       have D1 := Lib.hid ((Below.refl wc.heap.size wc).drew.trans hb1)
       have TA := Lib.hid (ht1.fr BB.out.size)
       clear ht1 hb1)
    | (go_at_call 80
       (with_reducible refine (PT'.out _ _ TA.out).mono ?_)
       rintro e w3 ⟨a3, n3, rfl, ht3, hb3⟩
       have D3 := Lib.hid (D1.out.trans (hb3.mono D1.out.size))
       have TC := Lib.hid (ht3.fr2 (Nat.le_trans BB.out.size D1.out.size))
       clear ht3 hb3)
    | (go_at_call 75
       (with_reducible refine (CS.out _ _ TC.out).mono ?_)
       rw [← HLL.out]
       rintro e w4 ⟨a4, n4, rfl, ht4, hb4⟩
       have D4 := Lib.hid (D3.out.trans (hb4.mono D3.out.size))
       have T4 := Lib.hid (ht4.fr2 (Nat.le_trans BB.out.size D3.out.size))
       clear ht4 hb4)
    | fail)
  go_wp2_with fail
  go_ret
  exact ⟨_, _, rfl, T4.out.told, BB.out.trans (D4.out.mono BB.out.size)⟩

theorem pairs_step (k : Int) (nm' : ByteArray) (sg' : Int) (rest : List Nd) (v : Value) (w : World) (hv : Nds w v ((⟨k, nm', sg'⟩ : Nd) :: rest)) (ht : So.Tre ((⟨k, nm', sg'⟩ : Nd) :: rest)) (hi : So.Is 4 ((⟨k, nm', sg'⟩ : Nd) :: rest) = true)
    (h24 : ((⟨k, nm', sg'⟩ : Nd) :: rest).length ≤ 24) (h6 : acs ((⟨k, nm', sg'⟩ : Nd) :: rest) ≤ 6) (ihT : ∀ a ∈ Rw.kids ((⟨k, nm', sg'⟩ : Nd) :: rest), So.Is 3 a = true → RT a) (ihP : ∀ a ∈ Rw.kids ((⟨k, nm', sg'⟩ : Nd) :: rest), So.Is 4 a = true → RP a) :
    Calls Tryz.prog 41 #[v] w (OutP none' (Mp ((⟨k, nm', sg'⟩ : Nd) :: rest)) w) := by
  have hhd : So.hd ((⟨k, nm', sg'⟩ : Nd) :: rest) = k := rfl
  rcases shape4 ht hi with ⟨hk | hk | hk, _⟩ | ⟨hk | hk, _⟩ | ⟨hk, _⟩ | ⟨hk, _⟩
  · exact pairs_5 k nm' sg' rest v w (hhd.symm.trans hk) hv ht hi h24 h6 ihT ihP
  · exact pairs_6 k nm' sg' rest v w (hhd.symm.trans hk) hv ht hi h24 h6 ihT ihP
  · exact pairs_7 k nm' sg' rest v w (hhd.symm.trans hk) hv ht hi h24 h6 ihT ihP
  · exact pairs_10 k nm' sg' rest v w (hhd.symm.trans hk) hv ht hi h24 h6 ihT ihP
  · exact pairs_12 k nm' sg' rest v w (hhd.symm.trans hk) hv ht hi h24 h6 ihT ihP
  · exact pairs_13 k nm' sg' rest v w (hhd.symm.trans hk) hv ht hi h24 h6 ihT ihP
  · exact pairs_14 k nm' sg' rest v w (hhd.symm.trans hk) hv ht hi h24 h6 ihT ihP
end Go.Proofs.YtghnonbcojbohaaGreatDoor.Mn
