/- The document's Join, Parse of package eid. -/
import Derived.Test.YtmpokhdljlnllaaDoorERefJ
set_option linter.unusedVariables false
set_option linter.unusedSimpArgs false
namespace Go.Proofs.YtmpokhdljlnllaaDoor
open Go.RowKit

theorem str_eqb (x s : ByteArray) : (x.toList == s.toList) = decide (x = s) := by
  by_cases h : x = s
  · subst h
    simp
  · have h2 : ¬ x.toList = s.toList := fun e => h (toList_inj e)
    simp [h, h2]

theorem spl_size1 (c : UInt8) (s : ByteArray) (f : Nat) : (splA c s f).size ≤ s.size := by
  unfold splA spl
  show (List.toArray _).size ≤ _
  have hl : s.data.toList.length = s.size := size_len s
  have h1 := (List.takeWhile_sublist (· != c) (l := s.data.toList.drop f)).length_le
  rw [List.length_drop] at h1
  split <;> simp <;> omega
theorem spl_size2 (c : UInt8) (s : ByteArray) (f : Nat) : (splB c s f).size ≤ s.size := by
  unfold splB spl
  show (List.toArray _).size ≤ _
  have hl : s.data.toList.length = s.size := size_len s
  have h1 := (List.dropWhile_sublist (· != c) (l := s.data.toList.drop f)).length_le
  rw [List.length_drop] at h1
  split <;> simp <;> omega
theorem splA_data (c : UInt8) (s : ByteArray) (f : Nat) : (splA c s f).data.toList = (spl c (s.data.toList.drop f)).1 := by simp [splA]
theorem splB_data (c : UInt8) (s : ByteArray) (f : Nat) : (splB c s f).data.toList = (spl c (s.data.toList.drop f)).2 := by simp [splB]

set_option maxRecDepth 100000 in
set_option maxHeartbeats 4000000 in
/-- What follows once the name was read roughly. -/
theorem rjoin_zero (s t : ByteArray) (ht : t.size ≤ 4000000000) (k : Int) (nd sv : ByteArray) (a b : Int) (hrgh : nmO k nd sv a b = rgh s.data.toList t.data.toList) (hn : nd.size ≤ 4000000000) (hsv : sv.size ≤ 4000000000) (hk : k = 0) (hnd : nd = ⟨#[]⟩) (hsv0 : sv = ⟨#[]⟩) (ha : a = 0) (hb : b = 0) (hw : (s.toList == [105, 112, 110]) = false ∧ ((t.toList == [110, 111, 110, 101]) = true ∨ (t.toList == [110, 111, 110, 101]) = false ∧ ¬ 2 < t.size)) (w : World) :
    Calls Tryd.prog 14 #[.string s, .string t] w fun e w' => e = .returned (.tuple #[nmX (jnR s.data.toList t.data.toList), .int .i64 (erX (jnR s.data.toList t.data.toList))]) ∧ Below w.heap.size w w' := by
  obtain ⟨g1, g2⟩ := refB_red hrgh
  rw [← g1, ← g2]
  clear g1 g2 hrgh
  have HC := Lib.hid (fun W => rhalves_any k nd sv a b W hn hsv)
  clear hn hsv
  unfold refB
  unfold erS at HC
  generalize nmO k nd sv a b = o at *
  have HQ1 := Lib.hid (str_eqb (hfS o) s)
  have HQ2 := Lib.hid (str_eqb (rsS o) t)
  obtain ⟨r, hr⟩ : ∃ r, nmR o = r := ⟨_, rfl⟩
  obtain ⟨u1, hu1⟩ : ∃ u, decide (hfS o = s) = u := ⟨_, rfl⟩
  obtain ⟨u2, hu2⟩ : ∃ u, decide (rsS o = t) = u := ⟨_, rfl⟩
  rw [hr] at HC
  rw [hr, hu1, hu2]
  rw [hu1] at HQ1
  rw [hu2] at HQ2
  clear hr hu1 hu2
  generalize hfS o = hs at *
  generalize rsS o = rs at *
  unfold nmV at *
  subst hk hnd hsv0 ha hb
  obtain ⟨b1, hw⟩ := hw
  have HBX := Lib.hid (show Below w.heap.size w ((w.alloc (.cells #[.int .i64 0, .string ⟨#[]⟩, .string ⟨#[]⟩, .int .i64 0, .int .i64 0] 23)).alloc (.cells #[.int .i64 0, .string ⟨#[]⟩, .string ⟨#[]⟩, .int .i64 0, .int .i64 0] 23)) from below_alloc_l (below_alloc_l (Below.refl _ _)))
  rcases hw with b2 | ⟨b2, hb3⟩
  all_goals
    go_enter Tryd.func14, Tryd.ntmps14
    go_wp2_with fail
    refine (HC.out _).mono ?_
    rintro e w4 ⟨rfl, hb4⟩
    have r0 : w4.cell? ⟨w.heap.size, 0, none⟩ = some (.int .i64 0) := (hb4.cell (p := ⟨w.heap.size, 0, none⟩) (by simp; try omega)).trans (by go_simp)
    have r1 : w4.cell? ⟨w.heap.size, 1, none⟩ = some (.string ⟨#[]⟩) := (hb4.cell (p := ⟨w.heap.size, 1, none⟩) (by simp; try omega)).trans (by go_simp)
    have r2 : w4.cell? ⟨w.heap.size, 2, none⟩ = some (.string ⟨#[]⟩) := (hb4.cell (p := ⟨w.heap.size, 2, none⟩) (by simp; try omega)).trans (by go_simp)
    have r3 : w4.cell? ⟨w.heap.size, 3, none⟩ = some (.int .i64 0) := (hb4.cell (p := ⟨w.heap.size, 3, none⟩) (by simp; try omega)).trans (by go_simp)
    have r4 : w4.cell? ⟨w.heap.size, 4, none⟩ = some (.int .i64 0) := (hb4.cell (p := ⟨w.heap.size, 4, none⟩) (by simp; try omega)).trans (by go_simp)
    have q0 : w4.frozen? ⟨w.heap.size, 0, none⟩ = false := (hb4.frozen (p := ⟨w.heap.size, 0, none⟩) (by simp; try omega)).trans (by go_simp)
    have q1 : w4.frozen? ⟨w.heap.size, 1, none⟩ = false := (hb4.frozen (p := ⟨w.heap.size, 1, none⟩) (by simp; try omega)).trans (by go_simp)
    have q2 : w4.frozen? ⟨w.heap.size, 2, none⟩ = false := (hb4.frozen (p := ⟨w.heap.size, 2, none⟩) (by simp; try omega)).trans (by go_simp)
    have q3 : w4.frozen? ⟨w.heap.size, 3, none⟩ = false := (hb4.frozen (p := ⟨w.heap.size, 3, none⟩) (by simp; try omega)).trans (by go_simp)
    have q4 : w4.frozen? ⟨w.heap.size, 4, none⟩ = false := (hb4.frozen (p := ⟨w.heap.size, 4, none⟩) (by simp; try omega)).trans (by go_simp)
    have n0 : w4.cell? ⟨w.heap.size + 1, 0, none⟩ = some (.int .i64 0) := (hb4.cell (p := ⟨w.heap.size + 1, 0, none⟩) (by simp; try omega)).trans (by go_simp)
    have n1 : w4.cell? ⟨w.heap.size + 1, 1, none⟩ = some (.string ⟨#[]⟩) := (hb4.cell (p := ⟨w.heap.size + 1, 1, none⟩) (by simp; try omega)).trans (by go_simp)
    have n2 : w4.cell? ⟨w.heap.size + 1, 2, none⟩ = some (.string ⟨#[]⟩) := (hb4.cell (p := ⟨w.heap.size + 1, 2, none⟩) (by simp; try omega)).trans (by go_simp)
    have n3 : w4.cell? ⟨w.heap.size + 1, 3, none⟩ = some (.int .i64 0) := (hb4.cell (p := ⟨w.heap.size + 1, 3, none⟩) (by simp; try omega)).trans (by go_simp)
    have n4 : w4.cell? ⟨w.heap.size + 1, 4, none⟩ = some (.int .i64 0) := (hb4.cell (p := ⟨w.heap.size + 1, 4, none⟩) (by simp; try omega)).trans (by go_simp)
    have HBW := Lib.hid (HBX.out.trans (hb4.mono HBX.out.size))
    clear hb4 HBX

    have hz5 : w.heap.size < w4.heap.size := World.block_lt_of_cell? _ _ r0
    cases r with
    | false =>
      clear HQ1 HQ2 n0 n1 n2 n3 n4
      go_wp2_with fail
      have k5 := set5 (v0 := .int .i64 0) (v1 := .string ⟨#[]⟩) (v2 := .string ⟨#[]⟩) (v3 := .int .i64 0) (v4 := .int .i64 0) r0 r1 r2 r3 r4
      exact bodyPost_ret (nm_res2 _ 4 5 rfl _ (.int .i64 60) rfl rfl k5) rfl ⟨rfl, below_set5 HBW.out (Nat.le_refl _)⟩
    | true =>
      have hq1 := HQ1.out
      have hq2 := HQ2.out
      clear HQ1 HQ2
      cases u1 with
      | false =>
        clear n0 n1 n2 n3 n4 hq2
        go_wp2_with fail
        have k5 := set5 (v0 := .int .i64 0) (v1 := .string ⟨#[]⟩) (v2 := .string ⟨#[]⟩) (v3 := .int .i64 0) (v4 := .int .i64 0) r0 r1 r2 r3 r4
        exact bodyPost_ret (nm_res2 _ 4 5 rfl _ (.int .i64 60) rfl rfl k5) rfl ⟨rfl, below_set5 HBW.out (Nat.le_refl _)⟩
      | true =>
        cases u2 with
        | false =>
          clear n0 n1 n2 n3 n4
          go_wp2_with fail
          have k5 := set5 (v0 := .int .i64 0) (v1 := .string ⟨#[]⟩) (v2 := .string ⟨#[]⟩) (v3 := .int .i64 0) (v4 := .int .i64 0) r0 r1 r2 r3 r4
          exact bodyPost_ret (nm_res2 _ 4 5 rfl _ (.int .i64 60) rfl rfl k5) rfl ⟨rfl, below_set5 HBW.out (Nat.le_refl _)⟩
        | true =>
          go_wp2_with fail
          have k5 := set5 (v0 := .int .i64 0) (v1 := .string ⟨#[]⟩) (v2 := .string ⟨#[]⟩) (v3 := .int .i64 0) (v4 := .int .i64 0) r0 r1 r2 r3 r4
          exact bodyPost_ret (nm_res2 _ 4 5 rfl _ (.int .i64 0) rfl rfl k5) rfl ⟨rfl, below_set5 HBW.out (Nat.le_refl _)⟩

end Go.Proofs.YtmpokhdljlnllaaDoor
