/- The document's Join, Parse of package eid. -/
import Derived.Test.YtmpokhdljlnllaaDoorERefK
set_option linter.unusedVariables false
set_option linter.unusedSimpArgs false
namespace Go.Proofs.YtmpokhdljlnllaaDoor
open Go.RowKit

set_option maxRecDepth 100000 in
set_option maxHeartbeats 4000000 in
theorem rjoin_ipn (s t : ByteArray) (ht : t.size ≤ 4000000000) (k : Int) (nd sv : ByteArray) (a b : Int) (hrgh : nmO k nd sv a b = rgh s.data.toList t.data.toList) (hn : nd.size ≤ 4000000000) (hsv : sv.size ≤ 4000000000) (hk : k = 2) (hnd : nd = ⟨#[]⟩) (hsv0 : sv = ⟨#[]⟩) (ha : ((valD (splA 46 t 0).data.toList : Nat) : Int) = a) (hb : ((valD (splB 46 t 0).data.toList : Nat) : Int) = b) (hw : (s.toList == [105, 112, 110]) = true) (w : World) :
    Calls Tryd.prog 14 #[.string s, .string t] w fun e w' => e = .returned (.tuple #[nmX (jnR s.data.toList t.data.toList), .int .i64 (erX (jnR s.data.toList t.data.toList))]) ∧ Below w.heap.size w w' := by
  have HCUT := Lib.hid (fun W => rcut_any t 0 46 ht (Nat.zero_le _) W)
  have HN1 := Lib.hid (fun W => rnumber_any (splA 46 t 0) (Nat.le_trans (spl_size1 _ _ _) ht) W)
  have HN2 := Lib.hid (fun W => rnumber_any (splB 46 t 0) (Nat.le_trans (spl_size2 _ _ _) ht) W)
  rw [ha] at HN1
  rw [hb] at HN2
  clear ha hb
  obtain ⟨g1, g2⟩ := refB_red hrgh
  rw [← g1, ← g2]
  clear g1 g2 hrgh
  have HC := Lib.hid (fun W => rhalves_any k nd sv a b W hn hsv)
  clear hn hsv
  unfold refB
  unfold erS at HC
  generalize nmO k nd sv a b = o at *
  have HQ1 := Lib.hid (str_eqb (hfS o) s)
  have HQ2 := Lib.hid (str_eqb (rsS o) t)
  obtain ⟨r, hr⟩ : ∃ r, nmR o = r := ⟨_, rfl⟩
  obtain ⟨u1, hu1⟩ : ∃ u, decide (hfS o = s) = u := ⟨_, rfl⟩
  obtain ⟨u2, hu2⟩ : ∃ u, decide (rsS o = t) = u := ⟨_, rfl⟩
  rw [hr] at HC
  rw [hr, hu1, hu2]
  rw [hu1] at HQ1
  rw [hu2] at HQ2
  clear hr hu1 hu2
  generalize hfS o = hs at *
  generalize rsS o = rs at *
  unfold nmV at *
  subst hk hnd hsv0
  generalize splA 46 t 0 = x1 at *
  generalize splB 46 t 0 = x2 at *
  have HBX0 := Lib.hid (show Below w.heap.size w ((w.alloc (.cells #[.int .i64 0, .string ⟨#[]⟩, .string ⟨#[]⟩, .int .i64 0, .int .i64 0] 23)).alloc (.cells #[.int .i64 0, .string ⟨#[]⟩, .string ⟨#[]⟩, .int .i64 0, .int .i64 0] 23)) from below_alloc_l (below_alloc_l (Below.refl _ _)))
  go_enter Tryd.func14, Tryd.ntmps14
  go_wp2_with fail
  refine (HCUT.out _).mono ?_
  rintro e w1 ⟨rfl, hb1⟩
  have z0 : w1.cell? ⟨w.heap.size, 0, none⟩ = some (.int .i64 0) := (hb1.cell (p := ⟨w.heap.size, 0, none⟩) (by simp; try omega)).trans (by go_simp)
  have z1 : w1.cell? ⟨w.heap.size, 1, none⟩ = some (.string ⟨#[]⟩) := (hb1.cell (p := ⟨w.heap.size, 1, none⟩) (by simp; try omega)).trans (by go_simp)
  have z2 : w1.cell? ⟨w.heap.size, 2, none⟩ = some (.string ⟨#[]⟩) := (hb1.cell (p := ⟨w.heap.size, 2, none⟩) (by simp; try omega)).trans (by go_simp)
  have z3 : w1.cell? ⟨w.heap.size, 3, none⟩ = some (.int .i64 0) := (hb1.cell (p := ⟨w.heap.size, 3, none⟩) (by simp; try omega)).trans (by go_simp)
  have z4 : w1.cell? ⟨w.heap.size, 4, none⟩ = some (.int .i64 0) := (hb1.cell (p := ⟨w.heap.size, 4, none⟩) (by simp; try omega)).trans (by go_simp)
  have zq0 : w1.frozen? ⟨w.heap.size, 0, none⟩ = false := (hb1.frozen (p := ⟨w.heap.size, 0, none⟩) (by simp; try omega)).trans (by go_simp)
  have zq1 : w1.frozen? ⟨w.heap.size, 1, none⟩ = false := (hb1.frozen (p := ⟨w.heap.size, 1, none⟩) (by simp; try omega)).trans (by go_simp)
  have zq2 : w1.frozen? ⟨w.heap.size, 2, none⟩ = false := (hb1.frozen (p := ⟨w.heap.size, 2, none⟩) (by simp; try omega)).trans (by go_simp)
  have zq3 : w1.frozen? ⟨w.heap.size, 3, none⟩ = false := (hb1.frozen (p := ⟨w.heap.size, 3, none⟩) (by simp; try omega)).trans (by go_simp)
  have zq4 : w1.frozen? ⟨w.heap.size, 4, none⟩ = false := (hb1.frozen (p := ⟨w.heap.size, 4, none⟩) (by simp; try omega)).trans (by go_simp)
  have m0 : w1.cell? ⟨w.heap.size + 1, 0, none⟩ = some (.int .i64 0) := (hb1.cell (p := ⟨w.heap.size + 1, 0, none⟩) (by simp; try omega)).trans (by go_simp)
  have m1 : w1.cell? ⟨w.heap.size + 1, 1, none⟩ = some (.string ⟨#[]⟩) := (hb1.cell (p := ⟨w.heap.size + 1, 1, none⟩) (by simp; try omega)).trans (by go_simp)
  have m2 : w1.cell? ⟨w.heap.size + 1, 2, none⟩ = some (.string ⟨#[]⟩) := (hb1.cell (p := ⟨w.heap.size + 1, 2, none⟩) (by simp; try omega)).trans (by go_simp)
  have m3 : w1.cell? ⟨w.heap.size + 1, 3, none⟩ = some (.int .i64 0) := (hb1.cell (p := ⟨w.heap.size + 1, 3, none⟩) (by simp; try omega)).trans (by go_simp)
  have m4 : w1.cell? ⟨w.heap.size + 1, 4, none⟩ = some (.int .i64 0) := (hb1.cell (p := ⟨w.heap.size + 1, 4, none⟩) (by simp; try omega)).trans (by go_simp)
  have mq0 : w1.frozen? ⟨w.heap.size + 1, 0, none⟩ = false := (hb1.frozen (p := ⟨w.heap.size + 1, 0, none⟩) (by simp; try omega)).trans (by go_simp)
  have mq1 : w1.frozen? ⟨w.heap.size + 1, 1, none⟩ = false := (hb1.frozen (p := ⟨w.heap.size + 1, 1, none⟩) (by simp; try omega)).trans (by go_simp)
  have mq2 : w1.frozen? ⟨w.heap.size + 1, 2, none⟩ = false := (hb1.frozen (p := ⟨w.heap.size + 1, 2, none⟩) (by simp; try omega)).trans (by go_simp)
  have mq3 : w1.frozen? ⟨w.heap.size + 1, 3, none⟩ = false := (hb1.frozen (p := ⟨w.heap.size + 1, 3, none⟩) (by simp; try omega)).trans (by go_simp)
  have mq4 : w1.frozen? ⟨w.heap.size + 1, 4, none⟩ = false := (hb1.frozen (p := ⟨w.heap.size + 1, 4, none⟩) (by simp; try omega)).trans (by go_simp)
  have HBY := Lib.hid (HBX0.out.trans (hb1.mono (by simp; try omega)))
  clear hb1 HBX0
  have hz0 : w.heap.size < w1.heap.size := World.block_lt_of_cell? _ _ z0
  have hz1 : w.heap.size + 1 < w1.heap.size := World.block_lt_of_cell? _ _ m0
  go_wp2_with fail
  refine (HN1.out _).mono ?_
  rintro e w2 ⟨rfl, rfl⟩
  go_wp2_with fail
  refine (HN2.out _).mono ?_
  rintro e w3 ⟨rfl, rfl⟩
  go_wp2_with fail
  have k4 := set5 (v0 := .int .i64 2) (v1 := .string ⟨#[]⟩) (v2 := .string ⟨#[]⟩) (v3 := .int .i64 a) (v4 := .int .i64 b) m0 m1 m2 m3 m4
  have HBX := Lib.hid (below_set5 (v0 := .int .i64 2) (v1 := .string ⟨#[]⟩) (v2 := .string ⟨#[]⟩) (v3 := .int .i64 a) (v4 := .int .i64 b) (R := w.heap.size + 1) HBY.out (by omega))
  clear k4
  refine (HC.out _).mono ?_
  rintro e w4 ⟨rfl, hb4⟩
  have r0 : w4.cell? ⟨w.heap.size, 0, none⟩ = some (.int .i64 0) := (hb4.cell (p := ⟨w.heap.size, 0, none⟩) (by simp; try omega)).trans (by go_simp)
  have r1 : w4.cell? ⟨w.heap.size, 1, none⟩ = some (.string ⟨#[]⟩) := (hb4.cell (p := ⟨w.heap.size, 1, none⟩) (by simp; try omega)).trans (by go_simp)
  have r2 : w4.cell? ⟨w.heap.size, 2, none⟩ = some (.string ⟨#[]⟩) := (hb4.cell (p := ⟨w.heap.size, 2, none⟩) (by simp; try omega)).trans (by go_simp)
  have r3 : w4.cell? ⟨w.heap.size, 3, none⟩ = some (.int .i64 0) := (hb4.cell (p := ⟨w.heap.size, 3, none⟩) (by simp; try omega)).trans (by go_simp)
  have r4 : w4.cell? ⟨w.heap.size, 4, none⟩ = some (.int .i64 0) := (hb4.cell (p := ⟨w.heap.size, 4, none⟩) (by simp; try omega)).trans (by go_simp)
  have q0 : w4.frozen? ⟨w.heap.size, 0, none⟩ = false := (hb4.frozen (p := ⟨w.heap.size, 0, none⟩) (by simp; try omega)).trans (by go_simp)
  have q1 : w4.frozen? ⟨w.heap.size, 1, none⟩ = false := (hb4.frozen (p := ⟨w.heap.size, 1, none⟩) (by simp; try omega)).trans (by go_simp)
  have q2 : w4.frozen? ⟨w.heap.size, 2, none⟩ = false := (hb4.frozen (p := ⟨w.heap.size, 2, none⟩) (by simp; try omega)).trans (by go_simp)
  have q3 : w4.frozen? ⟨w.heap.size, 3, none⟩ = false := (hb4.frozen (p := ⟨w.heap.size, 3, none⟩) (by simp; try omega)).trans (by go_simp)
  have q4 : w4.frozen? ⟨w.heap.size, 4, none⟩ = false := (hb4.frozen (p := ⟨w.heap.size, 4, none⟩) (by simp; try omega)).trans (by go_simp)
  have n0 : w4.cell? ⟨w.heap.size + 1, 0, none⟩ = some (.int .i64 2) := (hb4.cell (p := ⟨w.heap.size + 1, 0, none⟩) (by simp; try omega)).trans (by go_simp)
  have n1 : w4.cell? ⟨w.heap.size + 1, 1, none⟩ = some (.string ⟨#[]⟩) := (hb4.cell (p := ⟨w.heap.size + 1, 1, none⟩) (by simp; try omega)).trans (by go_simp)
  have n2 : w4.cell? ⟨w.heap.size + 1, 2, none⟩ = some (.string ⟨#[]⟩) := (hb4.cell (p := ⟨w.heap.size + 1, 2, none⟩) (by simp; try omega)).trans (by go_simp)
  have n3 : w4.cell? ⟨w.heap.size + 1, 3, none⟩ = some (.int .i64 a) := (hb4.cell (p := ⟨w.heap.size + 1, 3, none⟩) (by simp; try omega)).trans (by go_simp)
  have n4 : w4.cell? ⟨w.heap.size + 1, 4, none⟩ = some (.int .i64 b) := (hb4.cell (p := ⟨w.heap.size + 1, 4, none⟩) (by simp; try omega)).trans (by go_simp)
  have HBW := Lib.hid (HBX.out.trans (hb4.mono (by simp; try omega)))
  clear hb4 HBX
  have hz5 : w.heap.size < w4.heap.size := World.block_lt_of_cell? _ _ r0
  cases r with
  | false =>
    clear HQ1 HQ2 n0 n1 n2 n3 n4
    go_wp2_with fail
    have k5 := set5 (v0 := .int .i64 0) (v1 := .string ⟨#[]⟩) (v2 := .string ⟨#[]⟩) (v3 := .int .i64 0) (v4 := .int .i64 0) r0 r1 r2 r3 r4
    exact bodyPost_ret (nm_res2 _ 4 5 rfl _ (.int .i64 60) rfl rfl k5) rfl ⟨rfl, below_set5 HBW.out (Nat.le_refl _)⟩
  | true =>
    have hq1 := HQ1.out
    have hq2 := HQ2.out
    clear HQ1 HQ2
    cases u1 with
    | false =>
      clear n0 n1 n2 n3 n4 hq2
      go_wp2_with fail
      have k5 := set5 (v0 := .int .i64 0) (v1 := .string ⟨#[]⟩) (v2 := .string ⟨#[]⟩) (v3 := .int .i64 0) (v4 := .int .i64 0) r0 r1 r2 r3 r4
      exact bodyPost_ret (nm_res2 _ 4 5 rfl _ (.int .i64 60) rfl rfl k5) rfl ⟨rfl, below_set5 HBW.out (Nat.le_refl _)⟩
    | true =>
      cases u2 with
      | false =>
        clear n0 n1 n2 n3 n4
        go_wp2_with fail
        have k5 := set5 (v0 := .int .i64 0) (v1 := .string ⟨#[]⟩) (v2 := .string ⟨#[]⟩) (v3 := .int .i64 0) (v4 := .int .i64 0) r0 r1 r2 r3 r4
        exact bodyPost_ret (nm_res2 _ 4 5 rfl _ (.int .i64 60) rfl rfl k5) rfl ⟨rfl, below_set5 HBW.out (Nat.le_refl _)⟩
      | true =>
        go_wp2_with fail
        have k5 := set5 (v0 := .int .i64 2) (v1 := .string ⟨#[]⟩) (v2 := .string ⟨#[]⟩) (v3 := .int .i64 a) (v4 := .int .i64 b) r0 r1 r2 r3 r4
        exact bodyPost_ret (nm_res2 _ 4 5 rfl _ (.int .i64 0) rfl rfl k5) rfl ⟨rfl, below_set5 HBW.out (Nat.le_refl _)⟩

set_option maxRecDepth 100000 in
set_option maxHeartbeats 4000000 in
theorem rjoin_dtn (s t : ByteArray) (ht : t.size ≤ 4000000000) (k : Int) (nd sv : ByteArray) (a b : Int) (hrgh : nmO k nd sv a b = rgh s.data.toList t.data.toList) (hn : nd.size ≤ 4000000000) (hsv : sv.size ≤ 4000000000) (hk : k = 1) (hnd : splA 47 t 2 = nd) (hsv0 : splB 47 t 2 = sv) (ha : a = 0) (hb : b = 0) (hw : (s.toList == [105, 112, 110]) = false ∧ (t.toList == [110, 111, 110, 101]) = false ∧ 2 < t.size) (w : World) :
    Calls Tryd.prog 14 #[.string s, .string t] w fun e w' => e = .returned (.tuple #[nmX (jnR s.data.toList t.data.toList), .int .i64 (erX (jnR s.data.toList t.data.toList))]) ∧ Below w.heap.size w w' := by
  have HCUT := Lib.hid (fun W => rcut_any t 2 47 ht (by omega) W)
  rw [hnd, hsv0] at HCUT
  clear hnd hsv0
  obtain ⟨g1, g2⟩ := refB_red hrgh
  rw [← g1, ← g2]
  clear g1 g2 hrgh
  have HC := Lib.hid (fun W => rhalves_any k nd sv a b W hn hsv)
  clear hn hsv
  unfold refB
  unfold erS at HC
  generalize nmO k nd sv a b = o at *
  have HQ1 := Lib.hid (str_eqb (hfS o) s)
  have HQ2 := Lib.hid (str_eqb (rsS o) t)
  obtain ⟨r, hr⟩ : ∃ r, nmR o = r := ⟨_, rfl⟩
  obtain ⟨u1, hu1⟩ : ∃ u, decide (hfS o = s) = u := ⟨_, rfl⟩
  obtain ⟨u2, hu2⟩ : ∃ u, decide (rsS o = t) = u := ⟨_, rfl⟩
  rw [hr] at HC
  rw [hr, hu1, hu2]
  rw [hu1] at HQ1
  rw [hu2] at HQ2
  clear hr hu1 hu2
  generalize hfS o = hs at *
  generalize rsS o = rs at *
  unfold nmV at *
  subst hk ha hb
  obtain ⟨b1, b2, b3⟩ := hw
  have HBX0 := Lib.hid (show Below w.heap.size w ((w.alloc (.cells #[.int .i64 0, .string ⟨#[]⟩, .string ⟨#[]⟩, .int .i64 0, .int .i64 0] 23)).alloc (.cells #[.int .i64 0, .string ⟨#[]⟩, .string ⟨#[]⟩, .int .i64 0, .int .i64 0] 23)) from below_alloc_l (below_alloc_l (Below.refl _ _)))
  go_enter Tryd.func14, Tryd.ntmps14
  go_wp2_with fail
  refine (HCUT.out _).mono ?_
  rintro e w1 ⟨rfl, hb1⟩
  have z0 : w1.cell? ⟨w.heap.size, 0, none⟩ = some (.int .i64 0) := (hb1.cell (p := ⟨w.heap.size, 0, none⟩) (by simp; try omega)).trans (by go_simp)
  have z1 : w1.cell? ⟨w.heap.size, 1, none⟩ = some (.string ⟨#[]⟩) := (hb1.cell (p := ⟨w.heap.size, 1, none⟩) (by simp; try omega)).trans (by go_simp)
  have z2 : w1.cell? ⟨w.heap.size, 2, none⟩ = some (.string ⟨#[]⟩) := (hb1.cell (p := ⟨w.heap.size, 2, none⟩) (by simp; try omega)).trans (by go_simp)
  have z3 : w1.cell? ⟨w.heap.size, 3, none⟩ = some (.int .i64 0) := (hb1.cell (p := ⟨w.heap.size, 3, none⟩) (by simp; try omega)).trans (by go_simp)
  have z4 : w1.cell? ⟨w.heap.size, 4, none⟩ = some (.int .i64 0) := (hb1.cell (p := ⟨w.heap.size, 4, none⟩) (by simp; try omega)).trans (by go_simp)
  have zq0 : w1.frozen? ⟨w.heap.size, 0, none⟩ = false := (hb1.frozen (p := ⟨w.heap.size, 0, none⟩) (by simp; try omega)).trans (by go_simp)
  have zq1 : w1.frozen? ⟨w.heap.size, 1, none⟩ = false := (hb1.frozen (p := ⟨w.heap.size, 1, none⟩) (by simp; try omega)).trans (by go_simp)
  have zq2 : w1.frozen? ⟨w.heap.size, 2, none⟩ = false := (hb1.frozen (p := ⟨w.heap.size, 2, none⟩) (by simp; try omega)).trans (by go_simp)
  have zq3 : w1.frozen? ⟨w.heap.size, 3, none⟩ = false := (hb1.frozen (p := ⟨w.heap.size, 3, none⟩) (by simp; try omega)).trans (by go_simp)
  have zq4 : w1.frozen? ⟨w.heap.size, 4, none⟩ = false := (hb1.frozen (p := ⟨w.heap.size, 4, none⟩) (by simp; try omega)).trans (by go_simp)
  have m0 : w1.cell? ⟨w.heap.size + 1, 0, none⟩ = some (.int .i64 0) := (hb1.cell (p := ⟨w.heap.size + 1, 0, none⟩) (by simp; try omega)).trans (by go_simp)
  have m1 : w1.cell? ⟨w.heap.size + 1, 1, none⟩ = some (.string ⟨#[]⟩) := (hb1.cell (p := ⟨w.heap.size + 1, 1, none⟩) (by simp; try omega)).trans (by go_simp)
  have m2 : w1.cell? ⟨w.heap.size + 1, 2, none⟩ = some (.string ⟨#[]⟩) := (hb1.cell (p := ⟨w.heap.size + 1, 2, none⟩) (by simp; try omega)).trans (by go_simp)
  have m3 : w1.cell? ⟨w.heap.size + 1, 3, none⟩ = some (.int .i64 0) := (hb1.cell (p := ⟨w.heap.size + 1, 3, none⟩) (by simp; try omega)).trans (by go_simp)
  have m4 : w1.cell? ⟨w.heap.size + 1, 4, none⟩ = some (.int .i64 0) := (hb1.cell (p := ⟨w.heap.size + 1, 4, none⟩) (by simp; try omega)).trans (by go_simp)
  have mq0 : w1.frozen? ⟨w.heap.size + 1, 0, none⟩ = false := (hb1.frozen (p := ⟨w.heap.size + 1, 0, none⟩) (by simp; try omega)).trans (by go_simp)
  have mq1 : w1.frozen? ⟨w.heap.size + 1, 1, none⟩ = false := (hb1.frozen (p := ⟨w.heap.size + 1, 1, none⟩) (by simp; try omega)).trans (by go_simp)
  have mq2 : w1.frozen? ⟨w.heap.size + 1, 2, none⟩ = false := (hb1.frozen (p := ⟨w.heap.size + 1, 2, none⟩) (by simp; try omega)).trans (by go_simp)
  have mq3 : w1.frozen? ⟨w.heap.size + 1, 3, none⟩ = false := (hb1.frozen (p := ⟨w.heap.size + 1, 3, none⟩) (by simp; try omega)).trans (by go_simp)
  have mq4 : w1.frozen? ⟨w.heap.size + 1, 4, none⟩ = false := (hb1.frozen (p := ⟨w.heap.size + 1, 4, none⟩) (by simp; try omega)).trans (by go_simp)
  have HBY := Lib.hid (HBX0.out.trans (hb1.mono (by simp; try omega)))
  clear hb1 HBX0
  have hz0 : w.heap.size < w1.heap.size := World.block_lt_of_cell? _ _ z0
  have hz1 : w.heap.size + 1 < w1.heap.size := World.block_lt_of_cell? _ _ m0
  go_wp2_with fail
  have k4 := set5 (v0 := .int .i64 1) (v1 := .string nd) (v2 := .string sv) (v3 := .int .i64 0) (v4 := .int .i64 0) m0 m1 m2 m3 m4
  have HBX := Lib.hid (below_set5 (v0 := .int .i64 1) (v1 := .string nd) (v2 := .string sv) (v3 := .int .i64 0) (v4 := .int .i64 0) (R := w.heap.size + 1) HBY.out (by omega))
  clear k4
  refine (HC.out _).mono ?_
  rintro e w4 ⟨rfl, hb4⟩
  have r0 : w4.cell? ⟨w.heap.size, 0, none⟩ = some (.int .i64 0) := (hb4.cell (p := ⟨w.heap.size, 0, none⟩) (by simp; try omega)).trans (by go_simp)
  have r1 : w4.cell? ⟨w.heap.size, 1, none⟩ = some (.string ⟨#[]⟩) := (hb4.cell (p := ⟨w.heap.size, 1, none⟩) (by simp; try omega)).trans (by go_simp)
  have r2 : w4.cell? ⟨w.heap.size, 2, none⟩ = some (.string ⟨#[]⟩) := (hb4.cell (p := ⟨w.heap.size, 2, none⟩) (by simp; try omega)).trans (by go_simp)
  have r3 : w4.cell? ⟨w.heap.size, 3, none⟩ = some (.int .i64 0) := (hb4.cell (p := ⟨w.heap.size, 3, none⟩) (by simp; try omega)).trans (by go_simp)
  have r4 : w4.cell? ⟨w.heap.size, 4, none⟩ = some (.int .i64 0) := (hb4.cell (p := ⟨w.heap.size, 4, none⟩) (by simp; try omega)).trans (by go_simp)
  have q0 : w4.frozen? ⟨w.heap.size, 0, none⟩ = false := (hb4.frozen (p := ⟨w.heap.size, 0, none⟩) (by simp; try omega)).trans (by go_simp)
  have q1 : w4.frozen? ⟨w.heap.size, 1, none⟩ = false := (hb4.frozen (p := ⟨w.heap.size, 1, none⟩) (by simp; try omega)).trans (by go_simp)
  have q2 : w4.frozen? ⟨w.heap.size, 2, none⟩ = false := (hb4.frozen (p := ⟨w.heap.size, 2, none⟩) (by simp; try omega)).trans (by go_simp)
  have q3 : w4.frozen? ⟨w.heap.size, 3, none⟩ = false := (hb4.frozen (p := ⟨w.heap.size, 3, none⟩) (by simp; try omega)).trans (by go_simp)
  have q4 : w4.frozen? ⟨w.heap.size, 4, none⟩ = false := (hb4.frozen (p := ⟨w.heap.size, 4, none⟩) (by simp; try omega)).trans (by go_simp)
  have n0 : w4.cell? ⟨w.heap.size + 1, 0, none⟩ = some (.int .i64 1) := (hb4.cell (p := ⟨w.heap.size + 1, 0, none⟩) (by simp; try omega)).trans (by go_simp)
  have n1 : w4.cell? ⟨w.heap.size + 1, 1, none⟩ = some (.string nd) := (hb4.cell (p := ⟨w.heap.size + 1, 1, none⟩) (by simp; try omega)).trans (by go_simp)
  have n2 : w4.cell? ⟨w.heap.size + 1, 2, none⟩ = some (.string sv) := (hb4.cell (p := ⟨w.heap.size + 1, 2, none⟩) (by simp; try omega)).trans (by go_simp)
  have n3 : w4.cell? ⟨w.heap.size + 1, 3, none⟩ = some (.int .i64 0) := (hb4.cell (p := ⟨w.heap.size + 1, 3, none⟩) (by simp; try omega)).trans (by go_simp)
  have n4 : w4.cell? ⟨w.heap.size + 1, 4, none⟩ = some (.int .i64 0) := (hb4.cell (p := ⟨w.heap.size + 1, 4, none⟩) (by simp; try omega)).trans (by go_simp)
  have HBW := Lib.hid (HBX.out.trans (hb4.mono (by simp; try omega)))
  clear hb4 HBX
  have hz5 : w.heap.size < w4.heap.size := World.block_lt_of_cell? _ _ r0
  cases r with
  | false =>
    clear HQ1 HQ2 n0 n1 n2 n3 n4
    go_wp2_with fail
    have k5 := set5 (v0 := .int .i64 0) (v1 := .string ⟨#[]⟩) (v2 := .string ⟨#[]⟩) (v3 := .int .i64 0) (v4 := .int .i64 0) r0 r1 r2 r3 r4
    exact bodyPost_ret (nm_res2 _ 4 5 rfl _ (.int .i64 60) rfl rfl k5) rfl ⟨rfl, below_set5 HBW.out (Nat.le_refl _)⟩
  | true =>
    have hq1 := HQ1.out
    have hq2 := HQ2.out
    clear HQ1 HQ2
    cases u1 with
    | false =>
      clear n0 n1 n2 n3 n4 hq2
      go_wp2_with fail
      have k5 := set5 (v0 := .int .i64 0) (v1 := .string ⟨#[]⟩) (v2 := .string ⟨#[]⟩) (v3 := .int .i64 0) (v4 := .int .i64 0) r0 r1 r2 r3 r4
      exact bodyPost_ret (nm_res2 _ 4 5 rfl _ (.int .i64 60) rfl rfl k5) rfl ⟨rfl, below_set5 HBW.out (Nat.le_refl _)⟩
    | true =>
      cases u2 with
      | false =>
        clear n0 n1 n2 n3 n4
        go_wp2_with fail
        have k5 := set5 (v0 := .int .i64 0) (v1 := .string ⟨#[]⟩) (v2 := .string ⟨#[]⟩) (v3 := .int .i64 0) (v4 := .int .i64 0) r0 r1 r2 r3 r4
        exact bodyPost_ret (nm_res2 _ 4 5 rfl _ (.int .i64 60) rfl rfl k5) rfl ⟨rfl, below_set5 HBW.out (Nat.le_refl _)⟩
      | true =>
        go_wp2_with fail
        have k5 := set5 (v0 := .int .i64 1) (v1 := .string nd) (v2 := .string sv) (v3 := .int .i64 0) (v4 := .int .i64 0) r0 r1 r2 r3 r4
        exact bodyPost_ret (nm_res2 _ 4 5 rfl _ (.int .i64 0) rfl rfl k5) rfl ⟨rfl, below_set5 HBW.out (Nat.le_refl _)⟩

end Go.Proofs.YtmpokhdljlnllaaDoor
