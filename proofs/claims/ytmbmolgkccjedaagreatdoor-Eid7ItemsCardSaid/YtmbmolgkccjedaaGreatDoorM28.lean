/- The document's Join, Parse of package eid. -/
import Derived.Test.YtmbmolgkccjedaaGreatDoorM18
import Derived.BigRegion
set_option linter.unusedVariables false
set_option linter.unusedSimpArgs false
namespace Go.Proofs.YtmbmolgkccjedaaGreatDoor
open Go.RowKit

set_option maxRecDepth 100000 in
set_option maxHeartbeats 4000000 in
theorem rjoin_ipn (s t : ByteArray) (ht : t.size ≤ 4000000000) (k : Int) (nd sv : ByteArray) (a b : Int) (hrgh : nmO k nd sv a b = rgh s.data.toList t.data.toList) (hn : nd.size ≤ 4000000000) (hsv : sv.size ≤ 4000000000) (hk : k = 2) (hnd : nd = ⟨#[]⟩) (hsv0 : sv = ⟨#[]⟩) (ha : ((valD (splA 46 t 0).data.toList : Nat) : Int) = a) (hb : ((valD (splB 46 t 0).data.toList : Nat) : Int) = b) (hw : (s.toList == [105, 112, 110]) = true) (w : World) :
    Calls Tryz.prog 33 #[.string s, .string t] w fun e w' => e = .returned (.tuple #[nmX (jnR s.data.toList t.data.toList), .int .i64 (erX (jnR s.data.toList t.data.toList))]) ∧ Below w.heap.size w w' := by
  have HCUT := Lib.hid (fun W => rcut_any t 0 46 ht (Nat.zero_le _) W)
  have HN1 := Lib.hid (fun W => rnumber_any (splA 46 t 0) (Nat.le_trans (spl_size1 _ _ _) ht) W)
  have HN2 := Lib.hid (fun W => rnumber_any (splB 46 t 0) (Nat.le_trans (spl_size2 _ _ _) ht) W)
  rw [ha] at HN1
  rw [hb] at HN2
  clear ha hb
  obtain ⟨g1, g2⟩ := refB_red hrgh
  rw [← g1, ← g2]
  clear g1 g2 hrgh
  have HC := Lib.hid (fun W => rhalves_any k nd sv a b W hn hsv)
  clear hn hsv
  unfold refB
  unfold erS at HC
  generalize nmO k nd sv a b = o at *
  have HQ1 := Lib.hid (str_eqb (hfS o) s)
  have HQ2 := Lib.hid (str_eqb (rsS o) t)
  obtain ⟨r, hr⟩ : ∃ r, nmR o = r := ⟨_, rfl⟩
  obtain ⟨u1, hu1⟩ : ∃ u, decide (hfS o = s) = u := ⟨_, rfl⟩
  obtain ⟨u2, hu2⟩ : ∃ u, decide (rsS o = t) = u := ⟨_, rfl⟩
  rw [hr] at HC
  rw [hr, hu1, hu2]
  rw [hu1] at HQ1
  rw [hu2] at HQ2
  clear hr hu1 hu2
  generalize hfS o = hs at *
  generalize rsS o = rs at *
  unfold nmV at *
  subst hk hnd hsv0
  generalize splA 46 t 0 = x1 at *
  generalize splB 46 t 0 = x2 at *
  have HBX0 := Lib.hid (show Below w.heap.size w ((w.alloc (.cells #[.int .i64 0, .string ⟨#[]⟩, .string ⟨#[]⟩, .int .i64 0, .int .i64 0] 23)).alloc (.cells #[.int .i64 0, .string ⟨#[]⟩, .string ⟨#[]⟩, .int .i64 0, .int .i64 0] 23)) from below_alloc_l (below_alloc_l (Below.refl _ _)))
  go_enter Tryz.func33, Tryz.ntmps33
  go_wp2_with fail
  refine (HCUT.out _).mono ?_
  rintro e w1 ⟨rfl, hb1⟩
  have z0 : w1.cell? ⟨w.heap.size, 0, none⟩ = some (.int .i64 0) := (hb1.cell (p := ⟨w.heap.size, 0, none⟩) (by simp; try omega)).trans (by go_simp)
  have z1 : w1.cell? ⟨w.heap.size, 1, none⟩ = some (.string ⟨#[]⟩) := (hb1.cell (p := ⟨w.heap.size, 1, none⟩) (by simp; try omega)).trans (by go_simp)
  have z2 : w1.cell? ⟨w.heap.size, 2, none⟩ = some (.string ⟨#[]⟩) := (hb1.cell (p := ⟨w.heap.size, 2, none⟩) (by simp; try omega)).trans (by go_simp)
  have z3 : w1.cell? ⟨w.heap.size, 3, none⟩ = some (.int .i64 0) := (hb1.cell (p := ⟨w.heap.size, 3, none⟩) (by simp; try omega)).trans (by go_simp)
  have z4 : w1.cell? ⟨w.heap.size, 4, none⟩ = some (.int .i64 0) := (hb1.cell (p := ⟨w.heap.size, 4, none⟩) (by simp; try omega)).trans (by go_simp)
  have zq0 : w1.frozen? ⟨w.heap.size, 0, none⟩ = false := (hb1.frozen (p := ⟨w.heap.size, 0, none⟩) (by simp; try omega)).trans (by go_simp)
  have zq1 : w1.frozen? ⟨w.heap.size, 1, none⟩ = false := (hb1.frozen (p := ⟨w.heap.size, 1, none⟩) (by simp; try omega)).trans (by go_simp)
  have zq2 : w1.frozen? ⟨w.heap.size, 2, none⟩ = false := (hb1.frozen (p := ⟨w.heap.size, 2, none⟩) (by simp; try omega)).trans (by go_simp)
  have zq3 : w1.frozen? ⟨w.heap.size, 3, none⟩ = false := (hb1.frozen (p := ⟨w.heap.size, 3, none⟩) (by simp; try omega)).trans (by go_simp)
  have zq4 : w1.frozen? ⟨w.heap.size, 4, none⟩ = false := (hb1.frozen (p := ⟨w.heap.size, 4, none⟩) (by simp; try omega)).trans (by go_simp)
  have m0 : w1.cell? ⟨w.heap.size + 1, 0, none⟩ = some (.int .i64 0) := (hb1.cell (p := ⟨w.heap.size + 1, 0, none⟩) (by simp; try omega)).trans (by go_simp)
  have m1 : w1.cell? ⟨w.heap.size + 1, 1, none⟩ = some (.string ⟨#[]⟩) := (hb1.cell (p := ⟨w.heap.size + 1, 1, none⟩) (by simp; try omega)).trans (by go_simp)
  have m2 : w1.cell? ⟨w.heap.size + 1, 2, none⟩ = some (.string ⟨#[]⟩) := (hb1.cell (p := ⟨w.heap.size + 1, 2, none⟩) (by simp; try omega)).trans (by go_simp)
  have m3 : w1.cell? ⟨w.heap.size + 1, 3, none⟩ = some (.int .i64 0) := (hb1.cell (p := ⟨w.heap.size + 1, 3, none⟩) (by simp; try omega)).trans (by go_simp)
  have m4 : w1.cell? ⟨w.heap.size + 1, 4, none⟩ = some (.int .i64 0) := (hb1.cell (p := ⟨w.heap.size + 1, 4, none⟩) (by simp; try omega)).trans (by go_simp)
  have mq0 : w1.frozen? ⟨w.heap.size + 1, 0, none⟩ = false := (hb1.frozen (p := ⟨w.heap.size + 1, 0, none⟩) (by simp; try omega)).trans (by go_simp)
  have mq1 : w1.frozen? ⟨w.heap.size + 1, 1, none⟩ = false := (hb1.frozen (p := ⟨w.heap.size + 1, 1, none⟩) (by simp; try omega)).trans (by go_simp)
  have mq2 : w1.frozen? ⟨w.heap.size + 1, 2, none⟩ = false := (hb1.frozen (p := ⟨w.heap.size + 1, 2, none⟩) (by simp; try omega)).trans (by go_simp)
  have mq3 : w1.frozen? ⟨w.heap.size + 1, 3, none⟩ = false := (hb1.frozen (p := ⟨w.heap.size + 1, 3, none⟩) (by simp; try omega)).trans (by go_simp)
  have mq4 : w1.frozen? ⟨w.heap.size + 1, 4, none⟩ = false := (hb1.frozen (p := ⟨w.heap.size + 1, 4, none⟩) (by simp; try omega)).trans (by go_simp)
  have HBY := Lib.hid (HBX0.out.trans (hb1.mono (by simp; try omega)))
  clear hb1 HBX0
  have hz0 : w.heap.size < w1.heap.size := World.block_lt_of_cell? _ _ z0
  have hz1 : w.heap.size + 1 < w1.heap.size := World.block_lt_of_cell? _ _ m0
  go_wp2_with fail
  refine (HN1.out _).mono ?_
  rintro e w2 ⟨rfl, rfl⟩
  go_wp2_with fail
  refine (HN2.out _).mono ?_
  rintro e w3 ⟨rfl, rfl⟩
  go_wp2_with fail
  have k4 := set5 (v0 := .int .i64 2) (v1 := .string ⟨#[]⟩) (v2 := .string ⟨#[]⟩) (v3 := .int .i64 a) (v4 := .int .i64 b) m0 m1 m2 m3 m4
  have HBX := Lib.hid (below_set5 (v0 := .int .i64 2) (v1 := .string ⟨#[]⟩) (v2 := .string ⟨#[]⟩) (v3 := .int .i64 a) (v4 := .int .i64 b) (R := w.heap.size + 1) HBY.out (by omega))
  clear k4
  refine (HC.out _).mono ?_
  rintro e w4 ⟨rfl, hb4⟩
  have r0 : w4.cell? ⟨w.heap.size, 0, none⟩ = some (.int .i64 0) := (hb4.cell (p := ⟨w.heap.size, 0, none⟩) (by simp; try omega)).trans (by go_simp)
  have r1 : w4.cell? ⟨w.heap.size, 1, none⟩ = some (.string ⟨#[]⟩) := (hb4.cell (p := ⟨w.heap.size, 1, none⟩) (by simp; try omega)).trans (by go_simp)
  have r2 : w4.cell? ⟨w.heap.size, 2, none⟩ = some (.string ⟨#[]⟩) := (hb4.cell (p := ⟨w.heap.size, 2, none⟩) (by simp; try omega)).trans (by go_simp)
  have r3 : w4.cell? ⟨w.heap.size, 3, none⟩ = some (.int .i64 0) := (hb4.cell (p := ⟨w.heap.size, 3, none⟩) (by simp; try omega)).trans (by go_simp)
  have r4 : w4.cell? ⟨w.heap.size, 4, none⟩ = some (.int .i64 0) := (hb4.cell (p := ⟨w.heap.size, 4, none⟩) (by simp; try omega)).trans (by go_simp)
  have q0 : w4.frozen? ⟨w.heap.size, 0, none⟩ = false := (hb4.frozen (p := ⟨w.heap.size, 0, none⟩) (by simp; try omega)).trans (by go_simp)
  have q1 : w4.frozen? ⟨w.heap.size, 1, none⟩ = false := (hb4.frozen (p := ⟨w.heap.size, 1, none⟩) (by simp; try omega)).trans (by go_simp)
  have q2 : w4.frozen? ⟨w.heap.size, 2, none⟩ = false := (hb4.frozen (p := ⟨w.heap.size, 2, none⟩) (by simp; try omega)).trans (by go_simp)
  have q3 : w4.frozen? ⟨w.heap.size, 3, none⟩ = false := (hb4.frozen (p := ⟨w.heap.size, 3, none⟩) (by simp; try omega)).trans (by go_simp)
  have q4 : w4.frozen? ⟨w.heap.size, 4, none⟩ = false := (hb4.frozen (p := ⟨w.heap.size, 4, none⟩) (by simp; try omega)).trans (by go_simp)
  have n0 : w4.cell? ⟨w.heap.size + 1, 0, none⟩ = some (.int .i64 2) := (hb4.cell (p := ⟨w.heap.size + 1, 0, none⟩) (by simp; try omega)).trans (by go_simp)
  have n1 : w4.cell? ⟨w.heap.size + 1, 1, none⟩ = some (.string ⟨#[]⟩) := (hb4.cell (p := ⟨w.heap.size + 1, 1, none⟩) (by simp; try omega)).trans (by go_simp)
  have n2 : w4.cell? ⟨w.heap.size + 1, 2, none⟩ = some (.string ⟨#[]⟩) := (hb4.cell (p := ⟨w.heap.size + 1, 2, none⟩) (by simp; try omega)).trans (by go_simp)
  have n3 : w4.cell? ⟨w.heap.size + 1, 3, none⟩ = some (.int .i64 a) := (hb4.cell (p := ⟨w.heap.size + 1, 3, none⟩) (by simp; try omega)).trans (by go_simp)
  have n4 : w4.cell? ⟨w.heap.size + 1, 4, none⟩ = some (.int .i64 b) := (hb4.cell (p := ⟨w.heap.size + 1, 4, none⟩) (by simp; try omega)).trans (by go_simp)
  have HBW := Lib.hid (HBX.out.trans (hb4.mono (by simp; try omega)))
  clear hb4 HBX
  have hz5 : w.heap.size < w4.heap.size := World.block_lt_of_cell? _ _ r0
  cases r with
  | false =>
    clear HQ1 HQ2 n0 n1 n2 n3 n4
    go_wp2_with fail
    have k5 := set5 (v0 := .int .i64 0) (v1 := .string ⟨#[]⟩) (v2 := .string ⟨#[]⟩) (v3 := .int .i64 0) (v4 := .int .i64 0) r0 r1 r2 r3 r4
    exact bodyPost_ret (nm_res2 _ 4 5 rfl _ (.int .i64 60) rfl rfl k5) rfl ⟨rfl, below_set5 HBW.out (Nat.le_refl _)⟩
  | true =>
    have hq1 := HQ1.out
    have hq2 := HQ2.out
    clear HQ1 HQ2
    cases u1 with
    | false =>
      clear n0 n1 n2 n3 n4 hq2
      go_wp2_with fail
      have k5 := set5 (v0 := .int .i64 0) (v1 := .string ⟨#[]⟩) (v2 := .string ⟨#[]⟩) (v3 := .int .i64 0) (v4 := .int .i64 0) r0 r1 r2 r3 r4
      exact bodyPost_ret (nm_res2 _ 4 5 rfl _ (.int .i64 60) rfl rfl k5) rfl ⟨rfl, below_set5 HBW.out (Nat.le_refl _)⟩
    | true =>
      cases u2 with
      | false =>
        clear n0 n1 n2 n3 n4
        go_wp2_with fail
        have k5 := set5 (v0 := .int .i64 0) (v1 := .string ⟨#[]⟩) (v2 := .string ⟨#[]⟩) (v3 := .int .i64 0) (v4 := .int .i64 0) r0 r1 r2 r3 r4
        exact bodyPost_ret (nm_res2 _ 4 5 rfl _ (.int .i64 60) rfl rfl k5) rfl ⟨rfl, below_set5 HBW.out (Nat.le_refl _)⟩
      | true =>
        go_wp2_with fail
        have k5 := set5 (v0 := .int .i64 2) (v1 := .string ⟨#[]⟩) (v2 := .string ⟨#[]⟩) (v3 := .int .i64 a) (v4 := .int .i64 b) r0 r1 r2 r3 r4
        exact bodyPost_ret (nm_res2 _ 4 5 rfl _ (.int .i64 0) rfl rfl k5) rfl ⟨rfl, below_set5 HBW.out (Nat.le_refl _)⟩

set_option maxRecDepth 100000 in
set_option maxHeartbeats 4000000 in
theorem rjoin_dtn (s t : ByteArray) (ht : t.size ≤ 4000000000) (k : Int) (nd sv : ByteArray) (a b : Int) (hrgh : nmO k nd sv a b = rgh s.data.toList t.data.toList) (hn : nd.size ≤ 4000000000) (hsv : sv.size ≤ 4000000000) (hk : k = 1) (hnd : splA 47 t 2 = nd) (hsv0 : splB 47 t 2 = sv) (ha : a = 0) (hb : b = 0) (hw : (s.toList == [105, 112, 110]) = false ∧ (t.toList == [110, 111, 110, 101]) = false ∧ 2 < t.size) (w : World) :
    Calls Tryz.prog 33 #[.string s, .string t] w fun e w' => e = .returned (.tuple #[nmX (jnR s.data.toList t.data.toList), .int .i64 (erX (jnR s.data.toList t.data.toList))]) ∧ Below w.heap.size w w' := by
  have HCUT := Lib.hid (fun W => rcut_any t 2 47 ht (by omega) W)
  rw [hnd, hsv0] at HCUT
  clear hnd hsv0
  obtain ⟨g1, g2⟩ := refB_red hrgh
  rw [← g1, ← g2]
  clear g1 g2 hrgh
  have HC := Lib.hid (fun W => rhalves_any k nd sv a b W hn hsv)
  clear hn hsv
  unfold refB
  unfold erS at HC
  generalize nmO k nd sv a b = o at *
  have HQ1 := Lib.hid (str_eqb (hfS o) s)
  have HQ2 := Lib.hid (str_eqb (rsS o) t)
  obtain ⟨r, hr⟩ : ∃ r, nmR o = r := ⟨_, rfl⟩
  obtain ⟨u1, hu1⟩ : ∃ u, decide (hfS o = s) = u := ⟨_, rfl⟩
  obtain ⟨u2, hu2⟩ : ∃ u, decide (rsS o = t) = u := ⟨_, rfl⟩
  rw [hr] at HC
  rw [hr, hu1, hu2]
  rw [hu1] at HQ1
  rw [hu2] at HQ2
  clear hr hu1 hu2
  generalize hfS o = hs at *
  generalize rsS o = rs at *
  unfold nmV at *
  subst hk ha hb
  obtain ⟨b1, b2, b3⟩ := hw
  have HBX0 := Lib.hid (show Below w.heap.size w ((w.alloc (.cells #[.int .i64 0, .string ⟨#[]⟩, .string ⟨#[]⟩, .int .i64 0, .int .i64 0] 23)).alloc (.cells #[.int .i64 0, .string ⟨#[]⟩, .string ⟨#[]⟩, .int .i64 0, .int .i64 0] 23)) from below_alloc_l (below_alloc_l (Below.refl _ _)))
  go_enter Tryz.func33, Tryz.ntmps33
  go_wp2_with fail
  refine (HCUT.out _).mono ?_
  rintro e w1 ⟨rfl, hb1⟩
  have z0 : w1.cell? ⟨w.heap.size, 0, none⟩ = some (.int .i64 0) := (hb1.cell (p := ⟨w.heap.size, 0, none⟩) (by simp; try omega)).trans (by go_simp)
  have z1 : w1.cell? ⟨w.heap.size, 1, none⟩ = some (.string ⟨#[]⟩) := (hb1.cell (p := ⟨w.heap.size, 1, none⟩) (by simp; try omega)).trans (by go_simp)
  have z2 : w1.cell? ⟨w.heap.size, 2, none⟩ = some (.string ⟨#[]⟩) := (hb1.cell (p := ⟨w.heap.size, 2, none⟩) (by simp; try omega)).trans (by go_simp)
  have z3 : w1.cell? ⟨w.heap.size, 3, none⟩ = some (.int .i64 0) := (hb1.cell (p := ⟨w.heap.size, 3, none⟩) (by simp; try omega)).trans (by go_simp)
  have z4 : w1.cell? ⟨w.heap.size, 4, none⟩ = some (.int .i64 0) := (hb1.cell (p := ⟨w.heap.size, 4, none⟩) (by simp; try omega)).trans (by go_simp)
  have zq0 : w1.frozen? ⟨w.heap.size, 0, none⟩ = false := (hb1.frozen (p := ⟨w.heap.size, 0, none⟩) (by simp; try omega)).trans (by go_simp)
  have zq1 : w1.frozen? ⟨w.heap.size, 1, none⟩ = false := (hb1.frozen (p := ⟨w.heap.size, 1, none⟩) (by simp; try omega)).trans (by go_simp)
  have zq2 : w1.frozen? ⟨w.heap.size, 2, none⟩ = false := (hb1.frozen (p := ⟨w.heap.size, 2, none⟩) (by simp; try omega)).trans (by go_simp)
  have zq3 : w1.frozen? ⟨w.heap.size, 3, none⟩ = false := (hb1.frozen (p := ⟨w.heap.size, 3, none⟩) (by simp; try omega)).trans (by go_simp)
  have zq4 : w1.frozen? ⟨w.heap.size, 4, none⟩ = false := (hb1.frozen (p := ⟨w.heap.size, 4, none⟩) (by simp; try omega)).trans (by go_simp)
  have m0 : w1.cell? ⟨w.heap.size + 1, 0, none⟩ = some (.int .i64 0) := (hb1.cell (p := ⟨w.heap.size + 1, 0, none⟩) (by simp; try omega)).trans (by go_simp)
  have m1 : w1.cell? ⟨w.heap.size + 1, 1, none⟩ = some (.string ⟨#[]⟩) := (hb1.cell (p := ⟨w.heap.size + 1, 1, none⟩) (by simp; try omega)).trans (by go_simp)
  have m2 : w1.cell? ⟨w.heap.size + 1, 2, none⟩ = some (.string ⟨#[]⟩) := (hb1.cell (p := ⟨w.heap.size + 1, 2, none⟩) (by simp; try omega)).trans (by go_simp)
  have m3 : w1.cell? ⟨w.heap.size + 1, 3, none⟩ = some (.int .i64 0) := (hb1.cell (p := ⟨w.heap.size + 1, 3, none⟩) (by simp; try omega)).trans (by go_simp)
  have m4 : w1.cell? ⟨w.heap.size + 1, 4, none⟩ = some (.int .i64 0) := (hb1.cell (p := ⟨w.heap.size + 1, 4, none⟩) (by simp; try omega)).trans (by go_simp)
  have mq0 : w1.frozen? ⟨w.heap.size + 1, 0, none⟩ = false := (hb1.frozen (p := ⟨w.heap.size + 1, 0, none⟩) (by simp; try omega)).trans (by go_simp)
  have mq1 : w1.frozen? ⟨w.heap.size + 1, 1, none⟩ = false := (hb1.frozen (p := ⟨w.heap.size + 1, 1, none⟩) (by simp; try omega)).trans (by go_simp)
  have mq2 : w1.frozen? ⟨w.heap.size + 1, 2, none⟩ = false := (hb1.frozen (p := ⟨w.heap.size + 1, 2, none⟩) (by simp; try omega)).trans (by go_simp)
  have mq3 : w1.frozen? ⟨w.heap.size + 1, 3, none⟩ = false := (hb1.frozen (p := ⟨w.heap.size + 1, 3, none⟩) (by simp; try omega)).trans (by go_simp)
  have mq4 : w1.frozen? ⟨w.heap.size + 1, 4, none⟩ = false := (hb1.frozen (p := ⟨w.heap.size + 1, 4, none⟩) (by simp; try omega)).trans (by go_simp)
  have HBY := Lib.hid (HBX0.out.trans (hb1.mono (by simp; try omega)))
  clear hb1 HBX0
  have hz0 : w.heap.size < w1.heap.size := World.block_lt_of_cell? _ _ z0
  have hz1 : w.heap.size + 1 < w1.heap.size := World.block_lt_of_cell? _ _ m0
  go_wp2_with fail
  have k4 := set5 (v0 := .int .i64 1) (v1 := .string nd) (v2 := .string sv) (v3 := .int .i64 0) (v4 := .int .i64 0) m0 m1 m2 m3 m4
  have HBX := Lib.hid (below_set5 (v0 := .int .i64 1) (v1 := .string nd) (v2 := .string sv) (v3 := .int .i64 0) (v4 := .int .i64 0) (R := w.heap.size + 1) HBY.out (by omega))
  clear k4
  refine (HC.out _).mono ?_
  rintro e w4 ⟨rfl, hb4⟩
  have r0 : w4.cell? ⟨w.heap.size, 0, none⟩ = some (.int .i64 0) := (hb4.cell (p := ⟨w.heap.size, 0, none⟩) (by simp; try omega)).trans (by go_simp)
  have r1 : w4.cell? ⟨w.heap.size, 1, none⟩ = some (.string ⟨#[]⟩) := (hb4.cell (p := ⟨w.heap.size, 1, none⟩) (by simp; try omega)).trans (by go_simp)
  have r2 : w4.cell? ⟨w.heap.size, 2, none⟩ = some (.string ⟨#[]⟩) := (hb4.cell (p := ⟨w.heap.size, 2, none⟩) (by simp; try omega)).trans (by go_simp)
  have r3 : w4.cell? ⟨w.heap.size, 3, none⟩ = some (.int .i64 0) := (hb4.cell (p := ⟨w.heap.size, 3, none⟩) (by simp; try omega)).trans (by go_simp)
  have r4 : w4.cell? ⟨w.heap.size, 4, none⟩ = some (.int .i64 0) := (hb4.cell (p := ⟨w.heap.size, 4, none⟩) (by simp; try omega)).trans (by go_simp)
  have q0 : w4.frozen? ⟨w.heap.size, 0, none⟩ = false := (hb4.frozen (p := ⟨w.heap.size, 0, none⟩) (by simp; try omega)).trans (by go_simp)
  have q1 : w4.frozen? ⟨w.heap.size, 1, none⟩ = false := (hb4.frozen (p := ⟨w.heap.size, 1, none⟩) (by simp; try omega)).trans (by go_simp)
  have q2 : w4.frozen? ⟨w.heap.size, 2, none⟩ = false := (hb4.frozen (p := ⟨w.heap.size, 2, none⟩) (by simp; try omega)).trans (by go_simp)
  have q3 : w4.frozen? ⟨w.heap.size, 3, none⟩ = false := (hb4.frozen (p := ⟨w.heap.size, 3, none⟩) (by simp; try omega)).trans (by go_simp)
  have q4 : w4.frozen? ⟨w.heap.size, 4, none⟩ = false := (hb4.frozen (p := ⟨w.heap.size, 4, none⟩) (by simp; try omega)).trans (by go_simp)
  have n0 : w4.cell? ⟨w.heap.size + 1, 0, none⟩ = some (.int .i64 1) := (hb4.cell (p := ⟨w.heap.size + 1, 0, none⟩) (by simp; try omega)).trans (by go_simp)
  have n1 : w4.cell? ⟨w.heap.size + 1, 1, none⟩ = some (.string nd) := (hb4.cell (p := ⟨w.heap.size + 1, 1, none⟩) (by simp; try omega)).trans (by go_simp)
  have n2 : w4.cell? ⟨w.heap.size + 1, 2, none⟩ = some (.string sv) := (hb4.cell (p := ⟨w.heap.size + 1, 2, none⟩) (by simp; try omega)).trans (by go_simp)
  have n3 : w4.cell? ⟨w.heap.size + 1, 3, none⟩ = some (.int .i64 0) := (hb4.cell (p := ⟨w.heap.size + 1, 3, none⟩) (by simp; try omega)).trans (by go_simp)
  have n4 : w4.cell? ⟨w.heap.size + 1, 4, none⟩ = some (.int .i64 0) := (hb4.cell (p := ⟨w.heap.size + 1, 4, none⟩) (by simp; try omega)).trans (by go_simp)
  have HBW := Lib.hid (HBX.out.trans (hb4.mono (by simp; try omega)))
  clear hb4 HBX
  have hz5 : w.heap.size < w4.heap.size := World.block_lt_of_cell? _ _ r0
  cases r with
  | false =>
    clear HQ1 HQ2 n0 n1 n2 n3 n4
    go_wp2_with fail
    have k5 := set5 (v0 := .int .i64 0) (v1 := .string ⟨#[]⟩) (v2 := .string ⟨#[]⟩) (v3 := .int .i64 0) (v4 := .int .i64 0) r0 r1 r2 r3 r4
    exact bodyPost_ret (nm_res2 _ 4 5 rfl _ (.int .i64 60) rfl rfl k5) rfl ⟨rfl, below_set5 HBW.out (Nat.le_refl _)⟩
  | true =>
    have hq1 := HQ1.out
    have hq2 := HQ2.out
    clear HQ1 HQ2
    cases u1 with
    | false =>
      clear n0 n1 n2 n3 n4 hq2
      go_wp2_with fail
      have k5 := set5 (v0 := .int .i64 0) (v1 := .string ⟨#[]⟩) (v2 := .string ⟨#[]⟩) (v3 := .int .i64 0) (v4 := .int .i64 0) r0 r1 r2 r3 r4
      exact bodyPost_ret (nm_res2 _ 4 5 rfl _ (.int .i64 60) rfl rfl k5) rfl ⟨rfl, below_set5 HBW.out (Nat.le_refl _)⟩
    | true =>
      cases u2 with
      | false =>
        clear n0 n1 n2 n3 n4
        go_wp2_with fail
        have k5 := set5 (v0 := .int .i64 0) (v1 := .string ⟨#[]⟩) (v2 := .string ⟨#[]⟩) (v3 := .int .i64 0) (v4 := .int .i64 0) r0 r1 r2 r3 r4
        exact bodyPost_ret (nm_res2 _ 4 5 rfl _ (.int .i64 60) rfl rfl k5) rfl ⟨rfl, below_set5 HBW.out (Nat.le_refl _)⟩
      | true =>
        go_wp2_with fail
        have k5 := set5 (v0 := .int .i64 1) (v1 := .string nd) (v2 := .string sv) (v3 := .int .i64 0) (v4 := .int .i64 0) r0 r1 r2 r3 r4
        exact bodyPost_ret (nm_res2 _ 4 5 rfl _ (.int .i64 0) rfl rfl k5) rfl ⟨rfl, below_set5 HBW.out (Nat.le_refl _)⟩

end Go.Proofs.YtmbmolgkccjedaaGreatDoor

/- The document's Join (all its ways) and Parse of package eid. -/
set_option linter.unusedVariables false
set_option linter.unusedSimpArgs false
namespace Go.Proofs.YtmbmolgkccjedaaGreatDoor
open Go.RowKit

theorem toList_data (s : ByteArray) : s.toList = s.data.toList := by
  exact ByteArray.toList_eq s
theorem toList_beq (s : ByteArray) (l : List UInt8) : (s.toList == l) = decide (s.data.toList = l) := by
  rw [toList_data]
  by_cases h : s.data.toList = l
  · rw [h]; simp
  · simp [h]

theorem rjoin_any (s t : ByteArray) (ht : t.size ≤ 4000000000) (w : World) :
    Calls Tryz.prog 33 #[.string s, .string t] w fun e w' => e = .returned (.tuple #[nmX (jnR s.data.toList t.data.toList), .int .i64 (erX (jnR s.data.toList t.data.toList))]) ∧ Below w.heap.size w w' := by
  have hlen : t.data.toList.length = t.size := size_len t
  by_cases h1 : s.data.toList = [105, 112, 110]
  · have b1 : (s.toList == [105, 112, 110]) = true := by rw [toList_beq]; simpa using h1
    refine rjoin_ipn s t ht 2 ⟨#[]⟩ ⟨#[]⟩ ((valD (splA 46 t 0).data.toList : Nat) : Int) ((valD (splB 46 t 0).data.toList : Nat) : Int) ?_ (by decide) (by decide) rfl rfl rfl rfl rfl b1 w
    unfold rgh
    rw [if_pos h1, splA_data, splB_data]
    rfl
  · have b1 : (s.toList == [105, 112, 110]) = false := by rw [toList_beq]; simpa using h1
    by_cases h2 : t.data.toList = [110, 111, 110, 101]
    · have b2 : (t.toList == [110, 111, 110, 101]) = true := by rw [toList_beq]; simpa using h2
      refine rjoin_zero s t ht 0 ⟨#[]⟩ ⟨#[]⟩ 0 0 ?_ (by decide) (by decide) rfl rfl rfl rfl rfl ⟨b1, .inl b2⟩ w
      unfold rgh
      rw [if_neg h1, if_neg (fun h => h.1 h2)]
      rfl
    · have b2 : (t.toList == [110, 111, 110, 101]) = false := by rw [toList_beq]; simpa using h2
      by_cases h3 : 2 < t.size
      · refine rjoin_dtn s t ht 1 (splA 47 t 2) (splB 47 t 2) 0 0 ?_ (Nat.le_trans (spl_size1 _ _ _) ht) (Nat.le_trans (spl_size2 _ _ _) ht) rfl rfl rfl rfl rfl ⟨b1, b2, h3⟩ w
        unfold rgh
        rw [if_neg h1, if_pos ⟨h2, by rw [hlen]; exact h3⟩]
        unfold nmO
        rw [splA_data, splB_data]
      · refine rjoin_zero s t ht 0 ⟨#[]⟩ ⟨#[]⟩ 0 0 ?_ (by decide) (by decide) rfl rfl rfl rfl rfl ⟨b1, .inr ⟨b2, h3⟩⟩ w
        unfold rgh
        rw [if_neg h1, if_neg (fun h => h3 (by rw [← hlen]; exact h.2))]
        rfl

theorem ext_take (s : ByteArray) (j : Nat) : (s.extract 0 j).data.toList = s.data.toList.take j := by
  rw [ext_data]; simp
theorem ext_drop (s : ByteArray) (j : Nat) : (s.extract j s.size).data.toList = s.data.toList.drop j := by
  rw [ext_data, ← size_len s]
  exact List.take_of_length_le (by simp)

theorem nmX_none : nmX none = nmV 0 ⟨#[]⟩ ⟨#[]⟩ 0 0 := rfl

/-- A text's name by the document, by its ways. -/
theorem prsR_way (s : ByteArray) : (¬ 4 ≤ s.size ∧ prsR s.data.toList = none) ∨ (∃ c : UInt8, (∃ h : 3 < s.size, s[3] = c) ∧ 4 ≤ s.size ∧ c ≠ 58 ∧ prsR s.data.toList = none) ∨ (∃ c : UInt8, (∃ h : 3 < s.size, s[3] = c) ∧ 4 ≤ s.size ∧ c = 58 ∧ prsR s.data.toList = jnR (s.extract 0 3).data.toList (s.extract 4 s.size).data.toList) := by
  have hlen : s.data.toList.length = s.size := size_len s
  rw [ext_take, ext_drop]
  unfold prsR
  by_cases h4 : 4 ≤ s.size
  · have h3 : 3 < s.size := by omega
    have hg : s.data.toList[3]? = some s[3] := by
      rw [List.getElem?_eq_getElem (by omega)]
      rfl
    by_cases hc : s[3] = 58
    · refine .inr (.inr ⟨s[3], ⟨h3, rfl⟩, h4, hc, ?_⟩)
      rw [if_neg]
      rw [hg, hc]
      intro h
      rcases h with h | h
      · omega
      · exact h rfl
    · refine .inr (.inl ⟨s[3], ⟨h3, rfl⟩, h4, hc, ?_⟩)
      rw [if_pos]
      rw [hg]
      exact .inr (fun h => hc (Option.some.inj h))
  · exact .inl ⟨h4, if_pos (.inl (by omega))⟩

end Go.Proofs.YtmbmolgkccjedaaGreatDoor

/- What cut and Cut, of the statements' package 06, answer. -/
set_option linter.unusedVariables false
set_option linter.unusedSimpArgs false
namespace Go.Proofs.YtmbmolgkccjedaaGreatDoor
open Go.RowKit

def c21 (s : ByteArray) : ByteArray := s.extract 0 (min s.size 21)
def c80 (s : ByteArray) : ByteArray := s.extract 0 (min s.size 80)
theorem c21_le (s : ByteArray) : (c21 s).size ≤ 21 := by unfold c21; rw [ByteArray.size_extract]; omega
theorem c80_le (s : ByteArray) : (c80 s).size ≤ 80 := by unfold c80; rw [ByteArray.size_extract]; omega

set_option maxRecDepth 100000 in
set_option maxHeartbeats 4000000 in
theorem lCut_any (k : Int) (nd sv : ByteArray) (a b : Int) (w : World) (hn : nd.size ≤ maxLen) (hs : sv.size ≤ maxLen) :
    Calls Tryz.prog 9 #[nmV k nd sv a b] w fun e w' => e = .returned (nmV k (c21 nd) (c21 sv) a b) ∧ Below w.heap.size w w' := by
  unfold maxLen at hn hs
  have e1 : (min (nd.size : Int) 21).toNat = min nd.size 21 := by omega
  have e2 : (min (sv.size : Int) 21).toNat = min sv.size 21 := by omega
  have g1 : (0 : Int) ≤ min (nd.size : Int) 21 := by omega
  have g2 : min (nd.size : Int) 21 ≤ (nd.size : Int) := by omega
  have g3 : (0 : Int) ≤ min (sv.size : Int) 21 := by omega
  have g4 : min (sv.size : Int) 21 ≤ (sv.size : Int) := by omega
  have HBX := Lib.hid (show Below w.heap.size w ((w.alloc (.cells #[.int .i64 k, .string nd, .string sv, .int .i64 a, .int .i64 b] 23)).alloc (.cells #[.int .i64 0, .string ⟨#[]⟩, .string ⟨#[]⟩, .int .i64 0, .int .i64 0] 23)) from below_alloc_l (below_alloc_l (Below.refl _ _)))
  unfold c21
  unfold nmV
  go_enter Tryz.func9, Tryz.ntmps9
  go_wp2_with fail
  have n0 : ((w.alloc (.cells #[.int .i64 k, .string nd, .string sv, .int .i64 a, .int .i64 b] 23)).alloc (.cells #[.int .i64 0, .string ⟨#[]⟩, .string ⟨#[]⟩, .int .i64 0, .int .i64 0] 23)).cell? ⟨w.heap.size, 0, none⟩ = some (.int .i64 k) := by go_simp
  have n1 : ((w.alloc (.cells #[.int .i64 k, .string nd, .string sv, .int .i64 a, .int .i64 b] 23)).alloc (.cells #[.int .i64 0, .string ⟨#[]⟩, .string ⟨#[]⟩, .int .i64 0, .int .i64 0] 23)).cell? ⟨w.heap.size, 1, none⟩ = some (.string nd) := by go_simp
  have n2 : ((w.alloc (.cells #[.int .i64 k, .string nd, .string sv, .int .i64 a, .int .i64 b] 23)).alloc (.cells #[.int .i64 0, .string ⟨#[]⟩, .string ⟨#[]⟩, .int .i64 0, .int .i64 0] 23)).cell? ⟨w.heap.size, 2, none⟩ = some (.string sv) := by go_simp
  have n3 : ((w.alloc (.cells #[.int .i64 k, .string nd, .string sv, .int .i64 a, .int .i64 b] 23)).alloc (.cells #[.int .i64 0, .string ⟨#[]⟩, .string ⟨#[]⟩, .int .i64 0, .int .i64 0] 23)).cell? ⟨w.heap.size, 3, none⟩ = some (.int .i64 a) := by go_simp
  have n4 : ((w.alloc (.cells #[.int .i64 k, .string nd, .string sv, .int .i64 a, .int .i64 b] 23)).alloc (.cells #[.int .i64 0, .string ⟨#[]⟩, .string ⟨#[]⟩, .int .i64 0, .int .i64 0] 23)).cell? ⟨w.heap.size, 4, none⟩ = some (.int .i64 b) := by go_simp
  have r0 : ((w.alloc (.cells #[.int .i64 k, .string nd, .string sv, .int .i64 a, .int .i64 b] 23)).alloc (.cells #[.int .i64 0, .string ⟨#[]⟩, .string ⟨#[]⟩, .int .i64 0, .int .i64 0] 23)).cell? ⟨w.heap.size + 1, 0, none⟩ = some (.int .i64 0) := by go_simp
  have r1 : ((w.alloc (.cells #[.int .i64 k, .string nd, .string sv, .int .i64 a, .int .i64 b] 23)).alloc (.cells #[.int .i64 0, .string ⟨#[]⟩, .string ⟨#[]⟩, .int .i64 0, .int .i64 0] 23)).cell? ⟨w.heap.size + 1, 1, none⟩ = some (.string ⟨#[]⟩) := by go_simp
  have r2 : ((w.alloc (.cells #[.int .i64 k, .string nd, .string sv, .int .i64 a, .int .i64 b] 23)).alloc (.cells #[.int .i64 0, .string ⟨#[]⟩, .string ⟨#[]⟩, .int .i64 0, .int .i64 0] 23)).cell? ⟨w.heap.size + 1, 2, none⟩ = some (.string ⟨#[]⟩) := by go_simp
  have r3 : ((w.alloc (.cells #[.int .i64 k, .string nd, .string sv, .int .i64 a, .int .i64 b] 23)).alloc (.cells #[.int .i64 0, .string ⟨#[]⟩, .string ⟨#[]⟩, .int .i64 0, .int .i64 0] 23)).cell? ⟨w.heap.size + 1, 3, none⟩ = some (.int .i64 0) := by go_simp
  have r4 : ((w.alloc (.cells #[.int .i64 k, .string nd, .string sv, .int .i64 a, .int .i64 b] 23)).alloc (.cells #[.int .i64 0, .string ⟨#[]⟩, .string ⟨#[]⟩, .int .i64 0, .int .i64 0] 23)).cell? ⟨w.heap.size + 1, 4, none⟩ = some (.int .i64 0) := by go_simp
  have q0 : ((w.alloc (.cells #[.int .i64 k, .string nd, .string sv, .int .i64 a, .int .i64 b] 23)).alloc (.cells #[.int .i64 0, .string ⟨#[]⟩, .string ⟨#[]⟩, .int .i64 0, .int .i64 0] 23)).frozen? ⟨w.heap.size + 1, 0, none⟩ = false := by go_simp
  have q1 : ((w.alloc (.cells #[.int .i64 k, .string nd, .string sv, .int .i64 a, .int .i64 b] 23)).alloc (.cells #[.int .i64 0, .string ⟨#[]⟩, .string ⟨#[]⟩, .int .i64 0, .int .i64 0] 23)).frozen? ⟨w.heap.size + 1, 1, none⟩ = false := by go_simp
  have q2 : ((w.alloc (.cells #[.int .i64 k, .string nd, .string sv, .int .i64 a, .int .i64 b] 23)).alloc (.cells #[.int .i64 0, .string ⟨#[]⟩, .string ⟨#[]⟩, .int .i64 0, .int .i64 0] 23)).frozen? ⟨w.heap.size + 1, 2, none⟩ = false := by go_simp
  have q3 : ((w.alloc (.cells #[.int .i64 k, .string nd, .string sv, .int .i64 a, .int .i64 b] 23)).alloc (.cells #[.int .i64 0, .string ⟨#[]⟩, .string ⟨#[]⟩, .int .i64 0, .int .i64 0] 23)).frozen? ⟨w.heap.size + 1, 3, none⟩ = false := by go_simp
  have q4 : ((w.alloc (.cells #[.int .i64 k, .string nd, .string sv, .int .i64 a, .int .i64 b] 23)).alloc (.cells #[.int .i64 0, .string ⟨#[]⟩, .string ⟨#[]⟩, .int .i64 0, .int .i64 0] 23)).frozen? ⟨w.heap.size + 1, 4, none⟩ = false := by go_simp
  generalize hw0 : ((w.alloc (.cells #[.int .i64 k, .string nd, .string sv, .int .i64 a, .int .i64 b] 23)).alloc (.cells #[.int .i64 0, .string ⟨#[]⟩, .string ⟨#[]⟩, .int .i64 0, .int .i64 0] 23)) = w0 at *
  clear hw0
  go_region_held3 (fun w' => w'.cell? ⟨w.heap.size, 0, none⟩ = some (.int .i64 k) ∧ w'.cell? ⟨w.heap.size, 1, none⟩ = some (.string nd) ∧ w'.cell? ⟨w.heap.size, 2, none⟩ = some (.string sv) ∧ w'.cell? ⟨w.heap.size, 3, none⟩ = some (.int .i64 a) ∧ w'.cell? ⟨w.heap.size, 4, none⟩ = some (.int .i64 b))
    (first | go_keep | (go_simp; done) | exact ⟨n0, n1, n2, n3, n4⟩) (fail)
  all_goals
    go_wp2_with fail
    have k5 := set5 (v0 := .int .i64 k) (v1 := .string (nd.extract 0 (min nd.size 21))) (v2 := .string (sv.extract 0 (min sv.size 21))) (v3 := .int .i64 a) (v4 := .int .i64 b) r0 r1 r2 r3 r4
    have hB := Lib.hid (below_drew_l (below_set5 (R := w.heap.size + 1) (v0 := .int .i64 k) (v1 := .string (nd.extract 0 (min nd.size 21))) (v2 := .string (sv.extract 0 (min sv.size 21))) (v3 := .int .i64 a) (v4 := .int .i64 b) HBX.out (by omega)))
    exact bodyPost_ret (nm_res1 _ rfl _ rfl ⟨cell_drew_l k5.1, cell_drew_l k5.2.1, cell_drew_l k5.2.2.1, cell_drew_l k5.2.2.2.1, cell_drew_l k5.2.2.2.2⟩) rfl ⟨rfl, hB.out⟩
end Go.Proofs.YtmbmolgkccjedaaGreatDoor
