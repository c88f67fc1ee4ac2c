/- The four sentinels and the table of widths of package head, as the program's text lays them; what number, of package head, answers for each sentinel; what made answers. -/
import Derived.Test.YtnmdbmmkmbdiaaaDoorNumsE
set_option linter.unusedVariables false
set_option linter.unusedSimpArgs false
namespace Go.Proofs.YtnmdbmmkmbdiaaaDoor
open Go.RowKit Go.Extern.Stop Go.Stop Go.Extern

/-- The four sentinels of package head lie as the program's text lays them, no two the same; and the table of widths. -/
structure EnvH (b0 b1 b2 b3 : Addr) (w : World) : Prop where
  g0 : w.cell? ⟨0, 0, none⟩ = some (.iface 113 (.pointer (some b0)))
  g1 : w.cell? ⟨1, 0, none⟩ = some (.iface 113 (.pointer (some b1)))
  g2 : w.cell? ⟨2, 0, none⟩ = some (.iface 113 (.pointer (some b2)))
  g3 : w.cell? ⟨3, 0, none⟩ = some (.iface 113 (.pointer (some b3)))
  k0 : ∃ c t, w.heap[b0.block]? = some (.cells c t (0, 0))
  k1 : ∃ c t, w.heap[b1.block]? = some (.cells c t (0, 0))
  k2 : ∃ c t, w.heap[b2.block]? = some (.cells c t (0, 0))
  k3 : ∃ c t, w.heap[b3.block]? = some (.cells c t (0, 0))
  n01 : b0 ≠ b1
  n02 : b0 ≠ b2
  n03 : b0 ≠ b3
  n12 : b1 ≠ b2
  n13 : b1 ≠ b3
  n23 : b2 ≠ b3
  t0 : w.cell? ⟨4, 0, none⟩ = some (.int .i64 24)
  t1 : w.cell? ⟨4, 1, none⟩ = some (.int .i64 1)
  t2 : w.cell? ⟨4, 2, none⟩ = some (.int .i64 25)
  t3 : w.cell? ⟨4, 3, none⟩ = some (.int .i64 2)
  t4 : w.cell? ⟨4, 4, none⟩ = some (.int .i64 26)
  t5 : w.cell? ⟨4, 5, none⟩ = some (.int .i64 4)
  t6 : w.cell? ⟨4, 6, none⟩ = some (.int .i64 27)
  t7 : w.cell? ⟨4, 7, none⟩ = some (.int .i64 8)

theorem EnvH.below {b0 b1 b2 b3 : Addr} {w w' : World} (h : EnvH b0 b1 b2 b3 w) (hb : Below w.heap.size w w') : EnvH b0 b1 b2 b3 w' := by
  have k : ∀ {a : Addr}, (∃ c t, w.heap[a.block]? = some (.cells c t (0, 0))) → ∃ c t, w'.heap[a.block]? = some (.cells c t (0, 0)) := fun ⟨c, t, e⟩ => ⟨c, t, (hb.block _ (lt_of_heap e)).trans e⟩
  have c : ∀ {a : Addr} {v : Value}, w.cell? a = some v → w'.cell? a = some v := fun e => (hb.cell (World.block_lt_of_cell? _ _ e)).trans e
  exact ⟨c h.g0, c h.g1, c h.g2, c h.g3, k h.k0, k h.k1, k h.k2, k h.k3, h.n01, h.n02, h.n03, h.n12, h.n13, h.n23, c h.t0, c h.t1, c h.t2, c h.t3, c h.t4, c h.t5, c h.t6, c h.t7⟩

set_option maxRecDepth 100000 in
set_option maxHeartbeats 1000000 in
theorem hnumber0 (b0 b1 b2 b3 : Addr) (w : World) (hE : EnvH b0 b1 b2 b3 w) :
    Calls Tryd.prog 27 #[.iface 113 (.pointer (some b0))] w fun e w' => e = .returned (.int .i64 2) ∧ w = w' := by
  have g0 := hE.g0
  go_enter Tryd.func27, Tryd.ntmps27
  go_wp2_with (go_at_call 37; refine (is_same b0 _).mono ?_; rintro e w' ⟨rfl, rfl⟩)
  go_ret
  exact ⟨rfl, rfl⟩

set_option maxRecDepth 100000 in
set_option maxHeartbeats 1000000 in
theorem hnumber1 (b0 b1 b2 b3 : Addr) (w : World) (hE : EnvH b0 b1 b2 b3 w) :
    Calls Tryd.prog 27 #[.iface 113 (.pointer (some b1))] w fun e w' => e = .returned (.int .i64 10) ∧ w = w' := by
  have g0 := hE.g0
  have g1 := hE.g1
  obtain ⟨c0, t0, k0⟩ := hE.k0
  obtain ⟨c1, t1, k1⟩ := hE.k1
  have H0 := Lib.hid k0
  have H1 := Lib.hid k1
  clear k0 k1
  go_enter Tryd.func27, Tryd.ntmps27
  go_wp2_with fail
  refine (is_other b1 b0 c1 c0 t1 t0 _ (Ne.symm hE.n01) H1.out H0.out).mono ?_
  rintro e w' ⟨rfl, rfl⟩
  go_wp2_with fail
  refine (is_same b1 _).mono ?_
  rintro e w' ⟨rfl, rfl⟩
  go_wp2
  go_ret
  exact ⟨rfl, rfl⟩

set_option maxRecDepth 100000 in
set_option maxHeartbeats 1000000 in
theorem hnumber2 (b0 b1 b2 b3 : Addr) (w : World) (hE : EnvH b0 b1 b2 b3 w) :
    Calls Tryd.prog 27 #[.iface 113 (.pointer (some b2))] w fun e w' => e = .returned (.int .i64 11) ∧ w = w' := by
  have g0 := hE.g0
  have g1 := hE.g1
  have g2 := hE.g2
  obtain ⟨c0, t0, k0⟩ := hE.k0
  obtain ⟨c1, t1, k1⟩ := hE.k1
  obtain ⟨c2, t2, k2⟩ := hE.k2
  have H0 := Lib.hid k0
  have H1 := Lib.hid k1
  have H2 := Lib.hid k2
  clear k0 k1 k2
  go_enter Tryd.func27, Tryd.ntmps27
  go_wp2_with fail
  refine (is_other b2 b0 c2 c0 t2 t0 _ (Ne.symm hE.n02) H2.out H0.out).mono ?_
  rintro e w' ⟨rfl, rfl⟩
  go_wp2_with fail
  refine (is_other b2 b1 c2 c1 t2 t1 _ (Ne.symm hE.n12) H2.out H1.out).mono ?_
  rintro e w' ⟨rfl, rfl⟩
  go_wp2_with fail
  refine (is_same b2 _).mono ?_
  rintro e w' ⟨rfl, rfl⟩
  go_wp2
  go_ret
  exact ⟨rfl, rfl⟩

set_option maxRecDepth 100000 in
set_option maxHeartbeats 1000000 in
theorem hnumber3 (b0 b1 b2 b3 : Addr) (w : World) (hE : EnvH b0 b1 b2 b3 w) :
    Calls Tryd.prog 27 #[.iface 113 (.pointer (some b3))] w fun e w' => e = .returned (.int .i64 20) ∧ w = w' := by
  have g0 := hE.g0
  have g1 := hE.g1
  have g2 := hE.g2
  obtain ⟨c0, t0, k0⟩ := hE.k0
  obtain ⟨c1, t1, k1⟩ := hE.k1
  obtain ⟨c2, t2, k2⟩ := hE.k2
  obtain ⟨c3, t3, k3⟩ := hE.k3
  have H0 := Lib.hid k0
  have H1 := Lib.hid k1
  have H2 := Lib.hid k2
  have H3 := Lib.hid k3
  clear k0 k1 k2 k3
  go_enter Tryd.func27, Tryd.ntmps27
  go_wp2_with fail
  refine (is_other b3 b0 c3 c0 t3 t0 _ (Ne.symm hE.n03) H3.out H0.out).mono ?_
  rintro e w' ⟨rfl, rfl⟩
  go_wp2_with fail
  refine (is_other b3 b1 c3 c1 t3 t1 _ (Ne.symm hE.n13) H3.out H1.out).mono ?_
  rintro e w' ⟨rfl, rfl⟩
  go_wp2_with fail
  refine (is_other b3 b2 c3 c2 t3 t2 _ (Ne.symm hE.n23) H3.out H2.out).mono ?_
  rintro e w' ⟨rfl, rfl⟩
  go_wp2
  go_ret
  exact ⟨rfl, rfl⟩

/-- The sentinel at b is the one that stands for the error's number k. -/
def SentH (b0 b1 b2 b3 b : Addr) (k : Int) : Prop := (b = b0 ∧ k = 2) ∨ (b = b1 ∧ k = 10) ∨ (b = b2 ∧ k = 11) ∨ (b = b3 ∧ k = 20)

theorem hnumber_any (b0 b1 b2 b3 b : Addr) (k : Int) (w : World) (hE : EnvH b0 b1 b2 b3 w) (hs : SentH b0 b1 b2 b3 b k) :
    Calls Tryd.prog 27 #[.iface 113 (.pointer (some b))] w fun e w' => e = .returned (.int .i64 k) ∧ w = w' := by
  rcases hs with ⟨rfl, rfl⟩ | ⟨rfl, rfl⟩ | ⟨rfl, rfl⟩ | ⟨rfl, rfl⟩
  · exact hnumber0 _ _ _ _ _ hE
  · exact hnumber1 _ _ _ _ _ hE
  · exact hnumber2 _ _ _ _ _ hE
  · exact hnumber3 _ _ _ _ _ hE

set_option maxHeartbeats 400000 in
theorem mades_ok (s : ByteArray) (w : World) :
    Calls Tryd.prog 18 #[.string s, .nilIface] w fun e w' => e = .returned (.agg #[.string s, .int .i64 0]) ∧ Below w.heap.size w w' := by
  go_enter Tryd.func18, Tryd.ntmps18
  go_wp2
  exact bodyPost_ret (v := .agg #[.string s, .int .i64 0]) (by simp [results, Tryd.results18, go_sem]) rfl ⟨rfl, (Below.refl _ _).alloc (Nat.le_refl _) _⟩

set_option maxHeartbeats 400000 in
theorem mades_bad (b0 b1 b2 b3 b : Addr) (k : Int) (s : ByteArray) (w : World) (hE : EnvH b0 b1 b2 b3 w) (hs : SentH b0 b1 b2 b3 b k) :
    Calls Tryd.prog 18 #[.string s, .iface 113 (.pointer (some b))] w fun e w' => e = .returned (.agg #[.string ⟨#[]⟩, .int .i64 k]) ∧ Below w.heap.size w w' := by
  go_enter Tryd.func18, Tryd.ntmps18
  go_wp2_with fail
  refine (hnumber_any b0 b1 b2 b3 b k _ (hE.below ((Below.refl _ _).alloc (Nat.le_refl _) _)) hs).mono ?_
  rintro e w' ⟨rfl, rfl⟩
  go_wp2
  exact bodyPost_ret (v := .agg #[.string ⟨#[]⟩, .int .i64 k]) (by simp [results, Tryd.results18, go_sem]) rfl ⟨rfl, (Below.refl _ _).alloc (Nat.le_refl _) _⟩

set_option maxHeartbeats 400000 in
theorem madep_ok (m t n at0 : Int) (w : World) :
    Calls Tryd.prog 24 #[.agg #[.int .i64 m, .int .i64 t, .int .i64 n, .int .i64 at0], .nilIface] w fun e w' => e = .returned (.agg #[.int .i64 m, .int .i64 t, .int .i64 n, .int .i64 at0, .int .i64 0]) ∧ Below w.heap.size w w' := by
  go_enter Tryd.func24, Tryd.ntmps24
  go_wp2
  exact bodyPost_ret (v := .agg #[.int .i64 m, .int .i64 t, .int .i64 n, .int .i64 at0, .int .i64 0]) (by simp [results, Tryd.results24, go_sem]) rfl ⟨rfl, ((Below.refl _ _).alloc (Nat.le_refl _) _).alloc (by simp) _⟩

set_option maxHeartbeats 400000 in
theorem madep_bad (b0 b1 b2 b3 b : Addr) (k : Int) (m t n at0 : Int) (w : World) (hE : EnvH b0 b1 b2 b3 w) (hs : SentH b0 b1 b2 b3 b k) :
    Calls Tryd.prog 24 #[.agg #[.int .i64 m, .int .i64 t, .int .i64 n, .int .i64 at0], .iface 113 (.pointer (some b))] w fun e w' => e = .returned (.agg #[.int .i64 0, .int .i64 0, .int .i64 0, .int .i64 0, .int .i64 k]) ∧ Below w.heap.size w w' := by
  go_enter Tryd.func24, Tryd.ntmps24
  go_wp2_with fail
  refine (hnumber_any b0 b1 b2 b3 b k _ (hE.below (((Below.refl _ _).alloc (Nat.le_refl _) _).alloc (by simp) _)) hs).mono ?_
  rintro e w' ⟨rfl, rfl⟩
  go_wp2
  exact bodyPost_ret (v := .agg #[.int .i64 0, .int .i64 0, .int .i64 0, .int .i64 0, .int .i64 k]) (by simp [results, Tryd.results24, go_sem]) rfl ⟨rfl, ((Below.refl _ _).alloc (Nat.le_refl _) _).alloc (by simp) _⟩

/-- Is it a major? -/
def majB (m : Int) : Bool := decide (m = 0 ∨ 2 ≤ m ∧ m ≤ 4)

set_option maxHeartbeats 400000 in
theorem major_any (m : Int) (w : World) :
    Calls Tryd.prog 29 #[.int .i64 m] w fun e w' => e = .returned (.bool (majB m)) ∧ w = w' := by
  unfold majB
  by_cases h0 : m = 0
  · subst h0
    go_enter Tryd.func29, Tryd.ntmps29
    go_wp2
    go_ret
    exact ⟨rfl, rfl⟩
  by_cases h2 : m = 2
  · subst h2
    go_enter Tryd.func29, Tryd.ntmps29
    go_wp2
    go_ret
    exact ⟨rfl, rfl⟩
  by_cases h3 : m = 3
  · subst h3
    go_enter Tryd.func29, Tryd.ntmps29
    go_wp2
    go_ret
    exact ⟨rfl, rfl⟩
  by_cases h4 : m = 4
  · subst h4
    go_enter Tryd.func29, Tryd.ntmps29
    go_wp2
    go_ret
    exact ⟨rfl, rfl⟩
  have hd : decide (m = 0 ∨ 2 ≤ m ∧ m ≤ 4) = false := by simp; omega
  rw [hd]
  clear hd
  have e0 : (m == 0) = false := by simpa using h0
  have e2 : (m == 2) = false := by simpa using h2
  have e3 : (m == 3) = false := by simpa using h3
  have e4 : (m == 4) = false := by simpa using h4
  go_enter Tryd.func29, Tryd.ntmps29
  go_wp2
  go_ret
  exact ⟨rfl, rfl⟩
end Go.Proofs.YtnmdbmmkmbdiaaaDoor
