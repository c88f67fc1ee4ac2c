/- Contracts of Table, Sum, Of and Size of package crc: for every kind, table, text. -/
import Derived.Test.YtdlkmdjhjdpmeaaGreatDoorCFind
import Derived.Deep.RegionHeld3
set_option linter.unusedVariables false
set_option linter.unusedSimpArgs false
namespace Go.Proofs.YtdlkmdjhjdpmeaaGreatDoor
open Go.RowKit Go.Extern.Stop Go.Stop Go.Extern

theorem find_k {b0 b1 : Addr} {k a b c : Int} (w : World) (hE : EnvC b0 b1 w) (hk : kindR k = ((a, b, c), false)) :
    Calls Tryz.prog 98 #[.int .i64 k] w fun e w' => e = .returned (.tuple #[.agg #[.int .i64 a, .int .i64 b, .int .u32 c], .nilIface]) ∧ Below w.heap.size w w' := by
  have h := find_any b0 b1 k w hE
  rw [hk] at h
  exact h
theorem find_no {b0 b1 : Addr} {k : Int} (w : World) (hE : EnvC b0 b1 w) (hk : kindR k = ((0, 0, 0), true)) :
    Calls Tryz.prog 98 #[.int .i64 k] w fun e w' => e = .returned (.tuple #[.agg #[.int .i64 0, .int .i64 0, .int .u32 0], .iface 179 (.pointer (some b0))]) ∧ Below w.heap.size w w' := by
  have h := find_any b0 b1 k w hE
  rw [hk] at h
  exact h
theorem cdrewN {B : Nat} {a w : World} (h : Below B a w) (q : Nat) : Below B a (w.drewN q) := ⟨h.os, h.tape, h.output, h.size, h.block⟩
theorem kindR_none {k : Int} (h0 : k ≠ 0) (h1 : k ≠ 1) (h2 : k ≠ 2) : kindR k = ((0, 0, 0), true) := by
  unfold kindR; rw [if_neg h0, if_neg h1, if_neg h2]

theorem three_cells {w : World} {b : Nat} {x y z : Value} (c0 : w.cell? ⟨b, 0, none⟩ = some x) (c1 : w.cell? ⟨b, 1, none⟩ = some y) (c2 : w.cell? ⟨b, 2, none⟩ = some z) (u v t : Value) :
    (((w.setCell ⟨b, 0, none⟩ u).setCell ⟨b, 1, none⟩ v).setCell ⟨b, 2, none⟩ t).cell? ⟨b, 0, none⟩ = some u ∧ (((w.setCell ⟨b, 0, none⟩ u).setCell ⟨b, 1, none⟩ v).setCell ⟨b, 2, none⟩ t).cell? ⟨b, 1, none⟩ = some v ∧ (((w.setCell ⟨b, 0, none⟩ u).setCell ⟨b, 1, none⟩ v).setCell ⟨b, 2, none⟩ t).cell? ⟨b, 2, none⟩ = some t :=
  ⟨by simp [go_sem, c0], by simp [go_sem, c1], by simp [go_sem, c2]⟩
theorem wide_res {w : World} {B : Nat} {x y z u : Value} {tmps : Array Value} (d0 : w.cell? ⟨B, 0, none⟩ = some x) (d1 : w.cell? ⟨B, 1, none⟩ = some y) (d2 : w.cell? ⟨B, 2, none⟩ = some z) (h2 : tmps[2]?.getD undef = .pointer (some ⟨B, 0, none⟩) := by rfl) (h3 : tmps[3]?.getD undef = u := by rfl) : (results Tryz.f86 tmps).run Tryz.prog w = .ok (.tuple #[.agg #[x, y, z], u]) w := by
  simp [results, Tryz.results86, go_sem, h2, h3, d0, d1, d2]

set_option maxRecDepth 100000 in
set_option maxHeartbeats 1000000 in
theorem wide_k {b0 b1 : Addr} {k a b c : Int} (w : World) (hE : EnvC b0 b1 w) (hk0 : k ≠ 0) (hk : kindR k = ((a, b, c), false)) :
    Calls Tryz.prog 86 #[.int .i64 k] w fun e w' => e = .returned (.tuple #[.agg #[.int .i64 a, .int .i64 b, .int .u32 c], .nilIface]) ∧ Below w.heap.size w w' := by
  have hkb : (k == 0) = false := by simpa using hk0
  have HF := Lib.hid (find_k (w.alloc (.cells #[.int .i64 0, .int .i64 0, .int .u32 0] 127)) (hE.below ((Below.refl _ _).alloc (Nat.le_refl _) _)) hk)
  clear hk hk0
  go_enter Tryz.func86, Tryz.ntmps86
  go_wp2_with fail
  refine HF.out.mono ?_
  rintro e w1 ⟨rfl, hb1⟩
  obtain ⟨hc, hf⟩ := bcell hb1
  simp only [World.size_alloc] at hc hf
  have c0 : w1.cell? ⟨w.heap.size, 0, none⟩ = some (.int .i64 0) := (hc _ 0 (by omega)).trans (by go_simp)
  have c1 : w1.cell? ⟨w.heap.size, 1, none⟩ = some (.int .i64 0) := (hc _ 1 (by omega)).trans (by go_simp)
  have c2 : w1.cell? ⟨w.heap.size, 2, none⟩ = some (.int .u32 0) := (hc _ 2 (by omega)).trans (by go_simp)
  have f0 : w1.frozen? ⟨w.heap.size, 0, none⟩ = false := (hf _ 0 (by omega)).trans (by go_simp)
  have f1 : w1.frozen? ⟨w.heap.size, 1, none⟩ = false := (hf _ 1 (by omega)).trans (by go_simp)
  have f2 : w1.frozen? ⟨w.heap.size, 2, none⟩ = false := (hf _ 2 (by omega)).trans (by go_simp)
  have hB : Below w.heap.size w w1 := ((Below.refl _ _).alloc (Nat.le_refl _) _).trans (hb1.mono (by simp))
  clear hc hf hb1 HF
  go_wp2
  obtain ⟨d0, d1, d2⟩ := three_cells c0 c1 c2 (.int .i64 a) (.int .i64 b) (.int .u32 c)
  exact bodyPost_ret (wide_res d0 d1 d2) rfl ⟨rfl, ((hB.setCell (p := ⟨w.heap.size, 0, none⟩) (Nat.le_refl _) _).setCell (p := ⟨w.heap.size, 1, none⟩) (Nat.le_refl _) _).setCell (p := ⟨w.heap.size, 2, none⟩) (Nat.le_refl _) _⟩

set_option maxRecDepth 100000 in
set_option maxHeartbeats 1000000 in
theorem wide_none {b0 b1 : Addr} {k : Int} (w : World) (hE : EnvC b0 b1 w) (hk0 : k ≠ 0) (hk : kindR k = ((0, 0, 0), true)) :
    Calls Tryz.prog 86 #[.int .i64 k] w fun e w' => e = .returned (.tuple #[.agg #[.int .i64 0, .int .i64 0, .int .u32 0], .iface 179 (.pointer (some b0))]) ∧ Below w.heap.size w w' := by
  have hkb : (k == 0) = false := by simpa using hk0
  have HF := Lib.hid (find_no (w.alloc (.cells #[.int .i64 0, .int .i64 0, .int .u32 0] 127)) (hE.below ((Below.refl _ _).alloc (Nat.le_refl _) _)) hk)
  clear hk hk0
  go_enter Tryz.func86, Tryz.ntmps86
  go_wp2_with fail
  refine HF.out.mono ?_
  rintro e w1 ⟨rfl, hb1⟩
  obtain ⟨hc, hf⟩ := bcell hb1
  simp only [World.size_alloc] at hc hf
  have c0 : w1.cell? ⟨w.heap.size, 0, none⟩ = some (.int .i64 0) := (hc _ 0 (by omega)).trans (by go_simp)
  have c1 : w1.cell? ⟨w.heap.size, 1, none⟩ = some (.int .i64 0) := (hc _ 1 (by omega)).trans (by go_simp)
  have c2 : w1.cell? ⟨w.heap.size, 2, none⟩ = some (.int .u32 0) := (hc _ 2 (by omega)).trans (by go_simp)
  have f0 : w1.frozen? ⟨w.heap.size, 0, none⟩ = false := (hf _ 0 (by omega)).trans (by go_simp)
  have f1 : w1.frozen? ⟨w.heap.size, 1, none⟩ = false := (hf _ 1 (by omega)).trans (by go_simp)
  have f2 : w1.frozen? ⟨w.heap.size, 2, none⟩ = false := (hf _ 2 (by omega)).trans (by go_simp)
  have hB : Below w.heap.size w w1 := ((Below.refl _ _).alloc (Nat.le_refl _) _).trans (hb1.mono (by simp))
  clear hc hf hb1 HF
  go_wp2
  obtain ⟨d0, d1, d2⟩ := three_cells c0 c1 c2 (.int .i64 0) (.int .i64 0) (.int .u32 0)
  exact bodyPost_ret (wide_res d0 d1 d2) rfl ⟨rfl, ((hB.setCell (p := ⟨w.heap.size, 0, none⟩) (Nat.le_refl _) _).setCell (p := ⟨w.heap.size, 1, none⟩) (Nat.le_refl _) _).setCell (p := ⟨w.heap.size, 2, none⟩) (Nat.le_refl _) _⟩

set_option maxRecDepth 100000 in
set_option maxHeartbeats 1000000 in
theorem wide_zero {b0 b1 : Addr} (w : World) (hE : EnvC b0 b1 w) :
    Calls Tryz.prog 86 #[.int .i64 0] w fun e w' => e = .returned (.tuple #[.agg #[.int .i64 0, .int .i64 0, .int .u32 0], .iface 179 (.pointer (some b0))]) ∧ Below w.heap.size w w' := by
  have g0 := hE.g0
  have hz := World.block_lt_of_cell? _ _ g0
  go_enter Tryz.func86, Tryz.ntmps86
  go_wp2_with fail
  go_region
  go_wp2
  exact bodyPost_ret (v := .tuple #[.agg #[.int .i64 0, .int .i64 0, .int .u32 0], .iface 179 (.pointer (some b0))]) (by simp [results, Tryz.results86, go_sem]) rfl ⟨rfl, ((Below.refl _ _).alloc (Nat.le_refl _) _).drew⟩

theorem wide_no {b0 b1 : Addr} {k : Int} (w : World) (hE : EnvC b0 b1 w) (h1 : k ≠ 1) (h2 : k ≠ 2) :
    Calls Tryz.prog 86 #[.int .i64 k] w fun e w' => e = .returned (.tuple #[.agg #[.int .i64 0, .int .i64 0, .int .u32 0], .iface 179 (.pointer (some b0))]) ∧ Below w.heap.size w w' := by
  by_cases h0 : k = 0
  · subst h0; exact wide_zero w hE
  · exact wide_none w hE h0 (kindR_none h0 h1 h2)


set_option maxRecDepth 100000 in
set_option maxHeartbeats 1000000 in
theorem mtable16_any (w : World) :
    Calls Tryz.prog 87 #[.agg #[.int .i64 1, .int .i64 2, .int .u32 33800]] w fun e w' => (∃ A : Addr, e = .returned (.slice (some A) 256 256) ∧ U32Rd w' (some A) (tabL 33800)) ∧ Below w.heap.size w w' := by
  have HP := Lib.hid (parts16_any 33800 (w.alloc (.cells #[.int .i64 1, .int .i64 2, .int .u32 33800] 127)) (by omega))
  go_enter Tryz.func87, Tryz.ntmps87
  go_wp2_with fail
  refine HP.out.mono ?_
  rintro e w1 ⟨rfl, hU, hb1⟩
  have HU := Lib.hid (show U32Rd w1 (some ⟨w.heap.size + 1, 0, none⟩) (tabL 33800) by simpa using hU)
  have HB := Lib.hid (((Below.refl _ w).alloc (Nat.le_refl _) (.cells #[.int .i64 1, .int .i64 2, .int .u32 33800] 127)).trans (hb1.mono (by simp)))
  clear hU hb1
  go_wp2
  go_ret
  exact ⟨⟨_, rfl, HU.out⟩, HB.out⟩

set_option maxRecDepth 100000 in
set_option maxHeartbeats 1000000 in
theorem msum16_any (xs : List Nat) (A : Option Addr) (c : Nat) (s : ByteArray) (w : World) (hs : s.size ≤ 9223372036854775807) (hl : xs.length = 256) (hf : Fit32 xs) (hr : U32Rd w A xs) :
    Calls Tryz.prog 88 #[.agg #[.int .i64 1, .int .i64 2, .int .u32 33800], .slice A 256 c, .string s] w fun e w' => e = .returned (.int .u32 ((sumT 16 xs s.data.toList : Nat) : Int)) ∧ Below w.heap.size w w' := by
  have HP := Lib.hid (run16_any xs A c s (w.alloc (.cells #[.int .i64 1, .int .i64 2, .int .u32 33800] 127)) hs hl hf (hr.below ((Below.refl _ _).alloc (Nat.le_refl _) _)))
  clear hl hf hr
  go_enter Tryz.func88, Tryz.ntmps88
  go_wp2_with fail
  refine HP.out.mono ?_
  rintro e w1 ⟨rfl, hb1⟩
  have HB := Lib.hid (((Below.refl _ w).alloc (Nat.le_refl _) (.cells #[.int .i64 1, .int .i64 2, .int .u32 33800] 127)).trans (hb1.mono (by simp)))
  clear hb1
  go_wp2
  go_ret
  exact ⟨rfl, HB.out⟩


set_option maxRecDepth 100000 in
set_option maxHeartbeats 1000000 in
theorem mtable32_any (w : World) :
    Calls Tryz.prog 87 #[.agg #[.int .i64 2, .int .i64 4, .int .u32 2197175160]] w fun e w' => (∃ A : Addr, e = .returned (.slice (some A) 256 256) ∧ U32Rd w' (some A) (tabL 2197175160)) ∧ Below w.heap.size w w' := by
  have HP := Lib.hid (parts32_any 2197175160 (w.alloc (.cells #[.int .i64 2, .int .i64 4, .int .u32 2197175160] 127)) (by omega))
  go_enter Tryz.func87, Tryz.ntmps87
  go_wp2_with fail
  refine HP.out.mono ?_
  rintro e w1 ⟨rfl, hU, hb1⟩
  have HU := Lib.hid (show U32Rd w1 (some ⟨w.heap.size + 1, 0, none⟩) (tabL 2197175160) by simpa using hU)
  have HB := Lib.hid (((Below.refl _ w).alloc (Nat.le_refl _) (.cells #[.int .i64 2, .int .i64 4, .int .u32 2197175160] 127)).trans (hb1.mono (by simp)))
  clear hU hb1
  go_wp2
  go_ret
  exact ⟨⟨_, rfl, HU.out⟩, HB.out⟩

set_option maxRecDepth 100000 in
set_option maxHeartbeats 1000000 in
theorem msum32_any (xs : List Nat) (A : Option Addr) (c : Nat) (s : ByteArray) (w : World) (hs : s.size ≤ 9223372036854775807) (hl : xs.length = 256) (hf : Fit32 xs) (hr : U32Rd w A xs) :
    Calls Tryz.prog 88 #[.agg #[.int .i64 2, .int .i64 4, .int .u32 2197175160], .slice A 256 c, .string s] w fun e w' => e = .returned (.int .u32 ((sumT 32 xs s.data.toList : Nat) : Int)) ∧ Below w.heap.size w w' := by
  have HP := Lib.hid (run32_any xs A c s (w.alloc (.cells #[.int .i64 2, .int .i64 4, .int .u32 2197175160] 127)) hs hl hf (hr.below ((Below.refl _ _).alloc (Nat.le_refl _) _)))
  clear hl hf hr
  go_enter Tryz.func88, Tryz.ntmps88
  go_wp2_with fail
  refine HP.out.mono ?_
  rintro e w1 ⟨rfl, hb1⟩
  have HB := Lib.hid (((Below.refl _ w).alloc (Nat.le_refl _) (.cells #[.int .i64 2, .int .i64 4, .int .u32 2197175160] 127)).trans (hb1.mono (by simp)))
  clear hb1
  go_wp2
  go_ret
  exact ⟨rfl, HB.out⟩


theorem eql_nil (a : Addr) (w : World) : (binOp .eql 77 .nilIface (.iface 179 (.pointer (some a)))).run Tryz.prog w = .ok (.bool false) w := by kernel_rfl

set_option maxRecDepth 100000 in
set_option maxHeartbeats 1000000 in
/-- errors.Is(nil, x), x a pointer to an errors.errorString. -/
theorem is_nil (a : Addr) (w : World) :
    Calls Tryz.prog 85 #[.nilIface, .iface 179 (.pointer (some a))] w fun e w' => e = .returned (.bool false) ∧ w = w' := by
  go_enter Tryz.func85, Tryz.ntmps85
  have heq := eql_nil a
  go_wp2
  go_ret
  exact ⟨rfl, rfl⟩


set_option maxRecDepth 100000 in
set_option maxHeartbeats 1000000 in
theorem ctellt_ok (b0 b1 : Addr) (A : Option Addr) (n c : Nat) (w : World) (hE : EnvC b0 b1 w) :
    Calls Tryz.prog 71 #[.slice A n c, .nilIface] w fun e w' => e = .returned (.tuple #[.slice A n c, .int .i64 0]) ∧ w = w' := by
  have g0 := hE.g0
  have g1 := hE.g1
  go_enter Tryz.func71, Tryz.ntmps71
  go_wp2_with fail
  refine (is_nil b0 _).mono ?_
  rintro e w' ⟨rfl, rfl⟩
  go_wp2_with fail
  refine (is_nil b1 _).mono ?_
  rintro e w' ⟨rfl, rfl⟩
  go_wp2
  go_ret2
  exact ⟨rfl, rfl⟩

set_option maxRecDepth 100000 in
set_option maxHeartbeats 1000000 in
theorem ctellt_arg (b0 b1 : Addr) (A : Option Addr) (n c : Nat) (w : World) (hE : EnvC b0 b1 w) :
    Calls Tryz.prog 71 #[.slice A n c, .iface 179 (.pointer (some b0))] w fun e w' => e = .returned (.tuple #[.slice none 0 0, .int .i64 2]) ∧ w = w' := by
  have g0 := hE.g0
  go_enter Tryz.func71, Tryz.ntmps71
  go_wp2_with fail
  refine (is_same b0 _).mono ?_
  rintro e w' ⟨rfl, rfl⟩
  go_wp2
  go_ret2
  exact ⟨rfl, rfl⟩


set_option maxRecDepth 100000 in
set_option maxHeartbeats 1000000 in
theorem ctelln_ok (b0 b1 : Addr) (n : Int) (w : World) (hE : EnvC b0 b1 w) :
    Calls Tryz.prog 73 #[.int .u32 n, .nilIface] w fun e w' => e = .returned (.tuple #[.int .u32 n, .int .i64 0]) ∧ w = w' := by
  have g0 := hE.g0
  have g1 := hE.g1
  go_enter Tryz.func73, Tryz.ntmps73
  go_wp2_with fail
  refine (is_nil b0 _).mono ?_
  rintro e w' ⟨rfl, rfl⟩
  go_wp2_with fail
  refine (is_nil b1 _).mono ?_
  rintro e w' ⟨rfl, rfl⟩
  go_wp2
  go_ret2
  exact ⟨rfl, rfl⟩

set_option maxRecDepth 100000 in
set_option maxHeartbeats 1000000 in
theorem ctelln_arg (b0 b1 : Addr) (n : Int) (w : World) (hE : EnvC b0 b1 w) :
    Calls Tryz.prog 73 #[.int .u32 n, .iface 179 (.pointer (some b0))] w fun e w' => e = .returned (.tuple #[.int .u32 0, .int .i64 2]) ∧ w = w' := by
  have g0 := hE.g0
  go_enter Tryz.func73, Tryz.ntmps73
  go_wp2_with fail
  refine (is_same b0 _).mono ?_
  rintro e w' ⟨rfl, rfl⟩
  go_wp2
  go_ret2
  exact ⟨rfl, rfl⟩


set_option maxRecDepth 100000 in
set_option maxHeartbeats 1000000 in
theorem ctelln_table (b0 b1 : Addr) (n : Int) (w : World) (hE : EnvC b0 b1 w) :
    Calls Tryz.prog 73 #[.int .u32 n, .iface 179 (.pointer (some b1))] w fun e w' => e = .returned (.tuple #[.int .u32 0, .int .i64 50]) ∧ w = w' := by
  have g0 := hE.g0
  have g1 := hE.g1
  obtain ⟨c0, t0, k0⟩ := hE.k0
  obtain ⟨c1, t1, k1⟩ := hE.k1
  have H0 := Lib.hid k0
  have H1 := Lib.hid k1
  clear k0 k1
  go_enter Tryz.func73, Tryz.ntmps73
  go_wp2_with fail
  refine (is_other b1 b0 c1 c0 t1 t0 _ (Ne.symm hE.n01) H1.out H0.out).mono ?_
  rintro e w' ⟨rfl, rfl⟩
  go_wp2_with fail
  refine (is_same b1 _).mono ?_
  rintro e w' ⟨rfl, rfl⟩
  go_wp2
  go_ret2
  exact ⟨rfl, rfl⟩


/-- What Table answers: the numbers, and the error's number. -/
def tabR (k : Int) : List Nat × Int := if k = 1 then (tabL 33800, 0) else if k = 2 then (tabL 2197175160, 0) else ([], 2)
/-- What Sum answers. -/
def sumR (k : Int) (xs : List Nat) (s : ByteArray) : Nat × Int := if k = 1 then (if xs.length = 256 then (sumT 16 xs s.data.toList, 0) else (0, 50)) else if k = 2 then (if xs.length = 256 then (sumT 32 xs s.data.toList, 0) else (0, 50)) else (0, 2)
/-- What Of answers. -/
def ofR (k : Int) (s : ByteArray) : ByteArray × Int := if k = 0 then (⟨#[]⟩, 0) else if k = 1 then (⟨(beL (sumT 16 (tabL 33800) s.data.toList) 2).toArray⟩, 0) else if k = 2 then (⟨(beL (sumT 32 (tabL 2197175160) s.data.toList) 4).toArray⟩, 0) else (⟨#[]⟩, 2)
/-- What Size answers. -/
def sizR (k : Int) : Int := if k = 1 then 2 else if k = 2 then 4 else 0
theorem tabR_1 : tabR 1 = (tabL 33800, 0) := rfl
theorem tabR_2 : tabR 2 = (tabL 2197175160, 0) := rfl
theorem tabR_no {k : Int} (h1 : k ≠ 1) (h2 : k ≠ 2) : tabR k = ([], 2) := by unfold tabR; rw [if_neg h1, if_neg h2]
theorem sumR_no {k : Int} (xs : List Nat) (s : ByteArray) (h1 : k ≠ 1) (h2 : k ≠ 2) : sumR k xs s = (0, 2) := by unfold sumR; rw [if_neg h1, if_neg h2]
theorem ofR_no {k : Int} (s : ByteArray) (h0 : k ≠ 0) (h1 : k ≠ 1) (h2 : k ≠ 2) : ofR k s = (⟨#[]⟩, 2) := by unfold ofR; rw [if_neg h0, if_neg h1, if_neg h2]
theorem sizR_no {k : Int} (h1 : k ≠ 1) (h2 : k ≠ 2) : sizR k = 0 := by unfold sizR; rw [if_neg h1, if_neg h2]
theorem tabL_fit {p : Nat} (hp : p < 4294967296) : Fit32 (tabL p) := by
  intro x hx
  obtain ⟨i, hi, rfl⟩ := List.mem_map.1 hx
  exact prt_lt (w := 32) (by omega) hp (List.mem_range.1 hi)

set_option maxRecDepth 100000 in
set_option maxHeartbeats 1000000 in
theorem own16_any (b0 b1 : Addr) (w : World) (hE : EnvC b0 b1 w) :
    Calls Tryz.prog 72 #[.int .i64 1] w fun e w' => (∃ A : Addr, e = .returned (.tuple #[.slice (some A) 256 256, .nilIface]) ∧ U32Rd w' (some A) (tabL 33800)) ∧ Below w.heap.size w w' := by
  have HK := Lib.hid (show kindR 1 = ((1, 2, 33800), false) by decide)
  go_enter Tryz.func72, Tryz.ntmps72
  go_wp2_with fail
  refine (wide_k _ hE (by decide) HK.out).mono ?_
  rintro e w1 ⟨rfl, hb1⟩
  go_wp2_with fail
  refine (mtable16_any _).mono ?_
  rintro e w2 ⟨⟨A, rfl, hU⟩, hb2⟩
  have HU := Lib.hid hU
  have HB := Lib.hid ((hb1.alloc hb1.size (.cells #[.int .i64 1, .int .i64 2, .int .u32 33800] 127)).trans (hb2.mono (by have := hb1.size; simp; omega)))
  clear hU hb1 hb2
  go_wp2
  go_ret2
  exact ⟨⟨A, rfl, HU.out⟩, HB.out⟩

set_option maxRecDepth 100000 in
set_option maxHeartbeats 1000000 in
theorem by16_any (b0 b1 : Addr) (xs : List Nat) (A : Option Addr) (c : Nat) (s : ByteArray) (w : World) (hE : EnvC b0 b1 w) (hs : s.size ≤ 9223372036854775807) (hl : xs.length = 256) (hf : Fit32 xs) (hr : U32Rd w A xs) :
    Calls Tryz.prog 74 #[.int .i64 1, .slice A 256 c, .string s] w fun e w' => e = .returned (.tuple #[.int .u32 ((sumT 16 xs s.data.toList : Nat) : Int), .nilIface]) ∧ Below w.heap.size w w' := by
  have HK := Lib.hid (show kindR 1 = ((1, 2, 33800), false) by decide)
  have HR := Lib.hid hr
  have HF := Lib.hid hf
  have HL := Lib.hid hl
  clear hr hf hl
  go_enter Tryz.func74, Tryz.ntmps74
  go_wp2_with fail
  refine (wide_k _ hE (by decide) HK.out).mono ?_
  rintro e w1 ⟨rfl, hb1⟩
  have hb1' := hb1.alloc hb1.size (.cells #[.int .i64 1, .int .i64 2, .int .u32 33800] 127)
  have HB1 := Lib.hid hb1'
  clear hb1 hb1'
  go_wp2_with fail
  refine (msum16_any xs A c s _ hs HL.out HF.out (HR.out.below HB1.out)).mono ?_
  rintro e w2 ⟨rfl, hb2⟩
  have HB := Lib.hid (HB1.out.trans (hb2.mono HB1.out.size))
  clear hb2
  go_wp2
  go_ret2
  exact ⟨rfl, HB.out⟩

set_option maxRecDepth 100000 in
set_option maxHeartbeats 1000000 in
theorem by16_table (b0 b1 : Addr) (n : Nat) (A : Option Addr) (c : Nat) (s : ByteArray) (w : World) (hE : EnvC b0 b1 w) (hl : n ≠ 256) :
    Calls Tryz.prog 74 #[.int .i64 1, .slice A n c, .string s] w fun e w' => e = .returned (.tuple #[.int .u32 0, .iface 179 (.pointer (some b1))]) ∧ Below w.heap.size w w' := by
  have HK := Lib.hid (show kindR 1 = ((1, 2, 33800), false) by decide)
  have hn : ((n : Int) != 256) = true := by rw [bne_iff_ne]; omega
  clear hl
  go_enter Tryz.func74, Tryz.ntmps74
  go_wp2_with fail
  refine (wide_k _ hE (by decide) HK.out).mono ?_
  rintro e w1 ⟨rfl, hb1⟩
  have g1 := (hE.below hb1).g1
  have hz := World.block_lt_of_cell? _ _ g1
  have HB := Lib.hid (hb1.alloc hb1.size (.cells #[.int .i64 1, .int .i64 2, .int .u32 33800] 127))
  clear hb1
  go_wp2_with fail
  go_quiet (fail)
  go_wp2
  go_ret2
  exact ⟨rfl, cdrewN HB.out _⟩

set_option maxRecDepth 100000 in
set_option maxHeartbeats 1000000 in
theorem own32_any (b0 b1 : Addr) (w : World) (hE : EnvC b0 b1 w) :
    Calls Tryz.prog 72 #[.int .i64 2] w fun e w' => (∃ A : Addr, e = .returned (.tuple #[.slice (some A) 256 256, .nilIface]) ∧ U32Rd w' (some A) (tabL 2197175160)) ∧ Below w.heap.size w w' := by
  have HK := Lib.hid (show kindR 2 = ((2, 4, 2197175160), false) by decide)
  go_enter Tryz.func72, Tryz.ntmps72
  go_wp2_with fail
  refine (wide_k _ hE (by decide) HK.out).mono ?_
  rintro e w1 ⟨rfl, hb1⟩
  go_wp2_with fail
  refine (mtable32_any _).mono ?_
  rintro e w2 ⟨⟨A, rfl, hU⟩, hb2⟩
  have HU := Lib.hid hU
  have HB := Lib.hid ((hb1.alloc hb1.size (.cells #[.int .i64 2, .int .i64 4, .int .u32 2197175160] 127)).trans (hb2.mono (by have := hb1.size; simp; omega)))
  clear hU hb1 hb2
  go_wp2
  go_ret2
  exact ⟨⟨A, rfl, HU.out⟩, HB.out⟩

set_option maxRecDepth 100000 in
set_option maxHeartbeats 1000000 in
theorem by32_any (b0 b1 : Addr) (xs : List Nat) (A : Option Addr) (c : Nat) (s : ByteArray) (w : World) (hE : EnvC b0 b1 w) (hs : s.size ≤ 9223372036854775807) (hl : xs.length = 256) (hf : Fit32 xs) (hr : U32Rd w A xs) :
    Calls Tryz.prog 74 #[.int .i64 2, .slice A 256 c, .string s] w fun e w' => e = .returned (.tuple #[.int .u32 ((sumT 32 xs s.data.toList : Nat) : Int), .nilIface]) ∧ Below w.heap.size w w' := by
  have HK := Lib.hid (show kindR 2 = ((2, 4, 2197175160), false) by decide)
  have HR := Lib.hid hr
  have HF := Lib.hid hf
  have HL := Lib.hid hl
  clear hr hf hl
  go_enter Tryz.func74, Tryz.ntmps74
  go_wp2_with fail
  refine (wide_k _ hE (by decide) HK.out).mono ?_
  rintro e w1 ⟨rfl, hb1⟩
  have hb1' := hb1.alloc hb1.size (.cells #[.int .i64 2, .int .i64 4, .int .u32 2197175160] 127)
  have HB1 := Lib.hid hb1'
  clear hb1 hb1'
  go_wp2_with fail
  refine (msum32_any xs A c s _ hs HL.out HF.out (HR.out.below HB1.out)).mono ?_
  rintro e w2 ⟨rfl, hb2⟩
  have HB := Lib.hid (HB1.out.trans (hb2.mono HB1.out.size))
  clear hb2
  go_wp2
  go_ret2
  exact ⟨rfl, HB.out⟩

set_option maxRecDepth 100000 in
set_option maxHeartbeats 1000000 in
theorem by32_table (b0 b1 : Addr) (n : Nat) (A : Option Addr) (c : Nat) (s : ByteArray) (w : World) (hE : EnvC b0 b1 w) (hl : n ≠ 256) :
    Calls Tryz.prog 74 #[.int .i64 2, .slice A n c, .string s] w fun e w' => e = .returned (.tuple #[.int .u32 0, .iface 179 (.pointer (some b1))]) ∧ Below w.heap.size w w' := by
  have HK := Lib.hid (show kindR 2 = ((2, 4, 2197175160), false) by decide)
  have hn : ((n : Int) != 256) = true := by rw [bne_iff_ne]; omega
  clear hl
  go_enter Tryz.func74, Tryz.ntmps74
  go_wp2_with fail
  refine (wide_k _ hE (by decide) HK.out).mono ?_
  rintro e w1 ⟨rfl, hb1⟩
  have g1 := (hE.below hb1).g1
  have hz := World.block_lt_of_cell? _ _ g1
  have HB := Lib.hid (hb1.alloc hb1.size (.cells #[.int .i64 2, .int .i64 4, .int .u32 2197175160] 127))
  clear hb1
  go_wp2_with fail
  go_quiet (fail)
  go_wp2
  go_ret2
  exact ⟨rfl, cdrewN HB.out _⟩

end Go.Proofs.YtdlkmdjhjdpmeaaGreatDoor
