/- Contracts of parts and fed of package crc, at both widths: a kind's own table, in new memory; a register behind a byte, by any table. -/
import Derived.Test.YtdlkmdjhjdpmeaaGreatDoorCReg
set_option linter.unusedVariables false
set_option linter.unusedSimpArgs false
namespace Go.Proofs.YtdlkmdjhjdpmeaaGreatDoor
open Go.RowKit Go.Shelf

theorem u32_info : (Tryz.prog.info? 85).map (fun i => (i.zero, i.size, i.bytes)) = some (some (.int .u32 0), 1, 4) := by kernel_rfl

/-- These numbers are read at A. -/
def U32Rd (w : World) (A : Option Addr) (xs : List Nat) : Prop := ∀ (j x : Nat), xs[j]? = some x → ∃ ad, A = some ad ∧ w.cell? (ad.add j) = some (.int .u32 (x : Int))
theorem U32Rd.below {w w' : World} {A : Option Addr} {xs : List Nat} (h : U32Rd w A xs) (hb : Below w.heap.size w w') : U32Rd w' A xs := fun j x hj => by
  obtain ⟨ad, rfl, hc⟩ := h j x hj
  exact ⟨ad, rfl, (hb.cell (World.block_lt_of_cell? _ _ hc)).trans hc⟩
theorem U32Rd.take {w : World} {A : Option Addr} {xs : List Nat} (h : U32Rd w A xs) (k : Nat) : U32Rd w A (xs.take k) := fun j x hj => by
  rw [List.getElem?_take] at hj
  split at hj
  · exact h j x hj
  · cases hj
theorem U32Rd.nil (w : World) (A : Option Addr) : U32Rd w A [] := fun j x h => by simp at h
/-- Numbers that fit. -/
def Fit32 (xs : List Nat) : Prop := ∀ x ∈ xs, x < 4294967296


theorem field16 (v : Value) (w : World) : (Instr.field 165 (.agg #[v]) 0).run Tryz.prog w = .ok v w := by kernel_rfl

/-- What holds of memory at a round's head of parts: the row, what turns. -/
structure Tab16 (t : Nat) (w0 : World) (k : Nat) (w : World) : Prop where
  le : k ≤ 256
  row : ∀ j, j < 256 → w.cell? ⟨w0.heap.size, j, none⟩ = some (.int .u32 (if j < k then ((prt t j : Nat) : Int) else 0))
  frow : ∀ j, j < 256 → w.frozen? ⟨w0.heap.size, j, none⟩ = false
  box : w.cell? ⟨w0.heap.size + 1, 0, none⟩ = some (.int .u16 (t : Int))
  below : Below w0.heap.size w0 w

theorem Tab16.start (t : Nat) (w : World) : Tab16 t w 0 ((w.alloc (.cells (madeCells #[.int .u32 0] 256) 85)).alloc (.cells #[.int .u16 (t : Int)] 142)) := by
  refine ⟨by omega, ?_, ?_, by go_simp, ((Below.refl _ _).alloc (Nat.le_refl _) _).alloc (by simp) _⟩
  · intro j hj
    rw [if_neg (by omega)]
    exact ((World.rowIs_made w (.int .u32 0) 256 85).alloc _).cell hj
  · intro j hj
    exact ((World.rowIs_made w (.int .u32 0) 256 85).alloc _).frozen j

theorem Tab16.later {t k : Nat} {w0 w w' : World} (h : Tab16 t w0 k w) (hb : Below w.heap.size w w') : Tab16 t w0 k w' := by
  have z0 : w0.heap.size < w.heap.size := World.block_lt_of_cell? _ _ (h.row 0 (by omega))
  have z1 : w0.heap.size + 1 < w.heap.size := World.block_lt_of_cell? _ _ h.box
  obtain ⟨hc, hf⟩ := bcell hb
  exact ⟨h.le, fun j hj => (hc _ j z0).trans (h.row j hj), fun j hj => (hf _ j z0).trans (h.frow j hj), (hc _ 0 z1).trans h.box, h.below.trans (hb.mono h.below.size)⟩

theorem Tab16.step {t k : Nat} {w0 w : World} (h : Tab16 t w0 k w) (hk : k < 256) (y : Nat) (hy : y = prt t k) :
    Tab16 t w0 (k + 1) (w.setCell ⟨w0.heap.size, k, none⟩ (.int .u32 (y : Int))) := by
  refine ⟨hk, ?_, ?_, ?_, h.below.setCell (p := ⟨w0.heap.size, k, none⟩) (Nat.le_refl _) _⟩
  · intro j hj
    by_cases e : j = k
    · subst e
      rw [if_pos (by omega), ← hy]
      exact World.cell?_setCell_same' _ _ _ (by rw [h.row j hj]; rfl)
    · have hr := h.row j hj
      have hjk : (j < k + 1) = (j < k) := by simp; omega
      simp only [hjk]
      rw [← hr]
      simp [go_sem, e]
  · intro j hj
    rw [World.frozen?_setCell]; exact h.frow j hj
  · have := h.box
    simp [go_sem, this]

theorem Tab16.done_ {t : Nat} {w0 w : World} (h : Tab16 t w0 256 w) : U32Rd w (some ⟨w0.heap.size, 0, none⟩) (tabL t) := fun j x hj => by
  have hlt : j < 256 := by
    have := (List.getElem?_eq_some_iff.1 hj).1
    rwa [tabL_length] at this
  rw [tabL_get t hlt] at hj
  obtain rfl := Option.some.inj hj
  refine ⟨_, rfl, ?_⟩
  have hr := h.row j hlt
  rw [if_pos hlt] at hr
  rcases j with _ | j <;> simpa [Addr.add] using hr

set_option maxRecDepth 100000 in
set_option maxHeartbeats 2000000 in
theorem parts16_any (t : Nat) (w : World) (ht : t < 65536) :
    Calls Tryz.prog 99 #[.int .u16 (t : Int)] w fun e w' => e = .returned (.slice (some ⟨w.heap.size, 0, none⟩) 256 256) ∧ U32Rd w' (some ⟨w.heap.size, 0, none⟩) (tabL t) ∧ Below w.heap.size w w' := by
  have hmk : ∀ w, (Instr.makeSlice 62 (.int .i64 256) (.int .i64 256)).run Tryz.prog w = .ok (.slice (some ⟨w.heap.size, 0, none⟩) 256 256) (w.alloc (.cells (madeCells #[.int .u32 0] 256) 85)) := fun w => run_make_row' (P := Tryz.prog) 62 85 (.int .u32 0) 4 Tryz.underlying62 u32_info rfl .i64 .i64 256 (by omega) (by omega) w
  have HS := Lib.hid (Tab16.start t w)
  go_enter Tryz.func99, Tryz.ntmps99
  go_wp2_with fail
  refine (turning16_any t _).mono ?_
  rintro e w' ⟨rfl, rfl⟩
  have hsz : (w.alloc (.cells (madeCells #[.int .u32 0] 256) 85)).heap.size = w.heap.size + 1 := by simp
  rw [hsz]
  clear hsz
  generalize (w.alloc (.cells (madeCells #[.int .u32 0] 256) 85)).alloc (.cells #[.int .u16 (t : Int)] 142) = w0 at *
  clear hmk
  go_wp2
  go_loopw [11] (fun i wr => ∃ k : Nat, i = .int .i64 (k : Int) ∧ Tab16 t w k wr) (fun i _ => 256 - (intOf i).toNat)
  case atStart => exact ⟨0, rfl, HS.out⟩
  case round =>
    obtain ⟨k, rfl, hP⟩ := hrel
    clear HS
    have hle := hP.le
    by_cases hk : k < 256
    · have hw : (k : Int) % 65536 = (k : Int) := by omega
      have HP := Lib.hid hP
      have HB := Lib.hid hP.box
      clear hP
      have hfl := field16
      go_wp2_with fail
      refine (part16_any k t _ _ (by omega) ht HB.out).mono ?_
      rintro e w1 ⟨rfl, hb1⟩
      have hP1 := HP.out.later hb1
      have hy : stN t 8 k < 65536 := stN_lt (w := 16) (by omega) ht 8 k (by omega)
      have HY := Lib.hid (show stN t 8 k = prt t k from rfl)
      have HS1 := Lib.hid (hP1.step hk (stN t 8 k) rfl)
      have c1 := hP1.row k hk
      rw [if_neg (Nat.lt_irrefl k)] at c1
      have f1 := hP1.frow k hk
      clear hP1 hb1 HP HB
      generalize stN t 8 k = y at *
      have hw2 : (y : Int) % 4294967296 = (y : Int) := by omega
      go_wp2
      go_roundw
      case rel => exact ⟨k + 1, by go_num, HS1.out⟩
      case measure => simp [intOf]; omega
    · obtain rfl : k = 256 := by omega
      have HD := Lib.hid hP.done_
      have HB := Lib.hid hP.below
      clear hP
      go_wp2
      go_ret
      exact ⟨rfl, HD.out, HB.out⟩

set_option maxRecDepth 100000 in
set_option maxHeartbeats 2000000 in
theorem fed16_any (x b : Nat) (xs : List Nat) (A : Option Addr) (c : Nat) (w : World) (hx : x < 65536) (hb : b < 256) (hl : xs.length = 256) (hf : Fit32 xs) (hr : U32Rd w A xs) :
    Calls Tryz.prog 110 #[.agg #[.int .u16 (x : Int)], .slice A 256 c, .int .u8 (b : Int)] w fun e w' => e = .returned (.agg #[.int .u16 ((fedT 16 xs x b : Nat) : Int)]) ∧ Below w.heap.size w w' := by
  obtain ⟨i, hi⟩ : ∃ i, i = x % 256 ^^^ b := ⟨_, rfl⟩
  have hi2 : i < 256 := by rw [hi]; exact xor256 (Nat.mod_lt _ (by omega)) hb
  obtain ⟨v, hv⟩ : ∃ v, xs[i]? = some v := ⟨_, List.getElem?_eq_getElem (by omega)⟩
  obtain ⟨ad, rfl, hc⟩ := hr i v hv
  have hv2 : v < 4294967296 := hf v (List.mem_of_getElem? hv)
  have hz := World.block_lt_of_cell? _ _ hc
  have hX : bits .xor .u8 ((x : Int) % 256) (b : Int) = (i : Int) := by
    have := u8_xor_nat (x % 256) b (by omega) hb
    rw [hi, ← this]; congr 1
  obtain ⟨u, hu⟩ : ∃ u, u = v % 65536 := ⟨_, rfl⟩
  have hul : u < 65536 := by omega
  obtain ⟨z, hz8⟩ : ∃ z, z = x / 256 := ⟨_, rfl⟩
  have hzl : z < 65536 := by omega
  have HF := Lib.hid (show fedT 16 xs x b = z ^^^ u by
    unfold fedT
    rw [← hi, List.getD_eq_getElem?_getD, hv, hz8, hu]; rfl)
  have HZ := Lib.hid hz8
  have hw : IntKind.u16.wrap (v : Int) = (u : Int) := by rw [IntKind.wrap_u16]; omega
  clear hi hv hu hz8 hf hr
  go_enter Tryz.func110, Tryz.ntmps110
  go_wp2_with fail
  refine (turning16_any u _).mono ?_
  rintro e w' ⟨rfl, rfl⟩
  go_wp2_with fail
  refine (low16_eight x z _ hx HZ.out).mono ?_
  rintro e w3 ⟨rfl, hb3⟩
  obtain ⟨hc3, hf3⟩ := bcell hb3
  simp only [World.size_alloc] at hc3 hf3
  have c4 : w3.cell? ⟨w.heap.size + 1 + 1, 0, none⟩ = some (.int .u16 (u : Int)) := (hc3 _ 0 (by omega)).trans (by go_simp)
  have c5 : w3.cell? ⟨w.heap.size + 1, 0, none⟩ = some (.int .u16 0) := (hc3 _ 0 (by omega)).trans (by go_simp)
  have f5 : w3.frozen? ⟨w.heap.size + 1, 0, none⟩ = false := (hf3 _ 0 (by omega)).trans (by go_simp)
  have hT := Lib.hid (turn16_any z u (w.heap.size + 1 + 1) w3 hzl hul c4)
  have HB3 := Lib.hid hb3
  clear hc3 hf3 hb3
  go_wp2_with fail
  refine hT.out.mono ?_
  rintro e w4 ⟨rfl, hb4⟩
  obtain ⟨hc4, hf4⟩ := bcell hb4
  have hsz := HB3.out.size
  simp only [World.size_alloc] at hsz
  have c6 := (hc4 _ 0 (by omega)).trans c5
  have f6 := (hf4 _ 0 (by omega)).trans f5
  have HB4 := Lib.hid (((((Below.refl _ w).alloc (Nat.le_refl _) (.cells #[.int .u16 (x : Int)] 165)).alloc (by simp) (.cells #[.int .u16 0] 165)).alloc (by simp; omega) (.cells #[.int .u16 (u : Int)] 142)).trans ((HB3.out.trans (hb4.mono (Nat.le_trans (by simp) HB3.out.size))).mono (by simp; omega)))
  clear hc4 hf4 hb4 c4 c5 f5
  generalize z ^^^ u = q at *
  go_wp2
  exact bodyPost_ret (v := .agg #[.int .u16 (q : Int)]) (by simp [results, Tryz.results110, go_sem, c6]) rfl ⟨by rw [HF.out], HB4.out.setCell (by simp) _⟩


theorem field32 (v : Value) (w : World) : (Instr.field 170 (.agg #[v]) 0).run Tryz.prog w = .ok v w := by kernel_rfl

/-- What holds of memory at a round's head of parts: the row, what turns. -/
structure Tab32 (t : Nat) (w0 : World) (k : Nat) (w : World) : Prop where
  le : k ≤ 256
  row : ∀ j, j < 256 → w.cell? ⟨w0.heap.size, j, none⟩ = some (.int .u32 (if j < k then ((prt t j : Nat) : Int) else 0))
  frow : ∀ j, j < 256 → w.frozen? ⟨w0.heap.size, j, none⟩ = false
  box : w.cell? ⟨w0.heap.size + 1, 0, none⟩ = some (.int .u32 (t : Int))
  below : Below w0.heap.size w0 w

theorem Tab32.start (t : Nat) (w : World) : Tab32 t w 0 ((w.alloc (.cells (madeCells #[.int .u32 0] 256) 85)).alloc (.cells #[.int .u32 (t : Int)] 85)) := by
  refine ⟨by omega, ?_, ?_, by go_simp, ((Below.refl _ _).alloc (Nat.le_refl _) _).alloc (by simp) _⟩
  · intro j hj
    rw [if_neg (by omega)]
    exact ((World.rowIs_made w (.int .u32 0) 256 85).alloc _).cell hj
  · intro j hj
    exact ((World.rowIs_made w (.int .u32 0) 256 85).alloc _).frozen j

theorem Tab32.later {t k : Nat} {w0 w w' : World} (h : Tab32 t w0 k w) (hb : Below w.heap.size w w') : Tab32 t w0 k w' := by
  have z0 : w0.heap.size < w.heap.size := World.block_lt_of_cell? _ _ (h.row 0 (by omega))
  have z1 : w0.heap.size + 1 < w.heap.size := World.block_lt_of_cell? _ _ h.box
  obtain ⟨hc, hf⟩ := bcell hb
  exact ⟨h.le, fun j hj => (hc _ j z0).trans (h.row j hj), fun j hj => (hf _ j z0).trans (h.frow j hj), (hc _ 0 z1).trans h.box, h.below.trans (hb.mono h.below.size)⟩

theorem Tab32.step {t k : Nat} {w0 w : World} (h : Tab32 t w0 k w) (hk : k < 256) (y : Nat) (hy : y = prt t k) :
    Tab32 t w0 (k + 1) (w.setCell ⟨w0.heap.size, k, none⟩ (.int .u32 (y : Int))) := by
  refine ⟨hk, ?_, ?_, ?_, h.below.setCell (p := ⟨w0.heap.size, k, none⟩) (Nat.le_refl _) _⟩
  · intro j hj
    by_cases e : j = k
    · subst e
      rw [if_pos (by omega), ← hy]
      exact World.cell?_setCell_same' _ _ _ (by rw [h.row j hj]; rfl)
    · have hr := h.row j hj
      have hjk : (j < k + 1) = (j < k) := by simp; omega
      simp only [hjk]
      rw [← hr]
      simp [go_sem, e]
  · intro j hj
    rw [World.frozen?_setCell]; exact h.frow j hj
  · have := h.box
    simp [go_sem, this]

theorem Tab32.done_ {t : Nat} {w0 w : World} (h : Tab32 t w0 256 w) : U32Rd w (some ⟨w0.heap.size, 0, none⟩) (tabL t) := fun j x hj => by
  have hlt : j < 256 := by
    have := (List.getElem?_eq_some_iff.1 hj).1
    rwa [tabL_length] at this
  rw [tabL_get t hlt] at hj
  obtain rfl := Option.some.inj hj
  refine ⟨_, rfl, ?_⟩
  have hr := h.row j hlt
  rw [if_pos hlt] at hr
  rcases j with _ | j <;> simpa [Addr.add] using hr

set_option maxRecDepth 100000 in
set_option maxHeartbeats 2000000 in
theorem parts32_any (t : Nat) (w : World) (ht : t < 4294967296) :
    Calls Tryz.prog 100 #[.int .u32 (t : Int)] w fun e w' => e = .returned (.slice (some ⟨w.heap.size, 0, none⟩) 256 256) ∧ U32Rd w' (some ⟨w.heap.size, 0, none⟩) (tabL t) ∧ Below w.heap.size w w' := by
  have hmk : ∀ w, (Instr.makeSlice 62 (.int .i64 256) (.int .i64 256)).run Tryz.prog w = .ok (.slice (some ⟨w.heap.size, 0, none⟩) 256 256) (w.alloc (.cells (madeCells #[.int .u32 0] 256) 85)) := fun w => run_make_row' (P := Tryz.prog) 62 85 (.int .u32 0) 4 Tryz.underlying62 u32_info rfl .i64 .i64 256 (by omega) (by omega) w
  have HS := Lib.hid (Tab32.start t w)
  go_enter Tryz.func100, Tryz.ntmps100
  go_wp2_with fail
  refine (turning32_any t _).mono ?_
  rintro e w' ⟨rfl, rfl⟩
  have hsz : (w.alloc (.cells (madeCells #[.int .u32 0] 256) 85)).heap.size = w.heap.size + 1 := by simp
  rw [hsz]
  clear hsz
  generalize (w.alloc (.cells (madeCells #[.int .u32 0] 256) 85)).alloc (.cells #[.int .u32 (t : Int)] 85) = w0 at *
  clear hmk
  go_wp2
  go_loopw [11] (fun i wr => ∃ k : Nat, i = .int .i64 (k : Int) ∧ Tab32 t w k wr) (fun i _ => 256 - (intOf i).toNat)
  case atStart => exact ⟨0, rfl, HS.out⟩
  case round =>
    obtain ⟨k, rfl, hP⟩ := hrel
    clear HS
    have hle := hP.le
    by_cases hk : k < 256
    · have hw : (k : Int) % 4294967296 = (k : Int) := by omega
      have HP := Lib.hid hP
      have HB := Lib.hid hP.box
      clear hP
      have hfl := field32
      go_wp2_with fail
      refine (part32_any k t _ _ (by omega) ht HB.out).mono ?_
      rintro e w1 ⟨rfl, hb1⟩
      have hP1 := HP.out.later hb1
      have hy : stN t 8 k < 4294967296 := stN_lt (w := 32) (by omega) ht 8 k (by omega)
      have HY := Lib.hid (show stN t 8 k = prt t k from rfl)
      have HS1 := Lib.hid (hP1.step hk (stN t 8 k) rfl)
      have c1 := hP1.row k hk
      rw [if_neg (Nat.lt_irrefl k)] at c1
      have f1 := hP1.frow k hk
      clear hP1 hb1 HP HB
      generalize stN t 8 k = y at *
      have hw2 : (y : Int) % 4294967296 = (y : Int) := by omega
      go_wp2
      go_roundw
      case rel => exact ⟨k + 1, by go_num, HS1.out⟩
      case measure => simp [intOf]; omega
    · obtain rfl : k = 256 := by omega
      have HD := Lib.hid hP.done_
      have HB := Lib.hid hP.below
      clear hP
      go_wp2
      go_ret
      exact ⟨rfl, HD.out, HB.out⟩

set_option maxRecDepth 100000 in
set_option maxHeartbeats 2000000 in
theorem fed32_any (x b : Nat) (xs : List Nat) (A : Option Addr) (c : Nat) (w : World) (hx : x < 4294967296) (hb : b < 256) (hl : xs.length = 256) (hf : Fit32 xs) (hr : U32Rd w A xs) :
    Calls Tryz.prog 111 #[.agg #[.int .u32 (x : Int)], .slice A 256 c, .int .u8 (b : Int)] w fun e w' => e = .returned (.agg #[.int .u32 ((fedT 32 xs x b : Nat) : Int)]) ∧ Below w.heap.size w w' := by
  obtain ⟨i, hi⟩ : ∃ i, i = x % 256 ^^^ b := ⟨_, rfl⟩
  have hi2 : i < 256 := by rw [hi]; exact xor256 (Nat.mod_lt _ (by omega)) hb
  obtain ⟨v, hv⟩ : ∃ v, xs[i]? = some v := ⟨_, List.getElem?_eq_getElem (by omega)⟩
  obtain ⟨ad, rfl, hc⟩ := hr i v hv
  have hv2 : v < 4294967296 := hf v (List.mem_of_getElem? hv)
  have hz := World.block_lt_of_cell? _ _ hc
  have hX : bits .xor .u8 ((x : Int) % 256) (b : Int) = (i : Int) := by
    have := u8_xor_nat (x % 256) b (by omega) hb
    rw [hi, ← this]; congr 1
  obtain ⟨u, hu⟩ : ∃ u, u = v % 4294967296 := ⟨_, rfl⟩
  have hul : u < 4294967296 := by omega
  obtain ⟨z, hz8⟩ : ∃ z, z = x / 256 := ⟨_, rfl⟩
  have hzl : z < 4294967296 := by omega
  have HF := Lib.hid (show fedT 32 xs x b = z ^^^ u by
    unfold fedT
    rw [← hi, List.getD_eq_getElem?_getD, hv, hz8, hu]; rfl)
  have HZ := Lib.hid hz8
  obtain rfl : u = v := by omega
  clear hi hv hu hz8 hf hr
  go_enter Tryz.func111, Tryz.ntmps111
  go_wp2_with fail
  refine (turning32_any u _).mono ?_
  rintro e w' ⟨rfl, rfl⟩
  go_wp2_with fail
  refine (low32_eight x z _ hx HZ.out).mono ?_
  rintro e w3 ⟨rfl, hb3⟩
  obtain ⟨hc3, hf3⟩ := bcell hb3
  simp only [World.size_alloc] at hc3 hf3
  have c4 : w3.cell? ⟨w.heap.size + 1 + 1, 0, none⟩ = some (.int .u32 (u : Int)) := (hc3 _ 0 (by omega)).trans (by go_simp)
  have c5 : w3.cell? ⟨w.heap.size + 1, 0, none⟩ = some (.int .u32 0) := (hc3 _ 0 (by omega)).trans (by go_simp)
  have f5 : w3.frozen? ⟨w.heap.size + 1, 0, none⟩ = false := (hf3 _ 0 (by omega)).trans (by go_simp)
  have hT := Lib.hid (turn32_any z u (w.heap.size + 1 + 1) w3 hzl hul c4)
  have HB3 := Lib.hid hb3
  clear hc3 hf3 hb3
  go_wp2_with fail
  refine hT.out.mono ?_
  rintro e w4 ⟨rfl, hb4⟩
  obtain ⟨hc4, hf4⟩ := bcell hb4
  have hsz := HB3.out.size
  simp only [World.size_alloc] at hsz
  have c6 := (hc4 _ 0 (by omega)).trans c5
  have f6 := (hf4 _ 0 (by omega)).trans f5
  have HB4 := Lib.hid (((((Below.refl _ w).alloc (Nat.le_refl _) (.cells #[.int .u32 (x : Int)] 170)).alloc (by simp) (.cells #[.int .u32 0] 170)).alloc (by simp; omega) (.cells #[.int .u32 (u : Int)] 85)).trans ((HB3.out.trans (hb4.mono (Nat.le_trans (by simp) HB3.out.size))).mono (by simp; omega)))
  clear hc4 hf4 hb4 c4 c5 f5
  generalize z ^^^ u = q at *
  go_wp2
  exact bodyPost_ret (v := .agg #[.int .u32 (q : Int)]) (by simp [results, Tryz.results111, go_sem, c6]) rfl ⟨by rw [HF.out], HB4.out.setCell (by simp) _⟩

end Go.Proofs.YtdlkmdjhjdpmeaaGreatDoor
