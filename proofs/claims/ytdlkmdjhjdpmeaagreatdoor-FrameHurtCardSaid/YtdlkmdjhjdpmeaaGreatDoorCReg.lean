/- Contracts of the small functions of package crc on registers, at both widths: turning, lowered, part, parts, fed. -/
import Derived.Test.YtdlkmdjhjdpmeaaGreatDoorCSum
import Derived.LoopTactic
import Derived.Deep.LoopGhost
set_option linter.unusedVariables false
set_option linter.unusedSimpArgs false
namespace Go.Proofs.YtdlkmdjhjdpmeaaGreatDoor
open Go.RowKit Go.Shelf

theorem stN_succ' (p n r : Nat) : stN p (n + 1) r = stp p (stN p n r) := by
  rw [stN_add p n 1 r]; rfl
theorem stp_odd {p r : Nat} (h : r % 2 = 1) : stp p r = (r / 2) ^^^ p := if_pos h
theorem stp_even {p r : Nat} (h : r % 2 = 0) : stp p r = r / 2 := if_neg (by omega)


set_option maxRecDepth 100000 in
set_option maxHeartbeats 1000000 in
theorem turn16_any (x t b : Nat) (w : World) (hx : x < 65536) (ht : t < 65536) (c : w.cell? ⟨b, 0, none⟩ = some (.int .u16 (t : Int))) :
    Calls Tryz.prog 114 #[.agg #[.int .u16 (x : Int)], .pointer (some ⟨b, 0, none⟩)] w fun e w' => e = .returned (.agg #[.int .u16 ((x ^^^ t : Nat) : Int)]) ∧ Below w.heap.size w w' := by
  have hX := u16_xor_nat x t hx ht
  have hz := World.block_lt_of_cell? _ _ c
  go_enter Tryz.func114, Tryz.ntmps114
  go_wp2
  exact bodyPost_ret (v := .agg #[.int .u16 ((x ^^^ t : Nat) : Int)]) (by simp [results, Tryz.results114, go_sem]) rfl ⟨rfl, ((Below.refl _ _).alloc (Nat.le_refl _) _).alloc (by simp) _⟩

set_option maxRecDepth 100000 in
set_option maxHeartbeats 1000000 in
theorem turning16_any (t : Nat) (w : World) :
    Calls Tryz.prog 105 #[.int .u16 (t : Int)] w fun e w' => e = .returned (.func (.func 114) #[] #[.pointer (some ⟨w.heap.size, 0, none⟩)]) ∧ w.alloc (.cells #[.int .u16 (t : Int)] 142) = w' := by
  have hmf : ∀ (fn : Fn) (first cap : Array Value) (w : World), (Instr.makeFunc fn first cap).run Tryz.prog w = .ok (.func fn first cap) w := fun _ _ _ _ => rfl
  go_enter Tryz.func105, Tryz.ntmps105
  go_wp2
  go_ret
  exact ⟨rfl, rfl⟩

set_option maxRecDepth 100000 in
set_option maxHeartbeats 1000000 in
theorem low16_one (x z : Nat) (w : World) (hx : x < 65536) (hz : z = x / 2) :
    Calls Tryz.prog 115 #[.agg #[.int .u16 (x : Int)], .int .i64 1] w fun e w' => e = .returned (.agg #[.int .u16 (z : Int)]) ∧ Below w.heap.size w w' := by
  subst hz
  go_enter Tryz.func115, Tryz.ntmps115
  go_wp2
  exact bodyPost_ret (v := .agg #[.int .u16 ((x / 2 : Nat) : Int)]) (by simp [results, Tryz.results115, go_sem]) rfl ⟨rfl, ((Below.refl _ _).alloc (Nat.le_refl _) _).alloc (by simp) _⟩

set_option maxRecDepth 100000 in
set_option maxHeartbeats 1000000 in
theorem low16_eight (x z : Nat) (w : World) (hx : x < 65536) (hz : z = x / 256) :
    Calls Tryz.prog 115 #[.agg #[.int .u16 (x : Int)], .int .i64 8] w fun e w' => e = .returned (.agg #[.int .u16 (z : Int)]) ∧ Below w.heap.size w w' := by
  subst hz
  go_enter Tryz.func115, Tryz.ntmps115
  go_wp2
  exact bodyPost_ret (v := .agg #[.int .u16 ((x / 256 : Nat) : Int)]) (by simp [results, Tryz.results115, go_sem]) rfl ⟨rfl, ((Below.refl _ _).alloc (Nat.le_refl _) _).alloc (by simp) _⟩

/-- What holds of memory at a round's head of part: the result's block, the register. -/
structure Part16 (t x : Nat) (w0 : World) (k : Nat) (w : World) : Prop where
  le : k ≤ 8
  res : w.cell? ⟨w0.heap.size, 0, none⟩ = some (.int .u16 0)
  fres : w.frozen? ⟨w0.heap.size, 0, none⟩ = false
  reg : w.cell? ⟨w0.heap.size + 1, 0, none⟩ = some (.int .u16 ((stN t k x : Nat) : Int))
  freg : w.frozen? ⟨w0.heap.size + 1, 0, none⟩ = false
  below : Below w0.heap.size w0 w

theorem Part16.step {t x k : Nat} {w0 w w' : World} (h : Part16 t x w0 k w) (hk : k < 8) (hb : Below w.heap.size w w') (y : Nat) (hy : y = stN t (k + 1) x) :
    Part16 t x w0 (k + 1) (w'.setCell ⟨w0.heap.size + 1, 0, none⟩ (.int .u16 (y : Int))) := by
  have z0 := World.block_lt_of_cell? _ _ h.res
  have z1 := World.block_lt_of_cell? _ _ h.reg
  obtain ⟨hc, hf⟩ := bcell hb
  have e1 := (hc _ 0 z1).trans h.reg
  refine ⟨hk, ?_, ?_, ?_, ?_, (h.below.trans (hb.mono h.below.size)).setCell (by simp) _⟩
  · simp [go_sem, (hc _ 0 z0).trans h.res]
  · rw [World.frozen?_setCell]; exact (hf _ 0 z0).trans h.fres
  · rw [hy]; exact World.cell?_setCell_same' _ _ _ (by rw [e1]; rfl)
  · rw [World.frozen?_setCell]; exact (hf _ 0 z1).trans h.freg

theorem Part16.step2 {t x k : Nat} {w0 w w1 w' : World} (h : Part16 t x w0 k w) (hk : k < 8) (hb : Below w.heap.size w w1) (z : Nat) (hb2 : Below (w1.setCell ⟨w0.heap.size + 1, 0, none⟩ (.int .u16 (z : Int))).heap.size (w1.setCell ⟨w0.heap.size + 1, 0, none⟩ (.int .u16 (z : Int))) w') (y : Nat) (hy : y = stN t (k + 1) x) :
    Part16 t x w0 (k + 1) (w'.setCell ⟨w0.heap.size + 1, 0, none⟩ (.int .u16 (y : Int))) ∧ (w'.cell? ⟨w0.heap.size + 1, 0, none⟩ = some (.int .u16 (z : Int)) ∧ w'.frozen? ⟨w0.heap.size + 1, 0, none⟩ = false) := by
  have z0 : w0.heap.size < w.heap.size := World.block_lt_of_cell? _ _ h.res
  have z1 : w0.heap.size + 1 < w.heap.size := World.block_lt_of_cell? _ _ h.reg
  have hsz := hb.size
  obtain ⟨hc, hf⟩ := bcell hb
  obtain ⟨hc2, hf2⟩ := bcell hb2
  simp only [World.size_setCell] at hc2 hf2 hb2
  have e1 := (hc _ 0 z1).trans h.reg
  have d1 : w'.cell? ⟨w0.heap.size + 1, 0, none⟩ = some (.int .u16 (z : Int)) := (hc2 _ 0 (by omega)).trans (World.cell?_setCell_same' _ _ _ (by rw [e1]; rfl))
  have g1 : w'.frozen? ⟨w0.heap.size + 1, 0, none⟩ = false := (hf2 _ 0 (by omega)).trans (by rw [World.frozen?_setCell]; exact (hf _ 0 z1).trans h.freg)
  refine ⟨⟨hk, ?_, ?_, ?_, ?_, ?_⟩, d1, g1⟩
  · have q : w'.cell? ⟨w0.heap.size, 0, none⟩ = some (.int .u16 0) := (hc2 _ 0 (by omega)).trans (by simp [go_sem, (hc _ 0 z0).trans h.res])
    simp [go_sem, q]
  · rw [World.frozen?_setCell]
    exact (hf2 _ 0 (by omega)).trans (by rw [World.frozen?_setCell]; exact (hf _ 0 z0).trans h.fres)
  · rw [hy]; exact World.cell?_setCell_same' _ _ _ (by rw [d1]; rfl)
  · rw [World.frozen?_setCell]; exact g1
  · have b1 : Below w0.heap.size w0 (w1.setCell ⟨w0.heap.size + 1, 0, none⟩ (.int .u16 (z : Int))) := (h.below.trans (hb.mono h.below.size)).setCell (by simp) _
    exact (b1.trans (hb2.mono (by have := h.below.size; omega))).setCell (by simp) _

set_option maxRecDepth 100000 in
set_option maxHeartbeats 2000000 in
theorem part16_any (x t b : Nat) (w : World) (hx : x < 65536) (ht : t < 65536) (c : w.cell? ⟨b, 0, none⟩ = some (.int .u16 (t : Int))) :
    Calls Tryz.prog 106 #[.int .u16 (x : Int), .func (.func 114) #[] #[.pointer (some ⟨b, 0, none⟩)]] w fun e w' => e = .returned (.agg #[.int .u16 ((stN t 8 x : Nat) : Int)]) ∧ Below w.heap.size w w' := by
  have hbz := World.block_lt_of_cell? _ _ c
  have hst : Part16 t x w 0 ((w.alloc (.cells #[.int .u16 0] 165)).alloc (.cells #[.int .u16 (x : Int)] 165)) :=
    ⟨by omega, by go_simp, by go_simp, by simp only [stN]; go_simp, by go_simp, ((Below.refl _ _).alloc (Nat.le_refl _) _).alloc (by simp) _⟩
  have HS := Lib.hid hst
  clear hst
  go_enter Tryz.func106, Tryz.ntmps106
  go_wp2
  go_loopw [9] (fun i wr => ∃ k : Nat, i = .int .i64 (k : Int) ∧ Part16 t x w k wr) (fun i _ => 8 - (intOf i).toNat)
  case atStart => exact ⟨0, rfl, HS.out⟩
  case round =>
    obtain ⟨k, rfl, hP⟩ := hrel
    clear HS
    have hle := hP.le
    have c0 := hP.res
    have f0 := hP.fres
    have c1 := hP.reg
    have f1 := hP.freg
    by_cases hk : k < 8
    · have hy : stN t k x < 65536 := stN_lt (w := 16) (by omega) ht k x hx
      have HN := Lib.hid (stN_succ' t k x)
      have HST := Lib.hid (fun w' hb y hy => Part16.step (w' := w') hP hk hb y hy)
      have HC := Lib.hid ((hP.below.cell (p := ⟨b, 0, none⟩) hbz).trans c)
      have HB := Lib.hid hP.below
      have z1 := World.block_lt_of_cell? _ _ c1
      have HP0 := Lib.hid hP
      clear hP
      generalize stN t k x = y at *
      obtain ⟨z, hz⟩ : ∃ z, z = y / 2 := ⟨_, rfl⟩
      have HZ := Lib.hid hz
      have hzl : z < 65536 := by omega
      clear hz
      rcases Nat.mod_two_eq_zero_or_one y with hm | hm
      · have hm2 : (((y : Int) % 2) == 1) = false := by rw [beq_eq_false_iff_ne]; omega
        have HE := Lib.hid (stp_even (p := t) hm)
        clear hm
        go_wp2_with fail
        refine (low16_one y z _ hy HZ.out).mono ?_
        rintro e w1 ⟨rfl, hb1⟩
        obtain ⟨hc1, hf1⟩ := bcell hb1
        have d1 := (hc1 _ 0 z1).trans c1
        have g1 := (hf1 _ 0 z1).trans f1
        have HS1 := Lib.hid (HST.out w1 hb1 z (by rw [HN.out, HE.out, HZ.out]))
        clear hc1 hf1 hb1 c0 f0 c1 f1 HST HN HE
        go_wp2
        go_roundw
        case rel => exact ⟨k + 1, by go_num, HS1.out⟩
        case measure => simp [intOf]; omega
      · have hm2 : (((y : Int) % 2) == 1) = true := by rw [beq_iff_eq]; omega
        have HE := Lib.hid (stp_odd (p := t) hm)
        clear hm
        go_wp2_with fail
        refine (low16_one y z _ hy HZ.out).mono ?_
        rintro e w1 ⟨rfl, hb1⟩
        obtain ⟨hc1, hf1⟩ := bcell hb1
        have d1 := (hc1 _ 0 z1).trans c1
        have g1 := (hf1 _ 0 z1).trans f1
        have hbr : b < wr.heap.size := World.block_lt_of_cell? _ _ HC.out
        have hcb : (w1.setCell ⟨w.heap.size + 1, 0, none⟩ (.int .u16 (z : Int))).cell? ⟨b, 0, none⟩ = some (.int .u16 (t : Int)) := by
          have := (hc1 b 0 hbr).trans HC.out
          have hne : b ≠ w.heap.size + 1 := by omega
          simp [go_sem, hne, this]
        have d2 : (w1.setCell ⟨w.heap.size + 1, 0, none⟩ (.int .u16 (z : Int))).cell? ⟨w.heap.size + 1, 0, none⟩ = some (.int .u16 (z : Int)) := World.cell?_setCell_same' _ _ _ (by rw [d1]; rfl)
        have g2 : (w1.setCell ⟨w.heap.size + 1, 0, none⟩ (.int .u16 (z : Int))).frozen? ⟨w.heap.size + 1, 0, none⟩ = false := by rw [World.frozen?_setCell]; exact g1
        have hT := turn16_any z t b _ hzl ht hcb
        have HT := Lib.hid hT
        have hsz : w.heap.size + 1 < w1.heap.size := Nat.lt_of_lt_of_le z1 hb1.size
        have HST2 := Lib.hid (fun w' (hb : Below (w1.setCell ⟨w.heap.size + 1, 0, none⟩ (.int .u16 (z : Int))).heap.size (w1.setCell ⟨w.heap.size + 1, 0, none⟩ (.int .u16 (z : Int))) w') => Part16.step2 (w' := w') HP0.out hk hb1 z hb (z ^^^ t) (by rw [HN.out, HE.out, HZ.out]))
        clear hc1 hf1 hb1 c0 f0 c1 f1 HST HN HE hcb hT
        go_wp2_with fail
        refine HT.out.mono ?_
        rintro e w3 ⟨rfl, hb3⟩
        obtain ⟨hS3, d3, g3⟩ := HST2.out w3 hb3
        have HS3 := Lib.hid hS3
        generalize z ^^^ t = q at *
        clear hS3 hb3 HST2 HT d1 g1 d2 g2
        go_wp2
        go_roundw
        case rel => exact ⟨k + 1, by go_num, HS3.out⟩
        case measure => simp [intOf]; omega
    · obtain rfl : k = 8 := by omega
      have HB := Lib.hid hP.below
      obtain ⟨y, hy⟩ : ∃ y, y = stN t 8 x := ⟨_, rfl⟩
      have HY := Lib.hid hy
      rw [← hy] at c1
      clear hP hy
      go_wp2
      exact bodyPost_ret (v := .agg #[.int .u16 (y : Int)]) (by simp [results, Tryz.results106, go_sem, c0]) rfl ⟨by rw [HY.out], HB.out.setCell (by simp) _⟩


set_option maxRecDepth 100000 in
set_option maxHeartbeats 1000000 in
theorem turn32_any (x t b : Nat) (w : World) (hx : x < 4294967296) (ht : t < 4294967296) (c : w.cell? ⟨b, 0, none⟩ = some (.int .u32 (t : Int))) :
    Calls Tryz.prog 116 #[.agg #[.int .u32 (x : Int)], .pointer (some ⟨b, 0, none⟩)] w fun e w' => e = .returned (.agg #[.int .u32 ((x ^^^ t : Nat) : Int)]) ∧ Below w.heap.size w w' := by
  have hX := u32_xor_nat x t hx ht
  have hz := World.block_lt_of_cell? _ _ c
  go_enter Tryz.func116, Tryz.ntmps116
  go_wp2
  exact bodyPost_ret (v := .agg #[.int .u32 ((x ^^^ t : Nat) : Int)]) (by simp [results, Tryz.results116, go_sem]) rfl ⟨rfl, ((Below.refl _ _).alloc (Nat.le_refl _) _).alloc (by simp) _⟩

set_option maxRecDepth 100000 in
set_option maxHeartbeats 1000000 in
theorem turning32_any (t : Nat) (w : World) :
    Calls Tryz.prog 107 #[.int .u32 (t : Int)] w fun e w' => e = .returned (.func (.func 116) #[] #[.pointer (some ⟨w.heap.size, 0, none⟩)]) ∧ w.alloc (.cells #[.int .u32 (t : Int)] 85) = w' := by
  have hmf : ∀ (fn : Fn) (first cap : Array Value) (w : World), (Instr.makeFunc fn first cap).run Tryz.prog w = .ok (.func fn first cap) w := fun _ _ _ _ => rfl
  go_enter Tryz.func107, Tryz.ntmps107
  go_wp2
  go_ret
  exact ⟨rfl, rfl⟩

set_option maxRecDepth 100000 in
set_option maxHeartbeats 1000000 in
theorem low32_one (x z : Nat) (w : World) (hx : x < 4294967296) (hz : z = x / 2) :
    Calls Tryz.prog 117 #[.agg #[.int .u32 (x : Int)], .int .i64 1] w fun e w' => e = .returned (.agg #[.int .u32 (z : Int)]) ∧ Below w.heap.size w w' := by
  subst hz
  go_enter Tryz.func117, Tryz.ntmps117
  go_wp2
  exact bodyPost_ret (v := .agg #[.int .u32 ((x / 2 : Nat) : Int)]) (by simp [results, Tryz.results117, go_sem]) rfl ⟨rfl, ((Below.refl _ _).alloc (Nat.le_refl _) _).alloc (by simp) _⟩

set_option maxRecDepth 100000 in
set_option maxHeartbeats 1000000 in
theorem low32_eight (x z : Nat) (w : World) (hx : x < 4294967296) (hz : z = x / 256) :
    Calls Tryz.prog 117 #[.agg #[.int .u32 (x : Int)], .int .i64 8] w fun e w' => e = .returned (.agg #[.int .u32 (z : Int)]) ∧ Below w.heap.size w w' := by
  subst hz
  go_enter Tryz.func117, Tryz.ntmps117
  go_wp2
  exact bodyPost_ret (v := .agg #[.int .u32 ((x / 256 : Nat) : Int)]) (by simp [results, Tryz.results117, go_sem]) rfl ⟨rfl, ((Below.refl _ _).alloc (Nat.le_refl _) _).alloc (by simp) _⟩

/-- What holds of memory at a round's head of part: the result's block, the register. -/
structure Part32 (t x : Nat) (w0 : World) (k : Nat) (w : World) : Prop where
  le : k ≤ 8
  res : w.cell? ⟨w0.heap.size, 0, none⟩ = some (.int .u32 0)
  fres : w.frozen? ⟨w0.heap.size, 0, none⟩ = false
  reg : w.cell? ⟨w0.heap.size + 1, 0, none⟩ = some (.int .u32 ((stN t k x : Nat) : Int))
  freg : w.frozen? ⟨w0.heap.size + 1, 0, none⟩ = false
  below : Below w0.heap.size w0 w

theorem Part32.step {t x k : Nat} {w0 w w' : World} (h : Part32 t x w0 k w) (hk : k < 8) (hb : Below w.heap.size w w') (y : Nat) (hy : y = stN t (k + 1) x) :
    Part32 t x w0 (k + 1) (w'.setCell ⟨w0.heap.size + 1, 0, none⟩ (.int .u32 (y : Int))) := by
  have z0 := World.block_lt_of_cell? _ _ h.res
  have z1 := World.block_lt_of_cell? _ _ h.reg
  obtain ⟨hc, hf⟩ := bcell hb
  have e1 := (hc _ 0 z1).trans h.reg
  refine ⟨hk, ?_, ?_, ?_, ?_, (h.below.trans (hb.mono h.below.size)).setCell (by simp) _⟩
  · simp [go_sem, (hc _ 0 z0).trans h.res]
  · rw [World.frozen?_setCell]; exact (hf _ 0 z0).trans h.fres
  · rw [hy]; exact World.cell?_setCell_same' _ _ _ (by rw [e1]; rfl)
  · rw [World.frozen?_setCell]; exact (hf _ 0 z1).trans h.freg

theorem Part32.step2 {t x k : Nat} {w0 w w1 w' : World} (h : Part32 t x w0 k w) (hk : k < 8) (hb : Below w.heap.size w w1) (z : Nat) (hb2 : Below (w1.setCell ⟨w0.heap.size + 1, 0, none⟩ (.int .u32 (z : Int))).heap.size (w1.setCell ⟨w0.heap.size + 1, 0, none⟩ (.int .u32 (z : Int))) w') (y : Nat) (hy : y = stN t (k + 1) x) :
    Part32 t x w0 (k + 1) (w'.setCell ⟨w0.heap.size + 1, 0, none⟩ (.int .u32 (y : Int))) ∧ (w'.cell? ⟨w0.heap.size + 1, 0, none⟩ = some (.int .u32 (z : Int)) ∧ w'.frozen? ⟨w0.heap.size + 1, 0, none⟩ = false) := by
  have z0 : w0.heap.size < w.heap.size := World.block_lt_of_cell? _ _ h.res
  have z1 : w0.heap.size + 1 < w.heap.size := World.block_lt_of_cell? _ _ h.reg
  have hsz := hb.size
  obtain ⟨hc, hf⟩ := bcell hb
  obtain ⟨hc2, hf2⟩ := bcell hb2
  simp only [World.size_setCell] at hc2 hf2 hb2
  have e1 := (hc _ 0 z1).trans h.reg
  have d1 : w'.cell? ⟨w0.heap.size + 1, 0, none⟩ = some (.int .u32 (z : Int)) := (hc2 _ 0 (by omega)).trans (World.cell?_setCell_same' _ _ _ (by rw [e1]; rfl))
  have g1 : w'.frozen? ⟨w0.heap.size + 1, 0, none⟩ = false := (hf2 _ 0 (by omega)).trans (by rw [World.frozen?_setCell]; exact (hf _ 0 z1).trans h.freg)
  refine ⟨⟨hk, ?_, ?_, ?_, ?_, ?_⟩, d1, g1⟩
  · have q : w'.cell? ⟨w0.heap.size, 0, none⟩ = some (.int .u32 0) := (hc2 _ 0 (by omega)).trans (by simp [go_sem, (hc _ 0 z0).trans h.res])
    simp [go_sem, q]
  · rw [World.frozen?_setCell]
    exact (hf2 _ 0 (by omega)).trans (by rw [World.frozen?_setCell]; exact (hf _ 0 z0).trans h.fres)
  · rw [hy]; exact World.cell?_setCell_same' _ _ _ (by rw [d1]; rfl)
  · rw [World.frozen?_setCell]; exact g1
  · have b1 : Below w0.heap.size w0 (w1.setCell ⟨w0.heap.size + 1, 0, none⟩ (.int .u32 (z : Int))) := (h.below.trans (hb.mono h.below.size)).setCell (by simp) _
    exact (b1.trans (hb2.mono (by have := h.below.size; omega))).setCell (by simp) _

set_option maxRecDepth 100000 in
set_option maxHeartbeats 2000000 in
theorem part32_any (x t b : Nat) (w : World) (hx : x < 4294967296) (ht : t < 4294967296) (c : w.cell? ⟨b, 0, none⟩ = some (.int .u32 (t : Int))) :
    Calls Tryz.prog 108 #[.int .u32 (x : Int), .func (.func 116) #[] #[.pointer (some ⟨b, 0, none⟩)]] w fun e w' => e = .returned (.agg #[.int .u32 ((stN t 8 x : Nat) : Int)]) ∧ Below w.heap.size w w' := by
  have hbz := World.block_lt_of_cell? _ _ c
  have hst : Part32 t x w 0 ((w.alloc (.cells #[.int .u32 0] 170)).alloc (.cells #[.int .u32 (x : Int)] 170)) :=
    ⟨by omega, by go_simp, by go_simp, by simp only [stN]; go_simp, by go_simp, ((Below.refl _ _).alloc (Nat.le_refl _) _).alloc (by simp) _⟩
  have HS := Lib.hid hst
  clear hst
  go_enter Tryz.func108, Tryz.ntmps108
  go_wp2
  go_loopw [9] (fun i wr => ∃ k : Nat, i = .int .i64 (k : Int) ∧ Part32 t x w k wr) (fun i _ => 8 - (intOf i).toNat)
  case atStart => exact ⟨0, rfl, HS.out⟩
  case round =>
    obtain ⟨k, rfl, hP⟩ := hrel
    clear HS
    have hle := hP.le
    have c0 := hP.res
    have f0 := hP.fres
    have c1 := hP.reg
    have f1 := hP.freg
    by_cases hk : k < 8
    · have hy : stN t k x < 4294967296 := stN_lt (w := 32) (by omega) ht k x hx
      have HN := Lib.hid (stN_succ' t k x)
      have HST := Lib.hid (fun w' hb y hy => Part32.step (w' := w') hP hk hb y hy)
      have HC := Lib.hid ((hP.below.cell (p := ⟨b, 0, none⟩) hbz).trans c)
      have HB := Lib.hid hP.below
      have z1 := World.block_lt_of_cell? _ _ c1
      have HP0 := Lib.hid hP
      clear hP
      generalize stN t k x = y at *
      obtain ⟨z, hz⟩ : ∃ z, z = y / 2 := ⟨_, rfl⟩
      have HZ := Lib.hid hz
      have hzl : z < 4294967296 := by omega
      clear hz
      rcases Nat.mod_two_eq_zero_or_one y with hm | hm
      · have hm2 : (((y : Int) % 2) == 1) = false := by rw [beq_eq_false_iff_ne]; omega
        have HE := Lib.hid (stp_even (p := t) hm)
        clear hm
        go_wp2_with fail
        refine (low32_one y z _ hy HZ.out).mono ?_
        rintro e w1 ⟨rfl, hb1⟩
        obtain ⟨hc1, hf1⟩ := bcell hb1
        have d1 := (hc1 _ 0 z1).trans c1
        have g1 := (hf1 _ 0 z1).trans f1
        have HS1 := Lib.hid (HST.out w1 hb1 z (by rw [HN.out, HE.out, HZ.out]))
        clear hc1 hf1 hb1 c0 f0 c1 f1 HST HN HE
        go_wp2
        go_roundw
        case rel => exact ⟨k + 1, by go_num, HS1.out⟩
        case measure => simp [intOf]; omega
      · have hm2 : (((y : Int) % 2) == 1) = true := by rw [beq_iff_eq]; omega
        have HE := Lib.hid (stp_odd (p := t) hm)
        clear hm
        go_wp2_with fail
        refine (low32_one y z _ hy HZ.out).mono ?_
        rintro e w1 ⟨rfl, hb1⟩
        obtain ⟨hc1, hf1⟩ := bcell hb1
        have d1 := (hc1 _ 0 z1).trans c1
        have g1 := (hf1 _ 0 z1).trans f1
        have hbr : b < wr.heap.size := World.block_lt_of_cell? _ _ HC.out
        have hcb : (w1.setCell ⟨w.heap.size + 1, 0, none⟩ (.int .u32 (z : Int))).cell? ⟨b, 0, none⟩ = some (.int .u32 (t : Int)) := by
          have := (hc1 b 0 hbr).trans HC.out
          have hne : b ≠ w.heap.size + 1 := by omega
          simp [go_sem, hne, this]
        have d2 : (w1.setCell ⟨w.heap.size + 1, 0, none⟩ (.int .u32 (z : Int))).cell? ⟨w.heap.size + 1, 0, none⟩ = some (.int .u32 (z : Int)) := World.cell?_setCell_same' _ _ _ (by rw [d1]; rfl)
        have g2 : (w1.setCell ⟨w.heap.size + 1, 0, none⟩ (.int .u32 (z : Int))).frozen? ⟨w.heap.size + 1, 0, none⟩ = false := by rw [World.frozen?_setCell]; exact g1
        have hT := turn32_any z t b _ hzl ht hcb
        have HT := Lib.hid hT
        have hsz : w.heap.size + 1 < w1.heap.size := Nat.lt_of_lt_of_le z1 hb1.size
        have HST2 := Lib.hid (fun w' (hb : Below (w1.setCell ⟨w.heap.size + 1, 0, none⟩ (.int .u32 (z : Int))).heap.size (w1.setCell ⟨w.heap.size + 1, 0, none⟩ (.int .u32 (z : Int))) w') => Part32.step2 (w' := w') HP0.out hk hb1 z hb (z ^^^ t) (by rw [HN.out, HE.out, HZ.out]))
        clear hc1 hf1 hb1 c0 f0 c1 f1 HST HN HE hcb hT
        go_wp2_with fail
        refine HT.out.mono ?_
        rintro e w3 ⟨rfl, hb3⟩
        obtain ⟨hS3, d3, g3⟩ := HST2.out w3 hb3
        have HS3 := Lib.hid hS3
        generalize z ^^^ t = q at *
        clear hS3 hb3 HST2 HT d1 g1 d2 g2
        go_wp2
        go_roundw
        case rel => exact ⟨k + 1, by go_num, HS3.out⟩
        case measure => simp [intOf]; omega
    · obtain rfl : k = 8 := by omega
      have HB := Lib.hid hP.below
      obtain ⟨y, hy⟩ : ∃ y, y = stN t 8 x := ⟨_, rfl⟩
      have HY := Lib.hid hy
      rw [← hy] at c1
      clear hP hy
      go_wp2
      exact bodyPost_ret (v := .agg #[.int .u32 (y : Int)]) (by simp [results, Tryz.results108, go_sem, c0]) rfl ⟨by rw [HY.out], HB.out.setCell (by simp) _⟩

end Go.Proofs.YtdlkmdjhjdpmeaaGreatDoor
