/- Contracts of Bytes and Take of package nums: for every number, width, text, place. -/
import Derived.Test.YtdlkmdjhjdpmeaaGreatDoorNumsK
import Derived.Test.YtdlkmdjhjdpmeaaGreatDoorLaid
import Derived.Test.YtdlkmdjhjdpmeaaGreatDoorTold
set_option linter.unusedVariables false
set_option linter.unusedSimpArgs false
namespace Go.Proofs.YtdlkmdjhjdpmeaaGreatDoor
open Go.RowKit

theorem widthB_yes {k : Int} (h1 : 1 ≤ k) (h2 : k ≤ 8) : widthB k = true := by unfold widthB; simp; omega
theorem widthB_no {k : Int} (h : k < 1 ∨ 8 < k) : widthB k = false := by unfold widthB; simp; omega
theorem rightB_neg {n : Int} (h : n < 0 ∨ 281474976710655 < n) : rightB n = false := by unfold rightB; simp; omega

theorem pow_256 (k : Nat) : 2 ^ (8 * k) = 256 ^ k := by rw [Nat.pow_mul]
theorem shr_no {n k : Nat} (h : n < 256 ^ k) : ((n : Int) / 2 ^ (8 * k) != 0) = false := by
  have e : (n : Int) / 2 ^ (8 * k) = ((n / 2 ^ (8 * k) : Nat) : Int) := by simp
  rw [e, Nat.div_eq_of_lt (by rw [pow_256]; exact h)]
  rfl
theorem shr_yes {n k : Nat} (h : 256 ^ k ≤ n) : ((n : Int) / 2 ^ (8 * k) != 0) = true := by
  have e : (n : Int) / 2 ^ (8 * k) = ((n / 2 ^ (8 * k) : Nat) : Int) := by simp
  rw [e]
  have : 0 < n / 2 ^ (8 * k) := Nat.div_pos (by rw [pow_256]; exact h) (Nat.pow_pos (by omega))
  rw [bne_iff_ne]
  omega

set_option maxRecDepth 100000 in
set_option maxHeartbeats 1000000 in
theorem spread_ok (n k : Nat) (w : World) (hn : n ≤ 281474976710655) (hk1 : 1 ≤ k) (hk : k ≤ 8) (hf : n < 256 ^ k) :
    Calls Tryz.prog 70 #[.int .i64 (n : Int), .int .i64 (k : Int)] w fun e w' => e = .returned (.agg #[.string ⟨(beL n k).toArray⟩, .nilIface]) ∧ Below w.heap.size w w' := by
  have hw := widthB_yes (k := (k : Int)) (by omega) (by omega)
  have hr := rightB_yes hn
  have hsh := shr_no hf
  clear hf
  have hL := Lib.hid (laid_any n k (w.alloc (.cells #[.string ⟨#[]⟩, .nilIface] 109)) hn hk1 hk)
  generalize (⟨(beL n k).toArray⟩ : ByteArray) = q at *
  go_enter Tryz.func70, Tryz.ntmps70
  go_wp2_with fail
  refine (width_any _ _).mono ?_
  rintro e w' ⟨rfl, rfl⟩
  go_wp2_with fail
  refine (right_any _ _).mono ?_
  rintro e w' ⟨rfl, rfl⟩
  go_wp2_with fail
  refine hL.out.mono ?_
  rintro e w1 ⟨rfl, hb1⟩
  obtain ⟨hc, hff⟩ := bcell hb1
  have hz0 : w.heap.size < w1.heap.size := by have := hb1.size; simp at this; omega
  go_wp2_with (go_at_call 83; refine (goods_any _ _).mono ?_; rintro e w' ⟨rfl, rfl⟩)
  obtain ⟨q0, q1⟩ := two_cells (w := w1) (b := w.heap.size) (x := .string ⟨#[]⟩) (y := .nilIface) ((hc w.heap.size 0 (by simp)).trans (by go_simp)) ((hc w.heap.size 1 (by simp)).trans (by go_simp))
  refine bodyPost_ret (v := .agg #[.string q, .nilIface]) (by simp [results, Tryz.results70, go_sem, hz0, Nat.lt_succ_of_lt hz0, Nat.ne_of_lt hz0, q0, q1]) rfl ⟨rfl, ?_⟩
  exact (((((Below.refl _ _).alloc (Nat.le_refl _) _).trans (hb1.mono (by simp))).setCell (by simp) _).setCell (by simp) _).alloc (by simp; omega) _

set_option maxRecDepth 100000 in
set_option maxHeartbeats 1000000 in
theorem spread_arg (a0 a1 a2 : Addr) (n k : Int) (w : World) (hE : Env a0 a1 a2 w) (hk : k < 1 ∨ 8 < k) :
    Calls Tryz.prog 70 #[.int .i64 n, .int .i64 k] w fun e w' => e = .returned (.agg #[.string ⟨#[]⟩, .iface 179 (.pointer (some a0))]) ∧ Below w.heap.size w w' := by
  have hw := widthB_no hk
  clear hk
  have g0 := hE.g0
  have hz := World.block_lt_of_cell? _ _ g0
  go_enter Tryz.func70, Tryz.ntmps70
  go_wp2_with fail
  refine (width_any _ _).mono ?_
  rintro e w' ⟨rfl, rfl⟩
  go_wp2_with (go_at_call 82; refine (bads_any _ _).mono ?_; rintro e w' ⟨rfl, rfl⟩)
  exact bodyPost_ret (v := .agg #[.string ⟨#[]⟩, .iface 179 (.pointer (some a0))]) (by simp [results, Tryz.results70, go_sem]) rfl ⟨rfl, ((Below.refl _ _).alloc (Nat.le_refl _) _).alloc (by simp) _⟩

set_option maxRecDepth 100000 in
set_option maxHeartbeats 1000000 in
theorem spread_num0 (a0 a1 a2 : Addr) (n k : Int) (w : World) (hE : Env a0 a1 a2 w) (hk1 : 1 ≤ k) (hk : k ≤ 8) (hn : n < 0 ∨ 281474976710655 < n) :
    Calls Tryz.prog 70 #[.int .i64 n, .int .i64 k] w fun e w' => e = .returned (.agg #[.string ⟨#[]⟩, .iface 179 (.pointer (some a1))]) ∧ Below w.heap.size w w' := by
  have hw := widthB_yes hk1 hk
  have hr := rightB_neg hn
  clear hn
  have g1 := hE.g1
  have hz := World.block_lt_of_cell? _ _ g1
  go_enter Tryz.func70, Tryz.ntmps70
  go_wp2_with fail
  refine (width_any _ _).mono ?_
  rintro e w' ⟨rfl, rfl⟩
  go_wp2_with fail
  refine (right_any _ _).mono ?_
  rintro e w' ⟨rfl, rfl⟩
  go_wp2_with (go_at_call 82; refine (bads_any _ _).mono ?_; rintro e w' ⟨rfl, rfl⟩)
  exact bodyPost_ret (v := .agg #[.string ⟨#[]⟩, .iface 179 (.pointer (some a1))]) (by simp [results, Tryz.results70, go_sem]) rfl ⟨rfl, ((Below.refl _ _).alloc (Nat.le_refl _) _).alloc (by simp) _⟩

set_option maxRecDepth 100000 in
set_option maxHeartbeats 1000000 in
theorem spread_num1 (a0 a1 a2 : Addr) (n k : Nat) (w : World) (hE : Env a0 a1 a2 w) (hn : n ≤ 281474976710655) (hk1 : 1 ≤ k) (hk : k ≤ 8) (hf : 256 ^ k ≤ n) :
    Calls Tryz.prog 70 #[.int .i64 (n : Int), .int .i64 (k : Int)] w fun e w' => e = .returned (.agg #[.string ⟨#[]⟩, .iface 179 (.pointer (some a1))]) ∧ Below w.heap.size w w' := by
  have hw := widthB_yes (k := (k : Int)) (by omega) (by omega)
  have hr := rightB_yes hn
  have hsh := shr_yes hf
  clear hf
  have g1 := hE.g1
  have hz := World.block_lt_of_cell? _ _ g1
  go_enter Tryz.func70, Tryz.ntmps70
  go_wp2_with fail
  refine (width_any _ _).mono ?_
  rintro e w' ⟨rfl, rfl⟩
  go_wp2_with fail
  refine (right_any _ _).mono ?_
  rintro e w' ⟨rfl, rfl⟩
  go_wp2_with (go_at_call 82; refine (bads_any _ _).mono ?_; rintro e w' ⟨rfl, rfl⟩)
  exact bodyPost_ret (v := .agg #[.string ⟨#[]⟩, .iface 179 (.pointer (some a1))]) (by simp [results, Tryz.results70, go_sem]) rfl ⟨rfl, ((Below.refl _ _).alloc (Nat.le_refl _) _).alloc (by simp) _⟩

/-- n is a number that the width k has room for. -/
def Room (n k : Int) : Prop := 0 ≤ n ∧ n ≤ 281474976710655 ∧ n.toNat < 256 ^ k.toNat
instance (n k : Int) : Decidable (Room n k) := by unfold Room; infer_instance

/-- What Bytes answers: the bytes, and the error's number. -/
def bytesR (n k : Int) : ByteArray × Int :=
  if k < 1 ∨ 8 < k then (⟨#[]⟩, 2) else if Room n k then (⟨(beL n.toNat k.toNat).toArray⟩, 0) else (⟨#[]⟩, 10)
theorem bytesR_arg {n k : Int} (h : k < 1 ∨ 8 < k) : bytesR n k = (⟨#[]⟩, 2) := if_pos h
theorem bytesR_ok {n k : Int} (h : ¬ (k < 1 ∨ 8 < k)) (hr : Room n k) : bytesR n k = (⟨(beL n.toNat k.toNat).toArray⟩, 0) := by unfold bytesR; rw [if_neg h, if_pos hr]
theorem bytesR_num {n k : Int} (h : ¬ (k < 1 ∨ 8 < k)) (hr : ¬ Room n k) : bytesR n k = (⟨#[]⟩, 10) := by unfold bytesR; rw [if_neg h, if_neg hr]

set_option maxHeartbeats 400000 in
theorem bytes_of_bad (a0 a1 a2 a : Addr) (c n k : Int) (w : World) (hE : Env a0 a1 a2 w) (hs : Sent a0 a1 a2 a c)
    (h : Calls Tryz.prog 70 #[.int .i64 n, .int .i64 k] w fun e w' => e = .returned (.agg #[.string ⟨#[]⟩, .iface 179 (.pointer (some a))]) ∧ Below w.heap.size w w') :
    Calls Tryz.prog 62 #[.int .i64 n, .int .i64 k] w fun e w' => e = .returned (.tuple #[.string ⟨#[]⟩, .int .i64 c]) ∧ Below w.heap.size w w' := by
  have H := Lib.hid h
  clear h
  go_enter Tryz.func62, Tryz.ntmps62
  go_wp2_with fail
  refine H.out.mono ?_
  rintro e w1 ⟨rfl, hb1⟩
  go_wp2_with fail
  refine (tells_bad a0 a1 a2 a c _ _ (hE.below hb1) hs).mono ?_
  rintro e w2 ⟨rfl, hb2⟩
  go_wp2
  go_ret2
  exact ⟨rfl, hb1.trans (hb2.mono hb1.size)⟩

set_option maxHeartbeats 400000 in
theorem bytes_of_ok (q : ByteArray) (n k : Int) (w : World)
    (h : Calls Tryz.prog 70 #[.int .i64 n, .int .i64 k] w fun e w' => e = .returned (.agg #[.string q, .nilIface]) ∧ Below w.heap.size w w') :
    Calls Tryz.prog 62 #[.int .i64 n, .int .i64 k] w fun e w' => e = .returned (.tuple #[.string q, .int .i64 0]) ∧ Below w.heap.size w w' := by
  have H := Lib.hid h
  clear h
  go_enter Tryz.func62, Tryz.ntmps62
  go_wp2_with fail
  refine H.out.mono ?_
  rintro e w1 ⟨rfl, hb1⟩
  go_wp2_with fail
  refine (tells_ok q _).mono ?_
  rintro e w2 ⟨rfl, hb2⟩
  go_wp2
  go_ret2
  exact ⟨rfl, hb1.trans (hb2.mono hb1.size)⟩

theorem bytes_any (a0 a1 a2 : Addr) (n k : Int) (w : World) (hE : Env a0 a1 a2 w) :
    Calls Tryz.prog 62 #[.int .i64 n, .int .i64 k] w fun e w' => e = .returned (.tuple #[.string (bytesR n k).1, .int .i64 (bytesR n k).2]) ∧ Below w.heap.size w w' := by
  by_cases hk : k < 1 ∨ 8 < k
  · rw [bytesR_arg hk]
    exact bytes_of_bad a0 a1 a2 a0 2 n k w hE (.inl ⟨rfl, rfl⟩) (spread_arg a0 a1 a2 n k w hE hk)
  by_cases hr : Room n k
  · rw [bytesR_ok hk hr]
    obtain ⟨h0, h1, h2⟩ := hr
    obtain ⟨m, rfl⟩ := Int.eq_ofNat_of_zero_le h0
    obtain ⟨j, rfl⟩ := Int.eq_ofNat_of_zero_le (show 0 ≤ k by omega)
    exact bytes_of_ok _ _ _ w (spread_ok m j w (by omega) (by omega) (by omega) h2)
  · rw [bytesR_num hk hr]
    by_cases hn : n < 0 ∨ 281474976710655 < n
    · exact bytes_of_bad a0 a1 a2 a1 10 n k w hE (.inr (.inl ⟨rfl, rfl⟩)) (spread_num0 a0 a1 a2 n k w hE (by omega) (by omega) hn)
    · obtain ⟨m, rfl⟩ := Int.eq_ofNat_of_zero_le (show 0 ≤ n by omega)
      obtain ⟨j, rfl⟩ := Int.eq_ofNat_of_zero_le (show 0 ≤ k by omega)
      exact bytes_of_bad a0 a1 a2 a1 10 _ _ w hE (.inr (.inl ⟨rfl, rfl⟩)) (spread_num1 a0 a1 a2 m j w hE (by omega) (by omega) (by omega) (by
        refine Nat.le_of_not_lt fun h => hr ⟨by omega, by omega, h⟩))
end Go.Proofs.YtdlkmdjhjdpmeaaGreatDoor
