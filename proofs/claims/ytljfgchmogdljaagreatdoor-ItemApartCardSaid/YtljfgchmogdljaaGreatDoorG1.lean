/- Contracts of Bytes and Take of package nums: for every number, width, text, place. -/
import Derived.Test.YtljfgchmogdljaaGreatDoorNumsK
import Derived.Test.YtljfgchmogdljaaGreatDoorLaid
import Derived.Test.YtljfgchmogdljaaGreatDoorTold
set_option linter.unusedVariables false
set_option linter.unusedSimpArgs false
namespace Go.Proofs.YtljfgchmogdljaaGreatDoor
open Go.RowKit

theorem widthB_yes {k : Int} (h1 : 1 ≤ k) (h2 : k ≤ 8) : widthB k = true := by unfold widthB; simp; omega
theorem widthB_no {k : Int} (h : k < 1 ∨ 8 < k) : widthB k = false := by unfold widthB; simp; omega
theorem rightB_neg {n : Int} (h : n < 0 ∨ 281474976710655 < n) : rightB n = false := by unfold rightB; simp; omega

theorem pow_256 (k : Nat) : 2 ^ (8 * k) = 256 ^ k := by rw [Nat.pow_mul]
theorem shr_no {n k : Nat} (h : n < 256 ^ k) : ((n : Int) / 2 ^ (8 * k) != 0) = false := by
  have e : (n : Int) / 2 ^ (8 * k) = ((n / 2 ^ (8 * k) : Nat) : Int) := by simp
  rw [e, Nat.div_eq_of_lt (by rw [pow_256]; exact h)]
  rfl
theorem shr_yes {n k : Nat} (h : 256 ^ k ≤ n) : ((n : Int) / 2 ^ (8 * k) != 0) = true := by
  have e : (n : Int) / 2 ^ (8 * k) = ((n / 2 ^ (8 * k) : Nat) : Int) := by simp
  rw [e]
  have : 0 < n / 2 ^ (8 * k) := Nat.div_pos (by rw [pow_256]; exact h) (Nat.pow_pos (by omega))
  rw [bne_iff_ne]
  omega

set_option maxRecDepth 100000 in
set_option maxHeartbeats 1000000 in
theorem spread_ok (n k : Nat) (w : World) (hn : n ≤ 281474976710655) (hk1 : 1 ≤ k) (hk : k ≤ 8) (hf : n < 256 ^ k) :
    Calls Tryz.prog 76 #[.int .i64 (n : Int), .int .i64 (k : Int)] w fun e w' => e = .returned (.agg #[.string ⟨(beL n k).toArray⟩, .nilIface]) ∧ Below w.heap.size w w' := by
  have hw := widthB_yes (k := (k : Int)) (by omega) (by omega)
  have hr := rightB_yes hn
  have hsh := shr_no hf
  clear hf
  have hL := Lib.hid (laid_any n k (w.alloc (.cells #[.string ⟨#[]⟩, .nilIface] 140)) hn hk1 hk)
  generalize (⟨(beL n k).toArray⟩ : ByteArray) = q at *
  go_enter Tryz.func76, Tryz.ntmps76
  go_wp2_with fail
  refine (width_any _ _).mono ?_
  rintro e w' ⟨rfl, rfl⟩
  go_wp2_with fail
  refine (right_any _ _).mono ?_
  rintro e w' ⟨rfl, rfl⟩
  go_wp2_with fail
  refine hL.out.mono ?_
  rintro e w1 ⟨rfl, hb1⟩
  obtain ⟨hc, hff⟩ := bcell hb1
  have hz0 : w.heap.size < w1.heap.size := by have := hb1.size; simp at this; omega
  go_wp2_with (go_at_call 90; refine (goods_any _ _).mono ?_; rintro e w' ⟨rfl, rfl⟩)
  obtain ⟨q0, q1⟩ := two_cells (w := w1) (b := w.heap.size) (x := .string ⟨#[]⟩) (y := .nilIface) ((hc w.heap.size 0 (by simp)).trans (by go_simp)) ((hc w.heap.size 1 (by simp)).trans (by go_simp))
  refine bodyPost_ret (v := .agg #[.string q, .nilIface]) (by simp [results, Tryz.results76, go_sem, hz0, Nat.lt_succ_of_lt hz0, Nat.ne_of_lt hz0, q0, q1]) rfl ⟨rfl, ?_⟩
  exact (((((Below.refl _ _).alloc (Nat.le_refl _) _).trans (hb1.mono (by simp))).setCell (by simp) _).setCell (by simp) _).alloc (by simp; omega) _

set_option maxRecDepth 100000 in
set_option maxHeartbeats 1000000 in
theorem spread_arg (a0 a1 a2 : Addr) (n k : Int) (w : World) (hE : Env a0 a1 a2 w) (hk : k < 1 ∨ 8 < k) :
    Calls Tryz.prog 76 #[.int .i64 n, .int .i64 k] w fun e w' => e = .returned (.agg #[.string ⟨#[]⟩, .iface 192 (.pointer (some a0))]) ∧ Below w.heap.size w w' := by
  have hw := widthB_no hk
  clear hk
  have g0 := hE.g0
  have hz := World.block_lt_of_cell? _ _ g0
  go_enter Tryz.func76, Tryz.ntmps76
  go_wp2_with fail
  refine (width_any _ _).mono ?_
  rintro e w' ⟨rfl, rfl⟩
  go_wp2_with (go_at_call 89; refine (bads_any _ _).mono ?_; rintro e w' ⟨rfl, rfl⟩)
  exact bodyPost_ret (v := .agg #[.string ⟨#[]⟩, .iface 192 (.pointer (some a0))]) (by simp [results, Tryz.results76, go_sem]) rfl ⟨rfl, ((Below.refl _ _).alloc (Nat.le_refl _) _).alloc (by simp) _⟩

set_option maxRecDepth 100000 in
set_option maxHeartbeats 1000000 in
theorem spread_num0 (a0 a1 a2 : Addr) (n k : Int) (w : World) (hE : Env a0 a1 a2 w) (hk1 : 1 ≤ k) (hk : k ≤ 8) (hn : n < 0 ∨ 281474976710655 < n) :
    Calls Tryz.prog 76 #[.int .i64 n, .int .i64 k] w fun e w' => e = .returned (.agg #[.string ⟨#[]⟩, .iface 192 (.pointer (some a1))]) ∧ Below w.heap.size w w' := by
  have hw := widthB_yes hk1 hk
  have hr := rightB_neg hn
  clear hn
  have g1 := hE.g1
  have hz := World.block_lt_of_cell? _ _ g1
  go_enter Tryz.func76, Tryz.ntmps76
  go_wp2_with fail
  refine (width_any _ _).mono ?_
  rintro e w' ⟨rfl, rfl⟩
  go_wp2_with fail
  refine (right_any _ _).mono ?_
  rintro e w' ⟨rfl, rfl⟩
  go_wp2_with (go_at_call 89; refine (bads_any _ _).mono ?_; rintro e w' ⟨rfl, rfl⟩)
  exact bodyPost_ret (v := .agg #[.string ⟨#[]⟩, .iface 192 (.pointer (some a1))]) (by simp [results, Tryz.results76, go_sem]) rfl ⟨rfl, ((Below.refl _ _).alloc (Nat.le_refl _) _).alloc (by simp) _⟩

set_option maxRecDepth 100000 in
set_option maxHeartbeats 1000000 in
theorem spread_num1 (a0 a1 a2 : Addr) (n k : Nat) (w : World) (hE : Env a0 a1 a2 w) (hn : n ≤ 281474976710655) (hk1 : 1 ≤ k) (hk : k ≤ 8) (hf : 256 ^ k ≤ n) :
    Calls Tryz.prog 76 #[.int .i64 (n : Int), .int .i64 (k : Int)] w fun e w' => e = .returned (.agg #[.string ⟨#[]⟩, .iface 192 (.pointer (some a1))]) ∧ Below w.heap.size w w' := by
  have hw := widthB_yes (k := (k : Int)) (by omega) (by omega)
  have hr := rightB_yes hn
  have hsh := shr_yes hf
  clear hf
  have g1 := hE.g1
  have hz := World.block_lt_of_cell? _ _ g1
  go_enter Tryz.func76, Tryz.ntmps76
  go_wp2_with fail
  refine (width_any _ _).mono ?_
  rintro e w' ⟨rfl, rfl⟩
  go_wp2_with fail
  refine (right_any _ _).mono ?_
  rintro e w' ⟨rfl, rfl⟩
  go_wp2_with (go_at_call 89; refine (bads_any _ _).mono ?_; rintro e w' ⟨rfl, rfl⟩)
  exact bodyPost_ret (v := .agg #[.string ⟨#[]⟩, .iface 192 (.pointer (some a1))]) (by simp [results, Tryz.results76, go_sem]) rfl ⟨rfl, ((Below.refl _ _).alloc (Nat.le_refl _) _).alloc (by simp) _⟩

/-- n is a number that the width k has room for. -/
def Room (n k : Int) : Prop := 0 ≤ n ∧ n ≤ 281474976710655 ∧ n.toNat < 256 ^ k.toNat
instance (n k : Int) : Decidable (Room n k) := by unfold Room; infer_instance

/-- What Bytes answers: the bytes, and the error's number. -/
def bytesR (n k : Int) : ByteArray × Int :=
  if k < 1 ∨ 8 < k then (⟨#[]⟩, 2) else if Room n k then (⟨(beL n.toNat k.toNat).toArray⟩, 0) else (⟨#[]⟩, 10)
theorem bytesR_arg {n k : Int} (h : k < 1 ∨ 8 < k) : bytesR n k = (⟨#[]⟩, 2) := if_pos h
theorem bytesR_ok {n k : Int} (h : ¬ (k < 1 ∨ 8 < k)) (hr : Room n k) : bytesR n k = (⟨(beL n.toNat k.toNat).toArray⟩, 0) := by unfold bytesR; rw [if_neg h, if_pos hr]
theorem bytesR_num {n k : Int} (h : ¬ (k < 1 ∨ 8 < k)) (hr : ¬ Room n k) : bytesR n k = (⟨#[]⟩, 10) := by unfold bytesR; rw [if_neg h, if_neg hr]

set_option maxHeartbeats 400000 in
theorem bytes_of_bad (a0 a1 a2 a : Addr) (c n k : Int) (w : World) (hE : Env a0 a1 a2 w) (hs : Sent a0 a1 a2 a c)
    (h : Calls Tryz.prog 76 #[.int .i64 n, .int .i64 k] w fun e w' => e = .returned (.agg #[.string ⟨#[]⟩, .iface 192 (.pointer (some a))]) ∧ Below w.heap.size w w') :
    Calls Tryz.prog 60 #[.int .i64 n, .int .i64 k] w fun e w' => e = .returned (.tuple #[.string ⟨#[]⟩, .int .i64 c]) ∧ Below w.heap.size w w' := by
  have H := Lib.hid h
  clear h
  go_enter Tryz.func60, Tryz.ntmps60
  go_wp2_with fail
  refine H.out.mono ?_
  rintro e w1 ⟨rfl, hb1⟩
  go_wp2_with fail
  refine (tells_bad a0 a1 a2 a c _ _ (hE.below hb1) hs).mono ?_
  rintro e w2 ⟨rfl, hb2⟩
  go_wp2
  go_ret2
  exact ⟨rfl, hb1.trans (hb2.mono hb1.size)⟩

set_option maxHeartbeats 400000 in
theorem bytes_of_ok (q : ByteArray) (n k : Int) (w : World)
    (h : Calls Tryz.prog 76 #[.int .i64 n, .int .i64 k] w fun e w' => e = .returned (.agg #[.string q, .nilIface]) ∧ Below w.heap.size w w') :
    Calls Tryz.prog 60 #[.int .i64 n, .int .i64 k] w fun e w' => e = .returned (.tuple #[.string q, .int .i64 0]) ∧ Below w.heap.size w w' := by
  have H := Lib.hid h
  clear h
  go_enter Tryz.func60, Tryz.ntmps60
  go_wp2_with fail
  refine H.out.mono ?_
  rintro e w1 ⟨rfl, hb1⟩
  go_wp2_with fail
  refine (tells_ok q _).mono ?_
  rintro e w2 ⟨rfl, hb2⟩
  go_wp2
  go_ret2
  exact ⟨rfl, hb1.trans (hb2.mono hb1.size)⟩

theorem bytes_any (a0 a1 a2 : Addr) (n k : Int) (w : World) (hE : Env a0 a1 a2 w) :
    Calls Tryz.prog 60 #[.int .i64 n, .int .i64 k] w fun e w' => e = .returned (.tuple #[.string (bytesR n k).1, .int .i64 (bytesR n k).2]) ∧ Below w.heap.size w w' := by
  by_cases hk : k < 1 ∨ 8 < k
  · rw [bytesR_arg hk]
    exact bytes_of_bad a0 a1 a2 a0 2 n k w hE (.inl ⟨rfl, rfl⟩) (spread_arg a0 a1 a2 n k w hE hk)
  by_cases hr : Room n k
  · rw [bytesR_ok hk hr]
    obtain ⟨h0, h1, h2⟩ := hr
    obtain ⟨m, rfl⟩ := Int.eq_ofNat_of_zero_le h0
    obtain ⟨j, rfl⟩ := Int.eq_ofNat_of_zero_le (show 0 ≤ k by omega)
    exact bytes_of_ok _ _ _ w (spread_ok m j w (by omega) (by omega) (by omega) h2)
  · rw [bytesR_num hk hr]
    by_cases hn : n < 0 ∨ 281474976710655 < n
    · exact bytes_of_bad a0 a1 a2 a1 10 n k w hE (.inr (.inl ⟨rfl, rfl⟩)) (spread_num0 a0 a1 a2 n k w hE (by omega) (by omega) hn)
    · obtain ⟨m, rfl⟩ := Int.eq_ofNat_of_zero_le (show 0 ≤ n by omega)
      obtain ⟨j, rfl⟩ := Int.eq_ofNat_of_zero_le (show 0 ≤ k by omega)
      exact bytes_of_bad a0 a1 a2 a1 10 _ _ w hE (.inr (.inl ⟨rfl, rfl⟩)) (spread_num1 a0 a1 a2 m j w hE (by omega) (by omega) (by omega) (by
        refine Nat.le_of_not_lt fun h => hr ⟨by omega, by omega, h⟩))
end Go.Proofs.YtljfgchmogdljaaGreatDoor

/- Contract of Take of package nums: for every text, place, width. -/
set_option linter.unusedVariables false
set_option linter.unusedSimpArgs false
namespace Go.Proofs.YtljfgchmogdljaaGreatDoor
open Go.RowKit

theorem fresh2 {w w2 : World} {x y : Value} {t : TypeId} (hb : Below (w.alloc (.cells #[x, y] t)).heap.size (w.alloc (.cells #[x, y] t)) w2) :
    w2.cell? ⟨w.heap.size, 0, none⟩ = some x ∧ w2.cell? ⟨w.heap.size, 1, none⟩ = some y ∧ w2.frozen? ⟨w.heap.size, 0, none⟩ = false ∧ w2.frozen? ⟨w.heap.size, 1, none⟩ = false ∧ w.heap.size < w2.heap.size := by
  obtain ⟨hc, hf⟩ := bcell hb
  refine ⟨(hc _ 0 (by simp)).trans (by go_simp), (hc _ 1 (by simp)).trans (by go_simp), (hf _ 0 (by simp)).trans (by go_simp), (hf _ 1 (by simp)).trans (by go_simp), ?_⟩
  have := hb.size
  simp at this
  omega

set_option maxRecDepth 100000 in
set_option maxHeartbeats 1000000 in
theorem gather_arg (a0 a1 a2 : Addr) (s : ByteArray) (at0 k : Int) (w : World) (hE : Env a0 a1 a2 w) (hk : k < 1 ∨ 8 < k) :
    Calls Tryz.prog 100 #[.string s, .int .i64 at0, .int .i64 k] w fun e w' => e = .returned (.agg #[.int .i64 0, .iface 192 (.pointer (some a0))]) ∧ Below w.heap.size w w' := by
  have hw := widthB_no hk
  clear hk
  have g0 := hE.g0
  have hz := World.block_lt_of_cell? _ _ g0
  go_enter Tryz.func100, Tryz.ntmps100
  go_wp2_with fail
  refine (width_any _ _).mono ?_
  rintro e w' ⟨rfl, rfl⟩
  go_wp2_with (go_at_call 103; refine (badi_any _ _).mono ?_; rintro e w' ⟨rfl, rfl⟩)
  exact bodyPost_ret (v := .agg #[.int .i64 0, .iface 192 (.pointer (some a0))]) (by simp [results, Tryz.results100, go_sem]) rfl ⟨rfl, ((Below.refl _ _).alloc (Nat.le_refl _) _).alloc (by simp) _⟩

set_option maxRecDepth 100000 in
set_option maxHeartbeats 1000000 in
theorem gather_short (a0 a1 a2 : Addr) (s : ByteArray) (at0 k : Int) (w : World) (hE : Env a0 a1 a2 w) (hs : s.size ≤ maxLen) (hk1 : 1 ≤ k) (hk : k ≤ 8) (hf : ¬ fitsB s at0 k) :
    Calls Tryz.prog 100 #[.string s, .int .i64 at0, .int .i64 k] w fun e w' => e = .returned (.agg #[.int .i64 0, .iface 192 (.pointer (some a2))]) ∧ Below w.heap.size w w' := by
  have hw := widthB_yes hk1 hk
  have H := Lib.hid hf
  clear hf
  go_enter Tryz.func100, Tryz.ntmps100
  go_wp2_with fail
  refine (width_any _ _).mono ?_
  rintro e w' ⟨rfl, rfl⟩
  go_wp2_with fail
  refine (piece_bad a0 a1 a2 s at0 k _ (hE.below ((Below.refl _ _).alloc (Nat.le_refl _) _)) hs H.out).mono ?_
  rintro e w1 ⟨rfl, hb1⟩
  obtain ⟨hc, hff⟩ := bcell hb1
  have hz0 : w.heap.size < w1.heap.size := by have := hb1.size; simp at this; omega
  go_wp2_with (go_at_call 103; refine (badi_any _ _).mono ?_; rintro e w' ⟨rfl, rfl⟩)
  obtain ⟨q0, q1⟩ := two_cells (w := w1) (b := w.heap.size) (x := .int .i64 0) (y := .nilIface) ((hc w.heap.size 0 (by simp)).trans (by go_simp)) ((hc w.heap.size 1 (by simp)).trans (by go_simp))
  refine bodyPost_ret (v := .agg #[.int .i64 0, .iface 192 (.pointer (some a2))]) (by simp [results, Tryz.results100, go_sem, hz0, Nat.lt_succ_of_lt hz0, Nat.ne_of_lt hz0, q0, q1]) rfl ⟨rfl, ?_⟩
  exact ((((((Below.refl _ _).alloc (Nat.le_refl _) _).trans (hb1.mono (by simp))).setCell (by simp) _).setCell (by simp) _).alloc (by simp; omega) _).alloc (by simp; omega) _

set_option maxRecDepth 100000 in
set_option maxHeartbeats 1000000 in
theorem gather_ok (a0 a1 a2 : Addr) (s q : ByteArray) (at0 k : Int) (w : World) (hE : Env a0 a1 a2 w) (hs : s.size ≤ maxLen) (hk1 : 1 ≤ k) (hk : k ≤ 8) (hf : fitsB s at0 k) (hq : s.extract at0.toNat (at0 + k).toNat = q) (hv : valL q.data.toList ≤ 281474976710655) :
    Calls Tryz.prog 100 #[.string s, .int .i64 at0, .int .i64 k] w fun e w' => e = .returned (.agg #[.int .i64 ((valL q.data.toList : Nat) : Int), .nilIface]) ∧ Below w.heap.size w w' := by
  have hw := widthB_yes hk1 hk
  have H := Lib.hid hf
  clear hf
  have hql : q.size ≤ s.size := by rw [← hq]; exact extract_le _ _ _
  have HQ := Lib.hid hq
  clear hq
  have hr := rightB_yes hv
  have hT := fun w => told_any q w (by unfold maxLen at hs; omega)
  have HT := Lib.hid hT
  clear hT
  go_enter Tryz.func100, Tryz.ntmps100
  go_wp2_with fail
  refine (width_any _ _).mono ?_
  rintro e w' ⟨rfl, rfl⟩
  go_wp2_with fail
  refine (piece_ok s at0 k _ hs H.out).mono ?_
  rintro e w1 ⟨rfl, hb1⟩
  rw [HQ.out]
  obtain ⟨hc, hff⟩ := bcell hb1
  have hz0 : w.heap.size < w1.heap.size := by have := hb1.size; simp at this; omega
  go_wp2_with fail
  refine (HT.out _).mono ?_
  rintro e w2 ⟨m, rfl, hm1, _, _, hb2⟩
  obtain rfl := hm1 hv
  clear hm1
  have hB := hb1.trans ((((Below.refl _ _).alloc (Nat.le_refl _) _).trans (hb2.mono (by simp))).mono hb1.size)
  have hBw : Below w.heap.size w w2 := ((Below.refl _ _).alloc (Nat.le_refl _) _).trans (hB.mono (by simp))
  obtain ⟨p0, p1, f0, f1, hz2⟩ := fresh2 hB
  clear hc hff hb1 hb2 hB
  go_wp2_with fail
  refine (right_any _ _).mono ?_
  rintro e w' ⟨rfl, rfl⟩
  go_wp2_with (go_at_call 105; refine (goodi_any _ _).mono ?_; rintro e w' ⟨rfl, rfl⟩)
  obtain ⟨q0, q1⟩ := two_cells p0 p1
  refine bodyPost_ret (v := .agg #[.int .i64 ((valL q.data.toList : Nat) : Int), .nilIface]) (by simp [results, Tryz.results100, go_sem, hz2, Nat.lt_succ_of_lt hz2, Nat.ne_of_lt hz2, q0, q1]) rfl ⟨rfl, ?_⟩
  exact ((hBw.setCell (by simp) _).setCell (by simp) _).alloc (by simp; omega) _

set_option maxRecDepth 100000 in
set_option maxHeartbeats 1000000 in
theorem gather_num (a0 a1 a2 : Addr) (s q : ByteArray) (at0 k : Int) (w : World) (hE : Env a0 a1 a2 w) (hs : s.size ≤ maxLen) (hk1 : 1 ≤ k) (hk : k ≤ 8) (hf : fitsB s at0 k) (hq : s.extract at0.toNat (at0 + k).toNat = q) (hv : 281474976710655 < valL q.data.toList) :
    Calls Tryz.prog 100 #[.string s, .int .i64 at0, .int .i64 k] w fun e w' => e = .returned (.agg #[.int .i64 0, .iface 192 (.pointer (some a1))]) ∧ Below w.heap.size w w' := by
  have hw := widthB_yes hk1 hk
  have H := Lib.hid hf
  clear hf
  have hql : q.size ≤ s.size := by rw [← hq]; exact extract_le _ _ _
  have HQ := Lib.hid hq
  clear hq
  have hT := fun w => told_any q w (by unfold maxLen at hs; omega)
  have HT := Lib.hid hT
  clear hT
  go_enter Tryz.func100, Tryz.ntmps100
  go_wp2_with fail
  refine (width_any _ _).mono ?_
  rintro e w' ⟨rfl, rfl⟩
  go_wp2_with fail
  refine (piece_ok s at0 k _ hs H.out).mono ?_
  rintro e w1 ⟨rfl, hb1⟩
  rw [HQ.out]
  obtain ⟨hc, hff⟩ := bcell hb1
  have hz0 : w.heap.size < w1.heap.size := by have := hb1.size; simp at this; omega
  go_wp2_with fail
  refine (HT.out _).mono ?_
  rintro e w2 ⟨m, rfl, _, hm1, hm2, hb2⟩
  have hm := hm1 hv
  clear hm1
  have hr := rightB_no hm
  have hB := hb1.trans ((((Below.refl _ _).alloc (Nat.le_refl _) _).trans (hb2.mono (by simp))).mono hb1.size)
  have hBw : Below w.heap.size w w2 := ((Below.refl _ _).alloc (Nat.le_refl _) _).trans (hB.mono (by simp))
  obtain ⟨p0, p1, f0, f1, hz2⟩ := fresh2 hB
  have g1 := (hE.below hBw).g1
  have hz := World.block_lt_of_cell? _ _ g1
  have hne : w.heap.size ≠ 6 := by have := World.block_lt_of_cell? _ _ hE.g1; simp at this; omega
  clear hc hff hb1 hb2 hB
  go_wp2_with fail
  refine (right_any _ _).mono ?_
  rintro e w' ⟨rfl, rfl⟩
  go_wp2_with (go_at_call 103; refine (badi_any _ _).mono ?_; rintro e w' ⟨rfl, rfl⟩)
  obtain ⟨q0, q1⟩ := two_cells p0 p1
  refine bodyPost_ret (v := .agg #[.int .i64 0, .iface 192 (.pointer (some a1))]) (by simp [results, Tryz.results100, go_sem, hz2, Nat.lt_succ_of_lt hz2, Nat.ne_of_lt hz2, q0, q1]) rfl ⟨rfl, ?_⟩
  exact ((hBw.setCell (by simp) _).setCell (by simp) _).alloc (by simp; omega) _

/-- What Take answers: the number, and the error's number. -/
def takeR (s : ByteArray) (at0 k : Int) : Int × Int :=
  if k < 1 ∨ 8 < k then (0, 2) else if ¬ fitsB s at0 k then (0, 11)
  else if valL (s.extract at0.toNat (at0 + k).toNat).data.toList ≤ 281474976710655 then (((valL (s.extract at0.toNat (at0 + k).toNat).data.toList : Nat) : Int), 0) else (0, 10)

set_option maxHeartbeats 400000 in
theorem take_of_bad (a0 a1 a2 a : Addr) (c : Int) (s : ByteArray) (at0 k : Int) (w : World) (hE : Env a0 a1 a2 w) (hs : Sent a0 a1 a2 a c)
    (h : Calls Tryz.prog 100 #[.string s, .int .i64 at0, .int .i64 k] w fun e w' => e = .returned (.agg #[.int .i64 0, .iface 192 (.pointer (some a))]) ∧ Below w.heap.size w w') :
    Calls Tryz.prog 96 #[.string s, .int .i64 at0, .int .i64 k] w fun e w' => e = .returned (.tuple #[.int .i64 0, .int .i64 c]) ∧ Below w.heap.size w w' := by
  have H := Lib.hid h
  clear h
  go_enter Tryz.func96, Tryz.ntmps96
  go_wp2_with fail
  refine H.out.mono ?_
  rintro e w1 ⟨rfl, hb1⟩
  go_wp2_with fail
  refine (telli_bad a0 a1 a2 a c _ _ (hE.below hb1) hs).mono ?_
  rintro e w2 ⟨rfl, hb2⟩
  go_wp2
  go_ret2
  exact ⟨rfl, hb1.trans (hb2.mono hb1.size)⟩

set_option maxHeartbeats 400000 in
theorem take_of_ok (v : Int) (s : ByteArray) (at0 k : Int) (w : World)
    (h : Calls Tryz.prog 100 #[.string s, .int .i64 at0, .int .i64 k] w fun e w' => e = .returned (.agg #[.int .i64 v, .nilIface]) ∧ Below w.heap.size w w') :
    Calls Tryz.prog 96 #[.string s, .int .i64 at0, .int .i64 k] w fun e w' => e = .returned (.tuple #[.int .i64 v, .int .i64 0]) ∧ Below w.heap.size w w' := by
  have H := Lib.hid h
  clear h
  go_enter Tryz.func96, Tryz.ntmps96
  go_wp2_with fail
  refine H.out.mono ?_
  rintro e w1 ⟨rfl, hb1⟩
  go_wp2_with fail
  refine (telli_ok v _).mono ?_
  rintro e w2 ⟨rfl, hb2⟩
  go_wp2
  go_ret2
  exact ⟨rfl, hb1.trans (hb2.mono hb1.size)⟩

theorem take_any (a0 a1 a2 : Addr) (s : ByteArray) (at0 k : Int) (w : World) (hE : Env a0 a1 a2 w) (hs : s.size ≤ maxLen) :
    Calls Tryz.prog 96 #[.string s, .int .i64 at0, .int .i64 k] w fun e w' => e = .returned (.tuple #[.int .i64 (takeR s at0 k).1, .int .i64 (takeR s at0 k).2]) ∧ Below w.heap.size w w' := by
  unfold takeR
  by_cases hk : k < 1 ∨ 8 < k
  · rw [if_pos hk]
    exact take_of_bad a0 a1 a2 a0 2 s at0 k w hE (.inl ⟨rfl, rfl⟩) (gather_arg a0 a1 a2 s at0 k w hE hk)
  rw [if_neg hk]
  by_cases hf : fitsB s at0 k
  · rw [if_neg (fun h => h hf)]
    by_cases hv : valL (s.extract at0.toNat (at0 + k).toNat).data.toList ≤ 281474976710655
    · rw [if_pos hv]
      exact take_of_ok _ s at0 k w (gather_ok a0 a1 a2 s _ at0 k w hE hs (by omega) (by omega) hf rfl hv)
    · rw [if_neg hv]
      exact take_of_bad a0 a1 a2 a1 10 s at0 k w hE (.inr (.inl ⟨rfl, rfl⟩)) (gather_num a0 a1 a2 s _ at0 k w hE hs (by omega) (by omega) hf rfl (Nat.lt_of_not_le hv))
  · rw [if_pos hf]
    exact take_of_bad a0 a1 a2 a2 11 s at0 k w hE (.inr (.inr ⟨rfl, rfl⟩)) (gather_short a0 a1 a2 s at0 k w hE hs (by omega) (by omega) hf)
end Go.Proofs.YtljfgchmogdljaaGreatDoor

/- Facts on numbers and their bytes, without any program: a number is told from its bytes, bytes are those of their number, a wider row has a byte 0 ahead. -/
set_option linter.unusedVariables false
set_option linter.unusedSimpArgs false
namespace Go.Proofs.YtljfgchmogdljaaGreatDoor
open Go.RowKit

theorem byteAt_lt (n k j : Nat) : byteAt n k j < 256 := Nat.mod_lt _ (by omega)
theorem beL_zero (n : Nat) : beL n 0 = [] := rfl

theorem beL_succ (n k : Nat) : beL n (k + 1) = beL (n / 256) k ++ [UInt8.ofNat (n % 256)] := by
  unfold beL
  rw [List.range_succ, List.map_append]
  congr 1
  · apply List.map_congr_left
    intro j hj
    rw [List.mem_range] at hj
    unfold byteAt
    have : k + 1 - 1 - j = (k - 1 - j) + 1 := by omega
    rw [this, Nat.pow_succ, Nat.mul_comm, ← Nat.div_div_eq_div_mul]
  · simp [byteAt]

theorem valL_beL (k : Nat) : ∀ n : Nat, valL (beL n k) = n % 256 ^ k := by
  induction k with
  | zero => intro n; simp [beL, valL, Nat.mod_one]
  | succ k ih =>
    intro n
    rw [beL_succ, valL_snoc, ih]
    have h1 : (UInt8.ofNat (n % 256)).toNat = n % 256 := by simp
    rw [h1, Nat.pow_succ, Nat.mul_comm (256 ^ k) 256, Nat.mod_mul]
    omega

theorem valL_beL_of_lt {n k : Nat} (h : n < 256 ^ k) : valL (beL n k) = n := by rw [valL_beL, Nat.mod_eq_of_lt h]

theorem beL_valL (k : Nat) : ∀ l : List UInt8, l.length = k → beL (valL l) k = l := by
  induction k with
  | zero => intro l hl; rw [List.eq_nil_of_length_eq_zero hl]; rfl
  | succ k ih =>
    intro l hl
    obtain ⟨r, b, rfl⟩ : ∃ r b, l = r ++ [b] := by
      rcases List.eq_nil_or_concat l with rfl | ⟨r, b, rfl⟩
      · simp at hl
      · exact ⟨r, b, by simp⟩
    have hb := b.toNat_lt
    rw [beL_succ, valL_snoc]
    have e1 : (256 * valL r + b.toNat) / 256 = valL r := by omega
    have e2 : (256 * valL r + b.toNat) % 256 = b.toNat := by omega
    rw [e1, e2, ih r (by simpa using hl)]
    simp

theorem beL_wider {n : Nat} : ∀ (k : Nat), n < 256 ^ k → beL n (k + 1) = 0 :: beL n k := by
  intro k h
  have h1 : (0 :: beL n k).length = k + 1 := by simp [beL_length]
  have h2 := beL_valL (k + 1) (0 :: beL n k) h1
  have h3 : valL (0 :: beL n k) = n := by
    have := valL_append [0] (beL n k)
    rw [List.singleton_append] at this
    rw [this, valL_beL_of_lt h]
    simp [valL]
  rw [h3] at h2
  exact h2

theorem beL_inj {n m k : Nat} (hn : n < 256 ^ k) (hm : m < 256 ^ k) (h : beL n k = beL m k) : n = m := by
  rw [← valL_beL_of_lt hn, ← valL_beL_of_lt hm, h]

theorem valL_cons (b : UInt8) (l : List UInt8) : valL (b :: l) = 256 ^ l.length * b.toNat + valL l := by
  have := valL_append [b] l
  rw [List.singleton_append] at this
  rw [this]
  simp [valL]

theorem bytesLess_val : ∀ (x y : List UInt8), x.length = y.length → Op.bytesLess x y = decide (valL x < valL y)
  | [], [], _ => by simp [Op.bytesLess, valL]
  | [], _ :: _, h => by simp at h
  | _ :: _, [], h => by simp at h
  | a :: x, b :: y, h => by
    have hl : x.length = y.length := by simpa using h
    have ih := bytesLess_val x y hl
    have hx := valL_lt x
    have hy := valL_lt y
    rw [hl] at hx
    simp only [Op.bytesLess, ih, valL_cons, hl]
    generalize 256 ^ y.length = p at *
    have e1 : (a < b) = (a.toNat < b.toNat) := by rw [UInt8.lt_iff_toNat_lt]
    have e2 : (a == b) = decide (a.toNat = b.toNat) := by
      rw [Bool.eq_iff_iff]
      simp [← UInt8.toNat_inj]
    rw [e2]
    simp only [e1]
    rcases Nat.lt_trichotomy a.toNat b.toNat with h1 | h1 | h1
    · have : p * a.toNat + p ≤ p * b.toNat := by
        calc p * a.toNat + p = p * (a.toNat + 1) := by rw [Nat.mul_add, Nat.mul_one]
          _ ≤ p * b.toNat := Nat.mul_le_mul_left _ h1
      simp [h1]
      omega
    · rw [h1]
      simp
    · have : p * b.toNat + p ≤ p * a.toNat := by
        calc p * b.toNat + p = p * (b.toNat + 1) := by rw [Nat.mul_add, Nat.mul_one]
          _ ≤ p * a.toNat := Nat.mul_le_mul_left _ h1
      have h2 : ¬ a.toNat < b.toNat := by omega
      have h3 : ¬ a.toNat = b.toNat := by omega
      simp [h2, h3]
      omega

theorem bytesLess_beL {n m k : Nat} (hn : n < 256 ^ k) (hm : m < 256 ^ k) : Op.bytesLess (beL n k) (beL m k) = decide (n < m) := by
  rw [bytesLess_val _ _ (by simp [beL_length]), valL_beL_of_lt hn, valL_beL_of_lt hm]

/-- The three ways of Bytes. -/
theorem bytesR_cases (n k : Int) : (k < 1 ∨ 8 < k) ∧ bytesR n k = (⟨#[]⟩, 2) ∨ (1 ≤ k ∧ k ≤ 8) ∧ ¬ Room n k ∧ bytesR n k = (⟨#[]⟩, 10) ∨ ∃ m j : Nat, n = m ∧ k = j ∧ 1 ≤ j ∧ j ≤ 8 ∧ m ≤ 281474976710655 ∧ m < 256 ^ j ∧ bytesR n k = (⟨(beL m j).toArray⟩, 0) := by
  by_cases hk : k < 1 ∨ 8 < k
  · exact .inl ⟨hk, bytesR_arg hk⟩
  by_cases hr : Room n k
  · have e := bytesR_ok hk hr
    obtain ⟨h0, h1, h2⟩ := hr
    obtain ⟨m, rfl⟩ := Int.eq_ofNat_of_zero_le h0
    obtain ⟨j, rfl⟩ := Int.eq_ofNat_of_zero_le (show 0 ≤ k by omega)
    exact .inr (.inr ⟨m, j, rfl, rfl, by omega, by omega, by omega, h2, e⟩)
  · exact .inr (.inl ⟨by omega, hr, bytesR_num hk hr⟩)

theorem bytesR_of {m j : Nat} (h1 : 1 ≤ j) (h2 : j ≤ 8) (h3 : m ≤ 281474976710655) (h4 : m < 256 ^ j) : bytesR m j = (⟨(beL m j).toArray⟩, 0) :=
  bytesR_ok (by omega) ⟨by omega, by omega, h4⟩
end Go.Proofs.YtljfgchmogdljaaGreatDoor

/- Heads and their bytes, as lists: plain mathematics (over stage 1's beL and valL). -/
set_option linter.unusedVariables false
set_option linter.unusedSimpArgs false
namespace Go.Proofs.YtljfgchmogdljaaGreatDoor

/-- How many bytes an argument asks for, behind the first one; and what the first one has beside the major. -/
def wid (n : Nat) : Nat := if n < 24 then 0 else if n < 256 then 1 else if n < 65536 then 2 else if n < 4294967296 then 4 else 8
def tagN (n : Nat) : Nat := if n < 24 then n else if n < 256 then 24 else if n < 65536 then 25 else if n < 4294967296 then 26 else 27
/-- The width that a first byte tells. -/
def widT (t : Nat) : Nat := if t < 24 then 0 else if t = 24 then 1 else if t = 25 then 2 else if t = 26 then 4 else 8
/-- Is it a major? -/
def Maj (m : Nat) : Prop := m = 0 ∨ 2 ≤ m ∧ m ≤ 4
instance (m : Nat) : Decidable (Maj m) := by unfold Maj; infer_instance
/-- A head's bytes. -/
def headL (m n : Nat) : List UInt8 := UInt8.ofNat (32 * m + tagN n) :: beL n (wid n)

theorem headL_length (m n : Nat) : (headL m n).length = 1 + wid n := by simp [headL, beL_length]; omega
theorem wid_cases (n : Nat) : (n < 24 ∧ wid n = 0 ∧ tagN n = n) ∨ (24 ≤ n ∧ n < 256 ∧ wid n = 1 ∧ tagN n = 24) ∨ (256 ≤ n ∧ n < 65536 ∧ wid n = 2 ∧ tagN n = 25) ∨ (65536 ≤ n ∧ n < 4294967296 ∧ wid n = 4 ∧ tagN n = 26) ∨ (4294967296 ≤ n ∧ wid n = 8 ∧ tagN n = 27) := by
  unfold wid tagN
  by_cases h1 : n < 24
  · exact .inl ⟨h1, if_pos h1, if_pos h1⟩
  · by_cases h2 : n < 256
    · exact .inr (.inl ⟨by omega, h2, by simp [h1, h2], by simp [h1, h2]⟩)
    · by_cases h3 : n < 65536
      · exact .inr (.inr (.inl ⟨by omega, h3, by simp [h1, h2, h3], by simp [h1, h2, h3]⟩))
      · by_cases h4 : n < 4294967296
        · exact .inr (.inr (.inr (.inl ⟨by omega, h4, by simp [h1, h2, h3, h4], by simp [h1, h2, h3, h4]⟩)))
        · exact .inr (.inr (.inr (.inr ⟨by omega, by simp [h1, h2, h3, h4], by simp [h1, h2, h3, h4]⟩)))
theorem wid_room {n : Nat} (h : n ≤ 281474976710655) (h24 : 24 ≤ n) : n < 256 ^ wid n := by
  rcases wid_cases n with ⟨h1, h2, _⟩ | ⟨h0, h1, h2, _⟩ | ⟨h0, h1, h2, _⟩ | ⟨h0, h1, h2, _⟩ | ⟨h0, h2, _⟩ <;> rw [h2] <;> simp <;> omega
theorem wid_le (n : Nat) : wid n ≤ 8 := by
  rcases wid_cases n with ⟨h1, h2, _⟩ | ⟨h0, h1, h2, _⟩ | ⟨h0, h1, h2, _⟩ | ⟨h0, h1, h2, _⟩ | ⟨h0, h2, _⟩ <;> omega
theorem wid_mono {n m : Nat} (h : n ≤ m) : wid n ≤ wid m := by
  rcases wid_cases n with ⟨h1, h2, _⟩ | ⟨h0, h1, h2, _⟩ | ⟨h0, h1, h2, _⟩ | ⟨h0, h1, h2, _⟩ | ⟨h0, h2, _⟩ <;> rcases wid_cases m with ⟨k1, k2, _⟩ | ⟨k0, k1, k2, _⟩ | ⟨k0, k1, k2, _⟩ | ⟨k0, k1, k2, _⟩ | ⟨k0, k2, _⟩ <;> omega
theorem tag_le (n : Nat) : tagN n ≤ 27 := by
  rcases wid_cases n with ⟨h1, _, h2⟩ | ⟨h0, h1, _, h2⟩ | ⟨h0, h1, _, h2⟩ | ⟨h0, h1, _, h2⟩ | ⟨h0, _, h2⟩ <;> omega
theorem widT_tag (n : Nat) : widT (tagN n) = wid n := by
  rcases wid_cases n with ⟨h1, h3, h2⟩ | ⟨h0, h1, h3, h2⟩ | ⟨h0, h1, h3, h2⟩ | ⟨h0, h1, h3, h2⟩ | ⟨h0, h3, h2⟩ <;> rw [h2, h3] <;> unfold widT
  · exact if_pos h1
  all_goals decide

/-- What is decoded at the beginning of a row of bytes: an error's number; or a major, a number, and how many bytes. -/
def hdL : List UInt8 → Except Int (Nat × Nat × Nat)
  | [] => .error 11
  | b :: r => if ¬ Maj (b.toNat / 32) ∨ 27 < b.toNat % 32 then .error 20 else
      if b.toNat % 32 < 24 then .ok (b.toNat / 32, b.toNat % 32, 1) else
      if r.length < widT (b.toNat % 32) then .error 11 else
      if 281474976710655 < valL (r.take (widT (b.toNat % 32))) then .error 10 else
      if wid (valL (r.take (widT (b.toNat % 32)))) ≠ widT (b.toNat % 32) then .error 20 else
      .ok (b.toNat / 32, valL (r.take (widT (b.toNat % 32))), 1 + widT (b.toNat % 32))

theorem first_byte_h {m n : Nat} (hm : Maj m) : (UInt8.ofNat (32 * m + tagN n)).toNat / 32 = m ∧ (UInt8.ofNat (32 * m + tagN n)).toNat % 32 = tagN n := by
  have h1 := tag_le n
  have h2 : m ≤ 4 := by unfold Maj at hm; omega
  have e : (UInt8.ofNat (32 * m + tagN n)).toNat = 32 * m + tagN n := by simp; omega
  rw [e]
  omega
theorem hdL_head {m n : Nat} (hm : Maj m) (hn : n ≤ 281474976710655) (r : List UInt8) : hdL (headL m n ++ r) = .ok (m, n, (headL m n).length) := by
  obtain ⟨e1, e2⟩ := first_byte_h (n := n) hm
  have ht := tag_le n
  rw [headL_length]
  unfold headL
  rw [List.cons_append, hdL, e1, e2, if_neg (by simp [hm]; omega)]
  by_cases h24 : n < 24
  · have hw : wid n = 0 := by unfold wid; exact if_pos h24
    have htg : tagN n = n := by unfold tagN; exact if_pos h24
    rw [htg, if_pos h24, hw]
  · have htg : ¬ tagN n < 24 := by
      rcases wid_cases n with ⟨h1, _, h2⟩ | ⟨h0, h1, _, h2⟩ | ⟨h0, h1, _, h2⟩ | ⟨h0, h1, _, h2⟩ | ⟨h0, _, h2⟩ <;> omega
    have e3 : (beL n (wid n) ++ r).take (wid n) = beL n (wid n) := by
      rw [List.take_append_of_le_length (by rw [beL_length]; omega), List.take_of_length_le (by rw [beL_length]; omega)]
    rw [if_neg htg, widT_tag, if_neg (by rw [List.length_append, beL_length]; omega), e3, valL_beL_of_lt (wid_room hn (by omega)), if_neg (by omega), if_neg (by simp)]
theorem hdL_back {l : List UInt8} {m n k : Nat} (h : hdL l = .ok (m, n, k)) : Maj m ∧ n ≤ 281474976710655 ∧ k = (headL m n).length ∧ k ≤ l.length ∧ l.take k = headL m n := by
  rcases l with _ | ⟨b, r⟩
  · cases h
  · have hb := b.toNat_lt
    rw [hdL] at h
    by_cases h1 : ¬ Maj (b.toNat / 32) ∨ 27 < b.toNat % 32
    · rw [if_pos h1] at h; cases h
    · rw [if_neg h1] at h
      have hm : Maj (b.toNat / 32) := Decidable.byContradiction fun e => h1 (.inl e)
      have ht : b.toNat % 32 ≤ 27 := by rcases Nat.lt_or_ge 27 (b.toNat % 32) with e | e; exact absurd (.inr e) h1; exact e
      have hbb : UInt8.ofNat b.toNat = b := by simp
      by_cases h2 : b.toNat % 32 < 24
      · rw [if_pos h2] at h
        simp only [Except.ok.injEq, Prod.mk.injEq] at h
        obtain ⟨rfl, rfl, rfl⟩ := h
        have hw : wid (b.toNat % 32) = 0 := by unfold wid; exact if_pos h2
        have htg : tagN (b.toNat % 32) = b.toNat % 32 := by unfold tagN; exact if_pos h2
        refine ⟨hm, by omega, by rw [headL_length, hw], by simp, ?_⟩
        unfold headL
        rw [hw, htg, show 32 * (b.toNat / 32) + b.toNat % 32 = b.toNat by omega, hbb]
        rfl
      · rw [if_neg h2] at h
        by_cases h3 : r.length < widT (b.toNat % 32)
        · rw [if_pos h3] at h; cases h
        · rw [if_neg h3] at h
          by_cases h4 : 281474976710655 < valL (r.take (widT (b.toNat % 32)))
          · rw [if_pos h4] at h; cases h
          · rw [if_neg h4] at h
            by_cases h5 : wid (valL (r.take (widT (b.toNat % 32)))) ≠ widT (b.toNat % 32)
            · rw [if_pos h5] at h; cases h
            · rw [if_neg h5] at h
              simp only [Except.ok.injEq, Prod.mk.injEq] at h
              obtain ⟨rfl, rfl, rfl⟩ := h
              have h5' : wid (valL (r.take (widT (b.toNat % 32)))) = widT (b.toNat % 32) := Decidable.byContradiction h5
              have hl : (r.take (widT (b.toNat % 32))).length = widT (b.toNat % 32) := by rw [List.length_take]; omega
              have htag : tagN (valL (r.take (widT (b.toNat % 32)))) = b.toNat % 32 := by
                have hT : (b.toNat % 32 = 24 ∧ widT (b.toNat % 32) = 1) ∨ (b.toNat % 32 = 25 ∧ widT (b.toNat % 32) = 2) ∨ (b.toNat % 32 = 26 ∧ widT (b.toNat % 32) = 4) ∨ (b.toNat % 32 = 27 ∧ widT (b.toNat % 32) = 8) := by
                  have : b.toNat % 32 = 24 ∨ b.toNat % 32 = 25 ∨ b.toNat % 32 = 26 ∨ b.toNat % 32 = 27 := by omega
                  rcases this with e | e | e | e <;> rw [e] <;> decide
                generalize valL (r.take (widT (b.toNat % 32))) = v at *
                rcases wid_cases v with ⟨k1, k2, k3⟩ | ⟨k0, k1, k2, k3⟩ | ⟨k0, k1, k2, k3⟩ | ⟨k0, k1, k2, k3⟩ | ⟨k0, k2, k3⟩ <;> omega
              refine ⟨hm, by omega, by rw [headL_length, h5'], by simp; omega, ?_⟩
              unfold headL
              rw [htag, h5', show 32 * (b.toNat / 32) + b.toNat % 32 = b.toNat by omega, hbb, beL_valL _ _ hl, Nat.add_comm, List.take_succ_cons]
theorem hdL_err {l : List UInt8} {e : Int} (h : hdL l = .error e) : e = 11 ∨ e = 20 ∨ e = 10 := by
  rcases l with _ | ⟨b, r⟩
  · exact .inl (by injection h with h; exact h.symm)
  · rw [hdL] at h
    repeat' split at h
    all_goals first | cases h | skip
    all_goals first | exact .inl rfl | exact .inr (.inl rfl) | exact .inr (.inr rfl)
theorem head_begins {a b n m : Nat} (ha : Maj a) (hb : Maj b) (hn : n ≤ 281474976710655) (hm : m ≤ 281474976710655) : (headL b m).take (headL a n).length = headL a n ↔ a = b ∧ n = m := by
  constructor
  · intro h
    have e : headL b m = headL a n ++ (headL b m).drop (headL a n).length := by
      conv => lhs; rw [← List.take_append_drop (headL a n).length (headL b m)]
      rw [h]
    have h1 := hdL_head hb hm []
    rw [List.append_nil, e, hdL_head ha hn] at h1
    simp only [Except.ok.injEq, Prod.mk.injEq] at h1
    exact ⟨h1.1, h1.2.1⟩
  · rintro ⟨rfl, rfl⟩
    exact List.take_length
theorem head_short {m n j : Nat} (hm : Maj m) (hn : n ≤ 281474976710655) (h : j < (headL m n).length) : hdL ((headL m n).take j) = .error 11 := by
  rcases j with _ | j
  · rfl
  · obtain ⟨e1, e2⟩ := first_byte_h (n := n) hm
    have ht := tag_le n
    rw [headL_length] at h
    have h24 : 24 ≤ n := by
      rcases wid_cases n with ⟨h1, h2, _⟩ | ⟨h0, _⟩ | ⟨h0, _⟩ | ⟨h0, _⟩ | ⟨h0, _⟩ <;> omega
    have htg : ¬ tagN n < 24 := by
      rcases wid_cases n with ⟨h1, _, h2⟩ | ⟨h0, h1, _, h2⟩ | ⟨h0, h1, _, h2⟩ | ⟨h0, h1, _, h2⟩ | ⟨h0, _, h2⟩ <;> omega
    unfold headL
    rw [List.take_succ_cons, hdL, e1, e2, if_neg (by simp [hm]; omega), if_neg htg, widT_tag, if_pos (by rw [List.length_take, beL_length]; omega)]
end Go.Proofs.YtljfgchmogdljaaGreatDoor

/- Items of CBOR as trees: their bytes, how they are read, which are right: plain mathematics (over heads as lists). -/
set_option linter.unusedVariables false
set_option linter.unusedSimpArgs false
namespace Go.Proofs.YtljfgchmogdljaaGreatDoor

/-- An item: its kind, number, bytes, items. -/
inductive Itm where
  | mk (kind n : Int) (s : List UInt8) (l : List Itm)

/-- Are all bytes from 20 to 7e? -/
def txtB (s : List UInt8) : Bool := s.all fun b => decide (32 ≤ b.toNat) && decide (b.toNat ≤ 126)
/-- Is what an item is of so, whatever is in its list? -/
def ownB (k n : Int) (s : List UInt8) (l : List Itm) : Bool :=
  (decide (k = 0) && decide (0 ≤ n) && decide (n ≤ 281474976710655) && s.isEmpty && l.isEmpty) ||
  (decide (k = 2) && decide (n = 0) && decide (s.length ≤ 600) && l.isEmpty) ||
  (decide (k = 3) && decide (n = 0) && decide (s.length ≤ 600) && l.isEmpty && txtB s) ||
  (decide (k = 4) && decide (n = 0) && s.isEmpty)
/-- A head's argument. -/
def argN (k n : Int) (s : List UInt8) (l : List Itm) : Nat := if k = 4 then l.length else if k = 0 then n.toNat else s.length

mutual
/-- How many items there are. -/
def cnt : Itm → Nat
  | .mk _ _ _ l => cnts l + 1
def cnts : List Itm → Nat
  | [] => 0
  | x :: r => cnt x + cnts r
end
mutual
/-- How deep an item is. -/
def dep : Itm → Nat
  | .mk _ _ _ l => deps l + 1
def deps : List Itm → Nat
  | [] => 0
  | x :: r => max (dep x) (deps r)
end
mutual
/-- Is an item, and all in it, of what it must be? -/
def okI : Itm → Bool
  | .mk k n s l => ownB k n s l && okIs l
def okIs : List Itm → Bool
  | [] => true
  | x :: r => okI x && okIs r
end
mutual
/-- An item's bytes. -/
def encI : Itm → List UInt8
  | .mk k n s l => headL k.toNat (argN k n s l) ++ (s ++ encIs l)
def encIs : List Itm → List UInt8
  | [] => []
  | x :: r => encI x ++ encIs r
end

/-- n items, read one behind the other; c: how many were begun ahead. -/
def rdN (f : Nat → List UInt8 → Except Int (Itm × List UInt8 × Nat)) : Nat → Nat → List UInt8 → Except Int (List Itm × List UInt8 × Nat)
  | 0, c, l => .ok ([], l, c)
  | n + 1, c, l => match f c l with
    | .error e => .error e
    | .ok (x, r, c') => match rdN f n c' r with
      | .error e => .error e
      | .ok (xs, r', c'') => .ok (x :: xs, r', c'')
/-- An item, read; f: how much deeper it may be; c: how many were begun ahead. -/
def rd : Nat → Nat → List UInt8 → Except Int (Itm × List UInt8 × Nat)
  | 0, _, _ => .error 40
  | f + 1, c, l => if 60 ≤ c then .error 40 else
    match hdL l with
    | .error e => .error e
    | .ok (m, n, k) =>
      if m = 0 then .ok (.mk 0 n [] [], l.drop k, c + 1) else
      if m = 4 then (match rdN (rd f) n (c + 1) (l.drop k) with
        | .error e => .error e
        | .ok (xs, r, c') => .ok (.mk 4 0 [] xs, r, c')) else
      if 600 < n then .error 40 else
      if (l.drop k).length < n then .error 11 else
      if m = 3 ∧ txtB ((l.drop k).take n) = false then .error 20 else
      .ok (.mk m 0 ((l.drop k).take n) [], (l.drop k).drop n, c + 1)

theorem cnt_pos (x : Itm) : 1 ≤ cnt x := by cases x; simp [cnt]
theorem cnts_length : ∀ l : List Itm, l.length ≤ cnts l
  | [] => by simp [cnts]
  | x :: r => by have := cnts_length r; have := cnt_pos x; simp [cnts]; omega
theorem encI_cons (x : Itm) : 1 ≤ (encI x).length := by
  cases x with
  | mk k n s l => simp [encI, headL]

/-- The ways of what an item is of. -/
theorem ownB_cases {k n : Int} {s : List UInt8} {l : List Itm} (h : ownB k n s l = true) :
    (∃ N : Nat, k = 0 ∧ n = N ∧ N ≤ 281474976710655 ∧ s = [] ∧ l = []) ∨ (k = 2 ∧ n = 0 ∧ s.length ≤ 600 ∧ l = []) ∨ (k = 3 ∧ n = 0 ∧ s.length ≤ 600 ∧ l = [] ∧ txtB s = true) ∨ (k = 4 ∧ n = 0 ∧ s = []) := by
  unfold ownB at h
  simp only [Bool.or_eq_true, Bool.and_eq_true, decide_eq_true_eq, List.isEmpty_iff] at h
  rcases h with ((⟨⟨⟨⟨h1, h2⟩, h3⟩, h4⟩, h5⟩ | ⟨⟨⟨h1, h2⟩, h3⟩, h4⟩) | ⟨⟨⟨⟨h1, h2⟩, h3⟩, h4⟩, h5⟩) | ⟨⟨h1, h2⟩, h3⟩
  · exact .inl ⟨n.toNat, h1, by omega, by omega, h4, h5⟩
  · exact .inr (.inl ⟨h1, h2, h3, h4⟩)
  · exact .inr (.inr (.inl ⟨h1, h2, h3, h4, h5⟩))
  · exact .inr (.inr (.inr ⟨h1, h2, h3⟩))

theorem drop_len {a b : List UInt8} : (a ++ b).drop a.length = b := by rw [List.drop_append_of_le_length (Nat.le_refl _), List.drop_length, List.nil_append]

/-- An item is read from its bytes, whatever stands behind. -/
theorem rd_enc : ∀ (f : Nat) (x : Itm) (c : Nat) (r : List UInt8), okI x = true → dep x ≤ f → c + cnt x ≤ 60 → rd f c (encI x ++ r) = .ok (x, r, c + cnt x) := by
  intro f
  induction f with
  | zero => intro x c r _ h; cases x; simp [dep] at h
  | succ f ih =>
    have ihs : ∀ (l : List Itm) (c : Nat) (r : List UInt8), okIs l = true → deps l ≤ f → c + cnts l ≤ 60 → rdN (rd f) l.length c (encIs l ++ r) = .ok (l, r, c + cnts l) := by
      intro l
      induction l with
      | nil => intro c r _ _ _; simp [rdN, encIs, cnts]
      | cons x l ihl =>
        intro c r h1 h2 h3
        simp only [okIs, Bool.and_eq_true] at h1
        simp only [deps] at h2
        simp only [cnts] at h3
        rw [List.length_cons, encIs, List.append_assoc, rdN, ih x c _ h1.1 (by omega) (by omega)]
        simp only []
        rw [ihl (c + cnt x) r h1.2 (by omega) (by omega)]
        simp only [cnts, Nat.add_assoc]
    intro x c r hok hd hc
    cases x with
    | mk k n s l =>
      simp only [okI, Bool.and_eq_true] at hok
      simp only [dep] at hd
      simp only [cnt] at hc ⊢
      rw [encI, rd, if_neg (by omega), List.append_assoc]
      rcases ownB_cases hok.1 with ⟨N, rfl, rfl, hN, rfl, rfl⟩ | ⟨rfl, rfl, hs, rfl⟩ | ⟨rfl, rfl, hs, rfl, ht⟩ | ⟨rfl, rfl, rfl⟩
      · have e : argN 0 (N : Int) [] [] = N := by simp [argN]
        rw [e, show (0 : Int).toNat = 0 from rfl, hdL_head (.inl rfl) hN]
        simp only [if_pos, drop_len]
        simp [encIs, cnts]
      · have e : argN 2 0 s [] = s.length := by simp [argN]
        rw [e, show (2 : Int).toNat = 2 from rfl, hdL_head (.inr (by omega)) (by omega)]
        simp only [drop_len]
        rw [if_neg (by omega), if_neg (by omega), if_neg (by omega), if_neg (by simp), if_neg (by simp)]
        simp [encIs, cnts]
      · have e : argN 3 0 s [] = s.length := by simp [argN]
        rw [e, show (3 : Int).toNat = 3 from rfl, hdL_head (.inr (by omega)) (by omega)]
        simp only [drop_len]
        rw [if_neg (by omega), if_neg (by omega), if_neg (by omega), if_neg (by simp), if_neg (by simp [encIs, ht])]
        simp [encIs, cnts]
      · have e : argN 4 0 [] l = l.length := by simp [argN]
        have hl := cnts_length l
        rw [e, show (4 : Int).toNat = 4 from rfl, hdL_head (.inr (by omega)) (by omega)]
        simp only [drop_len]
        rw [if_neg (by omega), if_pos trivial, List.nil_append, ihs l (c + 1) r hok.2 (by omega) (by omega)]
        simp only [Except.ok.injEq, Prod.mk.injEq, true_and]
        omega

/-- What is read has just these bytes. -/
theorem rd_back : ∀ (f c : Nat) (l : List UInt8) (x : Itm) (r : List UInt8) (c' : Nat), rd f c l = .ok (x, r, c') → okI x = true ∧ dep x ≤ f ∧ c' = c + cnt x ∧ c' ≤ 60 ∧ l = encI x ++ r := by
  intro f
  induction f with
  | zero => intro c l x r c' h; simp [rd] at h
  | succ f ih =>
    have ihs : ∀ (n c : Nat) (l : List UInt8) (xs : List Itm) (r : List UInt8) (c' : Nat), c ≤ 60 → rdN (rd f) n c l = .ok (xs, r, c') → okIs xs = true ∧ deps xs ≤ f ∧ c' = c + cnts xs ∧ c' ≤ 60 ∧ l = encIs xs ++ r ∧ xs.length = n := by
      intro n
      induction n with
      | zero =>
        intro c l xs r c' hc h
        simp only [rdN, Except.ok.injEq, Prod.mk.injEq] at h
        obtain ⟨rfl, rfl, rfl⟩ := h
        simp [okIs, deps, cnts, encIs, hc]
      | succ n ihn =>
        intro c l xs r c' hc h
        rw [rdN] at h
        cases h1 : rd f c l with
        | error e => rw [h1] at h; cases h
        | ok y =>
          obtain ⟨y, r1, c1⟩ := y
          rw [h1] at h
          simp only [] at h
          cases h2 : rdN (rd f) n c1 r1 with
          | error e => rw [h2] at h; cases h
          | ok ys =>
            obtain ⟨ys, r2, c2⟩ := ys
            rw [h2] at h
            simp only [Except.ok.injEq, Prod.mk.injEq] at h
            obtain ⟨rfl, rfl, rfl⟩ := h
            obtain ⟨a1, a2, a3, a4, a5⟩ := ih _ _ _ _ _ h1
            obtain ⟨b1, b2, b3, b4, b5, b6⟩ := ihn _ _ _ _ _ a4 h2
            refine ⟨by simp [okIs, a1, b1], by simp only [deps]; omega, by simp only [cnts]; omega, b4, by rw [a5, b5, encIs, List.append_assoc], by simp [b6]⟩
    intro c l x r c' h
    rw [rd] at h
    by_cases h60 : 60 ≤ c
    · rw [if_pos h60] at h; cases h
    rw [if_neg h60] at h
    cases hd : hdL l with
    | error e => rw [hd] at h; cases h
    | ok t =>
      obtain ⟨m, n, k⟩ := t
      rw [hd] at h
      simp only [] at h
      obtain ⟨hM, hN, hk, hkl, htk⟩ := hdL_back hd
      have hsp : l = headL m n ++ l.drop k := by
        conv => lhs; rw [← List.take_append_drop k l]
        rw [htk]
      by_cases h0 : m = 0
      · subst h0
        rw [if_pos rfl] at h
        simp only [Except.ok.injEq, Prod.mk.injEq] at h
        obtain ⟨rfl, rfl, rfl⟩ := h
        refine ⟨by simp [okI, okIs, ownB]; omega, by simp [dep, deps], by simp [cnt, cnts], by omega, ?_⟩
        simpa [encI, encIs, argN] using hsp
      rw [if_neg h0] at h
      by_cases h4 : m = 4
      · subst h4
        rw [if_pos rfl] at h
        cases h2 : rdN (rd f) n (c + 1) (l.drop k) with
        | error e => rw [h2] at h; cases h
        | ok ys =>
          obtain ⟨ys, r2, c2⟩ := ys
          rw [h2] at h
          simp only [Except.ok.injEq, Prod.mk.injEq] at h
          obtain ⟨rfl, rfl, rfl⟩ := h
          obtain ⟨b1, b2, b3, b4, b5, b6⟩ := ihs _ _ _ _ _ _ (by omega) h2
          refine ⟨by simp [okI, ownB, b1], by simp only [dep]; omega, by simp only [cnt]; omega, b4, ?_⟩
          rw [hsp, b5]
          simp [encI, argN, b6]
      rw [if_neg h4] at h
      by_cases h6 : 600 < n
      · rw [if_pos h6] at h; cases h
      rw [if_neg h6] at h
      by_cases hl : (l.drop k).length < n
      · rw [if_pos hl] at h; cases h
      rw [if_neg hl] at h
      by_cases ht : m = 3 ∧ txtB ((l.drop k).take n) = false
      · rw [if_pos ht] at h; cases h
      rw [if_neg ht] at h
      simp only [Except.ok.injEq, Prod.mk.injEq] at h
      obtain ⟨rfl, rfl, rfl⟩ := h
      have hln : ((l.drop k).take n).length = n := by rw [List.length_take]; omega
      have hm : m = 2 ∨ m = 3 := by unfold Maj at hM; omega
      have e : l = headL m n ++ ((l.drop k).take n ++ (l.drop k).drop n) := by rw [List.take_append_drop]; exact hsp
      generalize (l.drop k).take n = u at *
      refine ⟨?_, by simp [dep, deps], by simp [cnt, cnts], by omega, ?_⟩
      · rcases hm with rfl | rfl
        · simp [okI, okIs, ownB]; omega
        · have : txtB u = true := by simpa using ht
          simp [okI, okIs, ownB, this]; omega
      · refine e.trans ?_
        rcases hm with rfl | rfl <;> simp [encI, encIs, argN, hln]

theorem takePrefix {a b p : List UInt8} (h : p <+: a ++ b) : p <+: a ∧ p.length < a.length ∨ ∃ q, p = a ++ q ∧ q <+: b := by
  obtain ⟨t, ht⟩ := h
  by_cases hl : p.length < a.length
  · refine .inl ⟨?_, hl⟩
    have := List.prefix_of_prefix_length_le (l₁ := p) (l₂ := a) (l₃ := a ++ b) ⟨t, ht⟩ (List.prefix_append a b) (by omega)
    exact this
  · refine .inr ?_
    have := List.prefix_of_prefix_length_le (l₁ := a) (l₂ := p) (l₃ := a ++ b) (List.prefix_append a b) ⟨t, ht⟩ (by omega)
    obtain ⟨q, hq⟩ := this
    refine ⟨q, hq.symm, t, ?_⟩
    rw [← hq, List.append_assoc] at ht
    exact List.append_cancel_left ht

/-- A beginning of an item's bytes that is not all of them is too short. -/
theorem rd_cut : ∀ (f : Nat) (x : Itm) (c : Nat) (p : List UInt8), okI x = true → dep x ≤ f → c + cnt x ≤ 60 → p <+: encI x → p.length < (encI x).length → rd f c p = .error 11 := by
  intro f
  induction f with
  | zero => intro x c r _ h; cases x; simp [dep] at h
  | succ f ih =>
    have ihs : ∀ (l : List Itm) (c : Nat) (p : List UInt8), okIs l = true → deps l ≤ f → c + cnts l ≤ 60 → p <+: encIs l → p.length < (encIs l).length → rdN (rd f) l.length c p = .error 11 := by
      intro l
      induction l with
      | nil => intro c p _ _ _ _ h; simp [encIs] at h
      | cons x l ihl =>
        intro c p h1 h2 h3 hp hlt
        simp only [okIs, Bool.and_eq_true] at h1
        simp only [deps] at h2
        simp only [cnts] at h3
        rw [encIs] at hp hlt
        rw [List.length_cons, rdN]
        rcases takePrefix hp with ⟨hp', hl⟩ | ⟨q, rfl, hq⟩
        · rw [ih x c p h1.1 (by omega) (by omega) hp' hl]
        · rw [rd_enc f x c q h1.1 (by omega) (by omega)]
          simp only []
          rw [ihl (c + cnt x) q h1.2 (by omega) (by omega) hq (by simp only [List.length_append] at hlt; omega)]
    intro x c p hok hd hc hp hlt
    cases x with
    | mk k n s l =>
      simp only [okI, Bool.and_eq_true] at hok
      simp only [dep] at hd
      simp only [cnt] at hc
      rw [encI] at hp hlt
      rw [rd, if_neg (by omega)]
      have hk : Maj k.toNat ∧ argN k n s l ≤ 281474976710655 := by
        have := cnts_length l
        rcases ownB_cases hok.1 with ⟨N, rfl, rfl, hN, rfl, rfl⟩ | ⟨rfl, rfl, hs, rfl⟩ | ⟨rfl, rfl, hs, rfl, ht⟩ | ⟨rfl, rfl, rfl⟩
        · exact ⟨by decide, by simp [argN]; omega⟩
        · exact ⟨by decide, by simp [argN]; omega⟩
        · exact ⟨by decide, by simp [argN]; omega⟩
        · exact ⟨by decide, by simp [argN]; omega⟩
      rcases takePrefix hp with ⟨hp', hl⟩ | ⟨q, rfl, hq⟩
      · have e : p = (headL k.toNat (argN k n s l)).take p.length := (List.prefix_iff_eq_take.1 hp')
        rw [e, head_short hk.1 hk.2 hl]
      · rw [hdL_head hk.1 hk.2]
        simp only [drop_len]
        have hlq : q.length < (s ++ encIs l).length := by simp only [List.length_append] at hlt ⊢; omega
        rcases ownB_cases hok.1 with ⟨N, rfl, rfl, hN, rfl, rfl⟩ | ⟨rfl, rfl, hs, rfl⟩ | ⟨rfl, rfl, hs, rfl, ht⟩ | ⟨rfl, rfl, rfl⟩
        · simp [encIs] at hlq
        · have e : argN 2 0 s [] = s.length := by simp [argN]
          rw [e, show (2 : Int).toNat = 2 from rfl, if_neg (by omega), if_neg (by omega), if_neg (by omega), if_pos (by simpa [encIs] using hlq)]
        · have e : argN 3 0 s [] = s.length := by simp [argN]
          rw [e, show (3 : Int).toNat = 3 from rfl, if_neg (by omega), if_neg (by omega), if_neg (by omega), if_pos (by simpa [encIs] using hlq)]
        · have e : argN 4 0 [] l = l.length := by simp [argN]
          rw [e, show (4 : Int).toNat = 4 from rfl, if_neg (by omega), if_pos rfl, ihs l (c + 1) q hok.2 (by omega) (by omega) hq hlq]

/-- Two right items have the same bytes just if they are the same. -/
theorem enc_inj {x y : Itm} (hx : okI x = true) (hy : okI y = true) (hcx : cnt x ≤ 60) (hcy : cnt y ≤ 60) (h : encI x = encI y) : x = y := by
  have h1 := rd_enc (max (dep x) (dep y)) x 0 [] hx (by omega) (by omega)
  have h2 := rd_enc (max (dep x) (dep y)) y 0 [] hy (by omega) (by omega)
  rw [h, h2] at h1
  simp only [Except.ok.injEq, Prod.mk.injEq] at h1
  exact h1.1.symm

/-- What is in a right item is right, and has fewer bytes. -/
theorem parts_ok {k n : Int} {s : List UInt8} {l : List Itm} {y : Itm} (hy : y ∈ l) (h : okI (.mk k n s l) = true) : okI y = true ∧ dep y < dep (.mk k n s l) ∧ cnt y < cnt (.mk k n s l) ∧ (encI y).length < (encI (.mk k n s l)).length ∧ k = 4 := by
  have key : ∀ l : List Itm, y ∈ l → okIs l = true → okI y = true ∧ dep y ≤ deps l ∧ cnt y ≤ cnts l ∧ (encI y).length ≤ (encIs l).length := by
    intro l
    induction l with
    | nil => intro h; cases h
    | cons x r ih =>
      intro h hok
      simp only [okIs, Bool.and_eq_true] at hok
      simp only [deps, cnts, encIs, List.length_append]
      rcases List.mem_cons.1 h with rfl | h
      · exact ⟨hok.1, by omega, by omega, by omega⟩
      · obtain ⟨a, b, c, d⟩ := ih h hok.2
        exact ⟨a, by omega, by omega, by omega⟩
  simp only [okI, Bool.and_eq_true] at h
  obtain ⟨a, b, c, d⟩ := key l hy h.2
  refine ⟨a, by simp only [dep]; omega, by simp only [cnt]; omega, by simp only [encI, List.length_append, headL, List.length_cons]; omega, ?_⟩
  rcases ownB_cases h.1 with ⟨N, rfl, rfl, hN, rfl, rfl⟩ | ⟨rfl, rfl, hs, rfl⟩ | ⟨rfl, rfl, hs, rfl, ht⟩ | ⟨rfl, rfl, rfl⟩
  · cases hy
  · cases hy
  · cases hy
  · rfl

mutual
/-- Are two items the same? -/
def sameB : Itm → Itm → Bool
  | .mk k n s l, .mk k' n' s' l' => decide (k = k') && decide (n = n') && (s == s') && sameBs l l'
def sameBs : List Itm → List Itm → Bool
  | [], [] => true
  | x :: r, y :: t => sameB x y && sameBs r t
  | [], _ :: _ => false
  | _ :: _, [] => false
end
mutual
theorem sameB_iff : ∀ x y : Itm, sameB x y = true ↔ x = y
  | .mk k n s l, .mk k' n' s' l' => by
    simp only [sameB, Bool.and_eq_true, decide_eq_true_eq, beq_iff_eq, sameBs_iff l l', Itm.mk.injEq, and_assoc]
theorem sameBs_iff : ∀ l t : List Itm, sameBs l t = true ↔ l = t
  | [], [] => by simp [sameBs]
  | x :: r, y :: t => by simp only [sameBs, Bool.and_eq_true, sameB_iff x y, sameBs_iff r t, List.cons.injEq]
  | [], _ :: _ => by simp [sameBs]
  | _ :: _, [] => by simp [sameBs]
end
theorem sameB_self (x : Itm) : sameB x x = true := (sameB_iff x x).2 rfl

/-- How many items there are, by the document's count: 61, if there are more, or one stands too deep or is not right. -/
def crs (g : Itm → Nat) : Nat → List Itm → Nat
  | n, [] => n
  | n, x :: r => if n ≤ 60 then crs g (n + g x) r else n
def cr : Nat → Itm → Nat
  | 0, _ => 61
  | f + 1, .mk k n s l => if ownB k n s l = true then min (crs (cr f) 1 l) 61 else 61

theorem cr_iff : ∀ (f : Nat) (x : Itm), (cr f x ≤ 60 ↔ okI x = true ∧ dep x ≤ f ∧ cnt x ≤ 60) ∧ (cr f x ≤ 60 → cr f x = cnt x) ∧ cr f x ≤ 61 ∧ 1 ≤ cr f x := by
  intro f
  induction f with
  | zero => intro x; cases x; simp [cr, dep]
  | succ f ih =>
    have key : ∀ (l : List Itm) (n : Nat), (crs (cr f) n l ≤ 60 ↔ n ≤ 60 ∧ okIs l = true ∧ deps l ≤ f ∧ n + cnts l ≤ 60) ∧ (crs (cr f) n l ≤ 60 → crs (cr f) n l = n + cnts l) ∧ n ≤ crs (cr f) n l := by
      intro l
      induction l with
      | nil => intro n; simp [crs, okIs, deps, cnts]
      | cons x r ihr =>
        intro n
        obtain ⟨a1, a2, a3, a4⟩ := ih x
        obtain ⟨b1, b2, b3⟩ := ihr (n + cr f x)
        simp only [crs, okIs, deps, cnts, Bool.and_eq_true]
        by_cases hn : n ≤ 60
        · rw [if_pos hn]
          refine ⟨⟨fun h => ?_, fun ⟨_, ⟨h2, h3⟩, h4, h5⟩ => ?_⟩, fun h => ?_, by omega⟩
          · obtain ⟨c1, c2, c3, c4⟩ := b1.1 h
            have hx : cr f x ≤ 60 := by omega
            obtain ⟨d1, d2, d3⟩ := a1.1 hx
            have := a2 hx
            exact ⟨hn, ⟨d1, c2⟩, by omega, by omega⟩
          · have hx : cr f x ≤ 60 := a1.2 ⟨h2, by omega, by omega⟩
            have := a2 hx
            exact b1.2 ⟨by omega, h3, by omega, by omega⟩
          · obtain ⟨c1, c2, c3, c4⟩ := b1.1 h
            have hx : cr f x ≤ 60 := by omega
            have := a2 hx
            have := b2 h
            omega
        · rw [if_neg hn]
          exact ⟨⟨fun h => absurd h hn, fun h => h.1⟩, fun h => absurd h hn, Nat.le_refl _⟩
    intro x
    cases x with
    | mk k n s l =>
      simp only [cr, okI, dep, cnt, Bool.and_eq_true]
      obtain ⟨b1, b2, b3⟩ := key l 1
      by_cases ho : ownB k n s l = true
      · rw [if_pos ho]
        refine ⟨⟨fun h => ?_, fun ⟨⟨_, h2⟩, h3, h4⟩ => ?_⟩, fun h => ?_, by omega, by omega⟩
        · obtain ⟨c1, c2, c3, c4⟩ := b1.1 (by omega)
          exact ⟨⟨ho, c2⟩, by omega, by omega⟩
        · have := b1.2 ⟨by omega, h2, by omega, by omega⟩
          omega
        · have := b2 (by omega)
          omega
      · rw [if_neg ho]
        exact ⟨⟨fun h => by omega, fun h => absurd h.1.1 ho⟩, fun h => by omega, by omega, by omega⟩

/-- Is an item right? -/
def rightI (x : Itm) : Bool := okI x && decide (dep x ≤ 6) && decide (cnt x ≤ 60)
theorem rightI_iff (x : Itm) : rightI x = true ↔ okI x = true ∧ dep x ≤ 6 ∧ cnt x ≤ 60 := by simp [rightI, and_assoc]
theorem rightI_cr (x : Itm) : rightI x = decide (cr 6 x ≤ 60) := by
  rw [Bool.eq_iff_iff, rightI_iff, decide_eq_true_eq]
  exact (cr_iff 6 x).1.symm

/-- What the statements take of an item: f deep, the first sixty-two items, the first six hundred and one bytes. -/
def cutI : Nat → Itm → Itm
  | 0, .mk k n s _ => .mk k n (s.take 601) []
  | f + 1, .mk k n s l => .mk k n (s.take 601) ((l.take 62).map (cutI f))

/-- What Encode answers of an item: its bytes, and the error's number. -/
def iencR (x : Itm) : List UInt8 × Int := if rightI x = true then (encI x, 0) else ([], 40)
/-- What is read from the beginning of a text's rest: the item, how many bytes; or an error's number. -/
def irdR (l : List UInt8) : Except Int (Itm × List UInt8) := match rd 6 0 l with
  | .error e => .error e
  | .ok (x, r, _) => .ok (x, r)

theorem irdR_enc {x : Itm} (h : rightI x = true) (r : List UInt8) : irdR (encI x ++ r) = .ok (x, r) := by
  obtain ⟨h1, h2, h3⟩ := (rightI_iff x).1 h
  unfold irdR
  rw [rd_enc 6 x 0 r h1 h2 (by omega)]
theorem irdR_back {l r : List UInt8} {x : Itm} (h : irdR l = .ok (x, r)) : rightI x = true ∧ l = encI x ++ r := by
  unfold irdR at h
  cases h1 : rd 6 0 l with
  | error e => rw [h1] at h; cases h
  | ok t =>
    obtain ⟨y, r', c⟩ := t
    rw [h1] at h
    simp only [Except.ok.injEq, Prod.mk.injEq] at h
    obtain ⟨rfl, rfl⟩ := h
    obtain ⟨a1, a2, a3, a4, a5⟩ := rd_back _ _ _ _ _ _ h1
    exact ⟨(rightI_iff _).2 ⟨a1, a2, by omega⟩, a5⟩
theorem irdR_cut {x : Itm} (h : rightI x = true) {j : Nat} (hj : j < (encI x).length) : irdR ((encI x).take j) = .error 11 := by
  obtain ⟨h1, h2, h3⟩ := (rightI_iff x).1 h
  unfold irdR
  rw [rd_cut 6 x 0 _ h1 h2 (by omega) (List.take_prefix _ _) (by rw [List.length_take]; omega)]
theorem encI_inj {x y : Itm} (hx : rightI x = true) (hy : rightI y = true) : (encI x == encI y) = sameB x y := by
  obtain ⟨h1, h2, h3⟩ := (rightI_iff x).1 hx
  obtain ⟨k1, k2, k3⟩ := (rightI_iff y).1 hy
  rw [Bool.eq_iff_iff, beq_iff_eq, sameB_iff]
  exact ⟨enc_inj h1 k1 h3 k3, fun e => by rw [e]⟩
end Go.Proofs.YtljfgchmogdljaaGreatDoor
