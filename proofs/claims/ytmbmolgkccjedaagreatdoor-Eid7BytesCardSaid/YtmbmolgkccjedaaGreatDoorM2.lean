/- Contracts of Bytes and Take of package nums: for every number, width, text, place. -/
import Derived.Test.YtmbmolgkccjedaaGreatDoorM1
import Derived.Test.YtmbmolgkccjedaaGreatDoorLaid
import Derived.Test.YtmbmolgkccjedaaGreatDoorTold
set_option linter.unusedVariables false
set_option linter.unusedSimpArgs false
namespace Go.Proofs.YtmbmolgkccjedaaGreatDoor
open Go.RowKit

theorem widthB_yes {k : Int} (h1 : 1 ≤ k) (h2 : k ≤ 8) : widthB k = true := by unfold widthB; simp; omega
theorem widthB_no {k : Int} (h : k < 1 ∨ 8 < k) : widthB k = false := by unfold widthB; simp; omega
theorem rightB_neg {n : Int} (h : n < 0 ∨ 281474976710655 < n) : rightB n = false := by unfold rightB; simp; omega

theorem pow_256 (k : Nat) : 2 ^ (8 * k) = 256 ^ k := by rw [Nat.pow_mul]
theorem shr_no {n k : Nat} (h : n < 256 ^ k) : ((n : Int) / 2 ^ (8 * k) != 0) = false := by
  have e : (n : Int) / 2 ^ (8 * k) = ((n / 2 ^ (8 * k) : Nat) : Int) := by simp
  rw [e, Nat.div_eq_of_lt (by rw [pow_256]; exact h)]
  rfl
theorem shr_yes {n k : Nat} (h : 256 ^ k ≤ n) : ((n : Int) / 2 ^ (8 * k) != 0) = true := by
  have e : (n : Int) / 2 ^ (8 * k) = ((n / 2 ^ (8 * k) : Nat) : Int) := by simp
  rw [e]
  have : 0 < n / 2 ^ (8 * k) := Nat.div_pos (by rw [pow_256]; exact h) (Nat.pow_pos (by omega))
  rw [bne_iff_ne]
  omega

set_option maxRecDepth 100000 in
set_option maxHeartbeats 1000000 in
theorem spread_ok (n k : Nat) (w : World) (hn : n ≤ 281474976710655) (hk1 : 1 ≤ k) (hk : k ≤ 8) (hf : n < 256 ^ k) :
    Calls Tryz.prog 150 #[.int .i64 (n : Int), .int .i64 (k : Int)] w fun e w' => e = .returned (.agg #[.string ⟨(beL n k).toArray⟩, .nilIface]) ∧ Below w.heap.size w w' := by
  have hw := widthB_yes (k := (k : Int)) (by omega) (by omega)
  have hr := rightB_yes hn
  have hsh := shr_no hf
  clear hf
  have hL := Lib.hid (laid_any n k (w.alloc (.cells #[.string ⟨#[]⟩, .nilIface] 242)) hn hk1 hk)
  generalize (⟨(beL n k).toArray⟩ : ByteArray) = q at *
  go_enter Tryz.func150, Tryz.ntmps150
  go_wp2_with fail
  refine (width_any _ _).mono ?_
  rintro e w' ⟨rfl, rfl⟩
  go_wp2_with fail
  refine (right_any _ _).mono ?_
  rintro e w' ⟨rfl, rfl⟩
  go_wp2_with fail
  refine hL.out.mono ?_
  rintro e w1 ⟨rfl, hb1⟩
  obtain ⟨hc, hff⟩ := bcell hb1
  have hz0 : w.heap.size < w1.heap.size := by have := hb1.size; simp at this; omega
  go_wp2_with (go_at_call 173; refine (goods_any _ _).mono ?_; rintro e w' ⟨rfl, rfl⟩)
  obtain ⟨q0, q1⟩ := two_cells (w := w1) (b := w.heap.size) (x := .string ⟨#[]⟩) (y := .nilIface) ((hc w.heap.size 0 (by simp)).trans (by go_simp)) ((hc w.heap.size 1 (by simp)).trans (by go_simp))
  refine bodyPost_ret (v := .agg #[.string q, .nilIface]) (by simp [results, Tryz.results150, go_sem, hz0, Nat.lt_succ_of_lt hz0, Nat.ne_of_lt hz0, q0, q1]) rfl ⟨rfl, ?_⟩
  exact (((((Below.refl _ _).alloc (Nat.le_refl _) _).trans (hb1.mono (by simp))).setCell (by simp) _).setCell (by simp) _).alloc (by simp; omega) _

set_option maxRecDepth 100000 in
set_option maxHeartbeats 1000000 in
theorem spread_arg (a0 a1 a2 : Addr) (n k : Int) (w : World) (hE : Env a0 a1 a2 w) (hk : k < 1 ∨ 8 < k) :
    Calls Tryz.prog 150 #[.int .i64 n, .int .i64 k] w fun e w' => e = .returned (.agg #[.string ⟨#[]⟩, .iface 299 (.pointer (some a0))]) ∧ Below w.heap.size w w' := by
  have hw := widthB_no hk
  clear hk
  have g0 := hE.g0
  have hz := World.block_lt_of_cell? _ _ g0
  go_enter Tryz.func150, Tryz.ntmps150
  go_wp2_with fail
  refine (width_any _ _).mono ?_
  rintro e w' ⟨rfl, rfl⟩
  go_wp2_with (go_at_call 172; refine (bads_any _ _).mono ?_; rintro e w' ⟨rfl, rfl⟩)
  exact bodyPost_ret (v := .agg #[.string ⟨#[]⟩, .iface 299 (.pointer (some a0))]) (by simp [results, Tryz.results150, go_sem]) rfl ⟨rfl, ((Below.refl _ _).alloc (Nat.le_refl _) _).alloc (by simp) _⟩

set_option maxRecDepth 100000 in
set_option maxHeartbeats 1000000 in
theorem spread_num0 (a0 a1 a2 : Addr) (n k : Int) (w : World) (hE : Env a0 a1 a2 w) (hk1 : 1 ≤ k) (hk : k ≤ 8) (hn : n < 0 ∨ 281474976710655 < n) :
    Calls Tryz.prog 150 #[.int .i64 n, .int .i64 k] w fun e w' => e = .returned (.agg #[.string ⟨#[]⟩, .iface 299 (.pointer (some a1))]) ∧ Below w.heap.size w w' := by
  have hw := widthB_yes hk1 hk
  have hr := rightB_neg hn
  clear hn
  have g1 := hE.g1
  have hz := World.block_lt_of_cell? _ _ g1
  go_enter Tryz.func150, Tryz.ntmps150
  go_wp2_with fail
  refine (width_any _ _).mono ?_
  rintro e w' ⟨rfl, rfl⟩
  go_wp2_with fail
  refine (right_any _ _).mono ?_
  rintro e w' ⟨rfl, rfl⟩
  go_wp2_with (go_at_call 172; refine (bads_any _ _).mono ?_; rintro e w' ⟨rfl, rfl⟩)
  exact bodyPost_ret (v := .agg #[.string ⟨#[]⟩, .iface 299 (.pointer (some a1))]) (by simp [results, Tryz.results150, go_sem]) rfl ⟨rfl, ((Below.refl _ _).alloc (Nat.le_refl _) _).alloc (by simp) _⟩

set_option maxRecDepth 100000 in
set_option maxHeartbeats 1000000 in
theorem spread_num1 (a0 a1 a2 : Addr) (n k : Nat) (w : World) (hE : Env a0 a1 a2 w) (hn : n ≤ 281474976710655) (hk1 : 1 ≤ k) (hk : k ≤ 8) (hf : 256 ^ k ≤ n) :
    Calls Tryz.prog 150 #[.int .i64 (n : Int), .int .i64 (k : Int)] w fun e w' => e = .returned (.agg #[.string ⟨#[]⟩, .iface 299 (.pointer (some a1))]) ∧ Below w.heap.size w w' := by
  have hw := widthB_yes (k := (k : Int)) (by omega) (by omega)
  have hr := rightB_yes hn
  have hsh := shr_yes hf
  clear hf
  have g1 := hE.g1
  have hz := World.block_lt_of_cell? _ _ g1
  go_enter Tryz.func150, Tryz.ntmps150
  go_wp2_with fail
  refine (width_any _ _).mono ?_
  rintro e w' ⟨rfl, rfl⟩
  go_wp2_with fail
  refine (right_any _ _).mono ?_
  rintro e w' ⟨rfl, rfl⟩
  go_wp2_with (go_at_call 172; refine (bads_any _ _).mono ?_; rintro e w' ⟨rfl, rfl⟩)
  exact bodyPost_ret (v := .agg #[.string ⟨#[]⟩, .iface 299 (.pointer (some a1))]) (by simp [results, Tryz.results150, go_sem]) rfl ⟨rfl, ((Below.refl _ _).alloc (Nat.le_refl _) _).alloc (by simp) _⟩

/-- n is a number that the width k has room for. -/
def Room (n k : Int) : Prop := 0 ≤ n ∧ n ≤ 281474976710655 ∧ n.toNat < 256 ^ k.toNat
instance (n k : Int) : Decidable (Room n k) := by unfold Room; infer_instance

/-- What Bytes answers: the bytes, and the error's number. -/
def bytesR (n k : Int) : ByteArray × Int :=
  if k < 1 ∨ 8 < k then (⟨#[]⟩, 2) else if Room n k then (⟨(beL n.toNat k.toNat).toArray⟩, 0) else (⟨#[]⟩, 10)
theorem bytesR_arg {n k : Int} (h : k < 1 ∨ 8 < k) : bytesR n k = (⟨#[]⟩, 2) := if_pos h
theorem bytesR_ok {n k : Int} (h : ¬ (k < 1 ∨ 8 < k)) (hr : Room n k) : bytesR n k = (⟨(beL n.toNat k.toNat).toArray⟩, 0) := by unfold bytesR; rw [if_neg h, if_pos hr]
theorem bytesR_num {n k : Int} (h : ¬ (k < 1 ∨ 8 < k)) (hr : ¬ Room n k) : bytesR n k = (⟨#[]⟩, 10) := by unfold bytesR; rw [if_neg h, if_neg hr]

set_option maxHeartbeats 400000 in
theorem bytes_of_bad (a0 a1 a2 a : Addr) (c n k : Int) (w : World) (hE : Env a0 a1 a2 w) (hs : Sent a0 a1 a2 a c)
    (h : Calls Tryz.prog 150 #[.int .i64 n, .int .i64 k] w fun e w' => e = .returned (.agg #[.string ⟨#[]⟩, .iface 299 (.pointer (some a))]) ∧ Below w.heap.size w w') :
    Calls Tryz.prog 131 #[.int .i64 n, .int .i64 k] w fun e w' => e = .returned (.tuple #[.string ⟨#[]⟩, .int .i64 c]) ∧ Below w.heap.size w w' := by
  have H := Lib.hid h
  clear h
  go_enter Tryz.func131, Tryz.ntmps131
  go_wp2_with fail
  refine H.out.mono ?_
  rintro e w1 ⟨rfl, hb1⟩
  go_wp2_with fail
  refine (tells_bad a0 a1 a2 a c _ _ (hE.below hb1) hs).mono ?_
  rintro e w2 ⟨rfl, hb2⟩
  go_wp2
  go_ret2
  exact ⟨rfl, hb1.trans (hb2.mono hb1.size)⟩

set_option maxHeartbeats 400000 in
theorem bytes_of_ok (q : ByteArray) (n k : Int) (w : World)
    (h : Calls Tryz.prog 150 #[.int .i64 n, .int .i64 k] w fun e w' => e = .returned (.agg #[.string q, .nilIface]) ∧ Below w.heap.size w w') :
    Calls Tryz.prog 131 #[.int .i64 n, .int .i64 k] w fun e w' => e = .returned (.tuple #[.string q, .int .i64 0]) ∧ Below w.heap.size w w' := by
  have H := Lib.hid h
  clear h
  go_enter Tryz.func131, Tryz.ntmps131
  go_wp2_with fail
  refine H.out.mono ?_
  rintro e w1 ⟨rfl, hb1⟩
  go_wp2_with fail
  refine (tells_ok q _).mono ?_
  rintro e w2 ⟨rfl, hb2⟩
  go_wp2
  go_ret2
  exact ⟨rfl, hb1.trans (hb2.mono hb1.size)⟩

theorem bytes_any (a0 a1 a2 : Addr) (n k : Int) (w : World) (hE : Env a0 a1 a2 w) :
    Calls Tryz.prog 131 #[.int .i64 n, .int .i64 k] w fun e w' => e = .returned (.tuple #[.string (bytesR n k).1, .int .i64 (bytesR n k).2]) ∧ Below w.heap.size w w' := by
  by_cases hk : k < 1 ∨ 8 < k
  · rw [bytesR_arg hk]
    exact bytes_of_bad a0 a1 a2 a0 2 n k w hE (.inl ⟨rfl, rfl⟩) (spread_arg a0 a1 a2 n k w hE hk)
  by_cases hr : Room n k
  · rw [bytesR_ok hk hr]
    obtain ⟨h0, h1, h2⟩ := hr
    obtain ⟨m, rfl⟩ := Int.eq_ofNat_of_zero_le h0
    obtain ⟨j, rfl⟩ := Int.eq_ofNat_of_zero_le (show 0 ≤ k by omega)
    exact bytes_of_ok _ _ _ w (spread_ok m j w (by omega) (by omega) (by omega) h2)
  · rw [bytesR_num hk hr]
    by_cases hn : n < 0 ∨ 281474976710655 < n
    · exact bytes_of_bad a0 a1 a2 a1 10 n k w hE (.inr (.inl ⟨rfl, rfl⟩)) (spread_num0 a0 a1 a2 n k w hE (by omega) (by omega) hn)
    · obtain ⟨m, rfl⟩ := Int.eq_ofNat_of_zero_le (show 0 ≤ n by omega)
      obtain ⟨j, rfl⟩ := Int.eq_ofNat_of_zero_le (show 0 ≤ k by omega)
      exact bytes_of_bad a0 a1 a2 a1 10 _ _ w hE (.inr (.inl ⟨rfl, rfl⟩)) (spread_num1 a0 a1 a2 m j w hE (by omega) (by omega) (by omega) (by
        refine Nat.le_of_not_lt fun h => hr ⟨by omega, by omega, h⟩))
end Go.Proofs.YtmbmolgkccjedaaGreatDoor

/- Contract of Take of package nums: for every text, place, width. -/
set_option linter.unusedVariables false
set_option linter.unusedSimpArgs false
namespace Go.Proofs.YtmbmolgkccjedaaGreatDoor
open Go.RowKit

theorem fresh2 {w w2 : World} {x y : Value} {t : TypeId} (hb : Below (w.alloc (.cells #[x, y] t)).heap.size (w.alloc (.cells #[x, y] t)) w2) :
    w2.cell? ⟨w.heap.size, 0, none⟩ = some x ∧ w2.cell? ⟨w.heap.size, 1, none⟩ = some y ∧ w2.frozen? ⟨w.heap.size, 0, none⟩ = false ∧ w2.frozen? ⟨w.heap.size, 1, none⟩ = false ∧ w.heap.size < w2.heap.size := by
  obtain ⟨hc, hf⟩ := bcell hb
  refine ⟨(hc _ 0 (by simp)).trans (by go_simp), (hc _ 1 (by simp)).trans (by go_simp), (hf _ 0 (by simp)).trans (by go_simp), (hf _ 1 (by simp)).trans (by go_simp), ?_⟩
  have := hb.size
  simp at this
  omega

set_option maxRecDepth 100000 in
set_option maxHeartbeats 1000000 in
theorem gather_arg (a0 a1 a2 : Addr) (s : ByteArray) (at0 k : Int) (w : World) (hE : Env a0 a1 a2 w) (hk : k < 1 ∨ 8 < k) :
    Calls Tryz.prog 203 #[.string s, .int .i64 at0, .int .i64 k] w fun e w' => e = .returned (.agg #[.int .i64 0, .iface 299 (.pointer (some a0))]) ∧ Below w.heap.size w w' := by
  have hw := widthB_no hk
  clear hk
  have g0 := hE.g0
  have hz := World.block_lt_of_cell? _ _ g0
  go_enter Tryz.func203, Tryz.ntmps203
  go_wp2_with fail
  refine (width_any _ _).mono ?_
  rintro e w' ⟨rfl, rfl⟩
  go_wp2_with (go_at_call 205; refine (badi_any _ _).mono ?_; rintro e w' ⟨rfl, rfl⟩)
  exact bodyPost_ret (v := .agg #[.int .i64 0, .iface 299 (.pointer (some a0))]) (by simp [results, Tryz.results203, go_sem]) rfl ⟨rfl, ((Below.refl _ _).alloc (Nat.le_refl _) _).alloc (by simp) _⟩

set_option maxRecDepth 100000 in
set_option maxHeartbeats 1000000 in
theorem gather_short (a0 a1 a2 : Addr) (s : ByteArray) (at0 k : Int) (w : World) (hE : Env a0 a1 a2 w) (hs : s.size ≤ maxLen) (hk1 : 1 ≤ k) (hk : k ≤ 8) (hf : ¬ fitsB s at0 k) :
    Calls Tryz.prog 203 #[.string s, .int .i64 at0, .int .i64 k] w fun e w' => e = .returned (.agg #[.int .i64 0, .iface 299 (.pointer (some a2))]) ∧ Below w.heap.size w w' := by
  have hw := widthB_yes hk1 hk
  have H := Lib.hid hf
  clear hf
  go_enter Tryz.func203, Tryz.ntmps203
  go_wp2_with fail
  refine (width_any _ _).mono ?_
  rintro e w' ⟨rfl, rfl⟩
  go_wp2_with fail
  refine (piece_bad a0 a1 a2 s at0 k _ (hE.below ((Below.refl _ _).alloc (Nat.le_refl _) _)) hs H.out).mono ?_
  rintro e w1 ⟨rfl, hb1⟩
  obtain ⟨hc, hff⟩ := bcell hb1
  have hz0 : w.heap.size < w1.heap.size := by have := hb1.size; simp at this; omega
  go_wp2_with (go_at_call 205; refine (badi_any _ _).mono ?_; rintro e w' ⟨rfl, rfl⟩)
  obtain ⟨q0, q1⟩ := two_cells (w := w1) (b := w.heap.size) (x := .int .i64 0) (y := .nilIface) ((hc w.heap.size 0 (by simp)).trans (by go_simp)) ((hc w.heap.size 1 (by simp)).trans (by go_simp))
  refine bodyPost_ret (v := .agg #[.int .i64 0, .iface 299 (.pointer (some a2))]) (by simp [results, Tryz.results203, go_sem, hz0, Nat.lt_succ_of_lt hz0, Nat.ne_of_lt hz0, q0, q1]) rfl ⟨rfl, ?_⟩
  exact ((((((Below.refl _ _).alloc (Nat.le_refl _) _).trans (hb1.mono (by simp))).setCell (by simp) _).setCell (by simp) _).alloc (by simp; omega) _).alloc (by simp; omega) _

set_option maxRecDepth 100000 in
set_option maxHeartbeats 1000000 in
theorem gather_ok (a0 a1 a2 : Addr) (s q : ByteArray) (at0 k : Int) (w : World) (hE : Env a0 a1 a2 w) (hs : s.size ≤ maxLen) (hk1 : 1 ≤ k) (hk : k ≤ 8) (hf : fitsB s at0 k) (hq : s.extract at0.toNat (at0 + k).toNat = q) (hv : valL q.data.toList ≤ 281474976710655) :
    Calls Tryz.prog 203 #[.string s, .int .i64 at0, .int .i64 k] w fun e w' => e = .returned (.agg #[.int .i64 ((valL q.data.toList : Nat) : Int), .nilIface]) ∧ Below w.heap.size w w' := by
  have hw := widthB_yes hk1 hk
  have H := Lib.hid hf
  clear hf
  have hql : q.size ≤ s.size := by rw [← hq]; exact extract_le _ _ _
  have HQ := Lib.hid hq
  clear hq
  have hr := rightB_yes hv
  have hT := fun w => told_any q w (by unfold maxLen at hs; omega)
  have HT := Lib.hid hT
  clear hT
  go_enter Tryz.func203, Tryz.ntmps203
  go_wp2_with fail
  refine (width_any _ _).mono ?_
  rintro e w' ⟨rfl, rfl⟩
  go_wp2_with fail
  refine (piece_ok s at0 k _ hs H.out).mono ?_
  rintro e w1 ⟨rfl, hb1⟩
  rw [HQ.out]
  obtain ⟨hc, hff⟩ := bcell hb1
  have hz0 : w.heap.size < w1.heap.size := by have := hb1.size; simp at this; omega
  go_wp2_with fail
  refine (HT.out _).mono ?_
  rintro e w2 ⟨m, rfl, hm1, _, _, hb2⟩
  obtain rfl := hm1 hv
  clear hm1
  have hB := hb1.trans ((((Below.refl _ _).alloc (Nat.le_refl _) _).trans (hb2.mono (by simp))).mono hb1.size)
  have hBw : Below w.heap.size w w2 := ((Below.refl _ _).alloc (Nat.le_refl _) _).trans (hB.mono (by simp))
  obtain ⟨p0, p1, f0, f1, hz2⟩ := fresh2 hB
  clear hc hff hb1 hb2 hB
  go_wp2_with fail
  refine (right_any _ _).mono ?_
  rintro e w' ⟨rfl, rfl⟩
  go_wp2_with (go_at_call 207; refine (goodi_any _ _).mono ?_; rintro e w' ⟨rfl, rfl⟩)
  obtain ⟨q0, q1⟩ := two_cells p0 p1
  refine bodyPost_ret (v := .agg #[.int .i64 ((valL q.data.toList : Nat) : Int), .nilIface]) (by simp [results, Tryz.results203, go_sem, hz2, Nat.lt_succ_of_lt hz2, Nat.ne_of_lt hz2, q0, q1]) rfl ⟨rfl, ?_⟩
  exact ((hBw.setCell (by simp) _).setCell (by simp) _).alloc (by simp; omega) _

set_option maxRecDepth 100000 in
set_option maxHeartbeats 1000000 in
theorem gather_num (a0 a1 a2 : Addr) (s q : ByteArray) (at0 k : Int) (w : World) (hE : Env a0 a1 a2 w) (hs : s.size ≤ maxLen) (hk1 : 1 ≤ k) (hk : k ≤ 8) (hf : fitsB s at0 k) (hq : s.extract at0.toNat (at0 + k).toNat = q) (hv : 281474976710655 < valL q.data.toList) :
    Calls Tryz.prog 203 #[.string s, .int .i64 at0, .int .i64 k] w fun e w' => e = .returned (.agg #[.int .i64 0, .iface 299 (.pointer (some a1))]) ∧ Below w.heap.size w w' := by
  have hw := widthB_yes hk1 hk
  have H := Lib.hid hf
  clear hf
  have hql : q.size ≤ s.size := by rw [← hq]; exact extract_le _ _ _
  have HQ := Lib.hid hq
  clear hq
  have hT := fun w => told_any q w (by unfold maxLen at hs; omega)
  have HT := Lib.hid hT
  clear hT
  go_enter Tryz.func203, Tryz.ntmps203
  go_wp2_with fail
  refine (width_any _ _).mono ?_
  rintro e w' ⟨rfl, rfl⟩
  go_wp2_with fail
  refine (piece_ok s at0 k _ hs H.out).mono ?_
  rintro e w1 ⟨rfl, hb1⟩
  rw [HQ.out]
  obtain ⟨hc, hff⟩ := bcell hb1
  have hz0 : w.heap.size < w1.heap.size := by have := hb1.size; simp at this; omega
  go_wp2_with fail
  refine (HT.out _).mono ?_
  rintro e w2 ⟨m, rfl, _, hm1, hm2, hb2⟩
  have hm := hm1 hv
  clear hm1
  have hr := rightB_no hm
  have hB := hb1.trans ((((Below.refl _ _).alloc (Nat.le_refl _) _).trans (hb2.mono (by simp))).mono hb1.size)
  have hBw : Below w.heap.size w w2 := ((Below.refl _ _).alloc (Nat.le_refl _) _).trans (hB.mono (by simp))
  obtain ⟨p0, p1, f0, f1, hz2⟩ := fresh2 hB
  have g1 := (hE.below hBw).g1
  have hz := World.block_lt_of_cell? _ _ g1
  have hne : w.heap.size ≠ 6 := by have := World.block_lt_of_cell? _ _ hE.g1; simp at this; omega
  clear hc hff hb1 hb2 hB
  go_wp2_with fail
  refine (right_any _ _).mono ?_
  rintro e w' ⟨rfl, rfl⟩
  go_wp2_with (go_at_call 205; refine (badi_any _ _).mono ?_; rintro e w' ⟨rfl, rfl⟩)
  obtain ⟨q0, q1⟩ := two_cells p0 p1
  refine bodyPost_ret (v := .agg #[.int .i64 0, .iface 299 (.pointer (some a1))]) (by simp [results, Tryz.results203, go_sem, hz2, Nat.lt_succ_of_lt hz2, Nat.ne_of_lt hz2, q0, q1]) rfl ⟨rfl, ?_⟩
  exact ((hBw.setCell (by simp) _).setCell (by simp) _).alloc (by simp; omega) _

/-- What Take answers: the number, and the error's number. -/
def takeR (s : ByteArray) (at0 k : Int) : Int × Int :=
  if k < 1 ∨ 8 < k then (0, 2) else if ¬ fitsB s at0 k then (0, 11)
  else if valL (s.extract at0.toNat (at0 + k).toNat).data.toList ≤ 281474976710655 then (((valL (s.extract at0.toNat (at0 + k).toNat).data.toList : Nat) : Int), 0) else (0, 10)

set_option maxHeartbeats 400000 in
theorem take_of_bad (a0 a1 a2 a : Addr) (c : Int) (s : ByteArray) (at0 k : Int) (w : World) (hE : Env a0 a1 a2 w) (hs : Sent a0 a1 a2 a c)
    (h : Calls Tryz.prog 203 #[.string s, .int .i64 at0, .int .i64 k] w fun e w' => e = .returned (.agg #[.int .i64 0, .iface 299 (.pointer (some a))]) ∧ Below w.heap.size w w') :
    Calls Tryz.prog 193 #[.string s, .int .i64 at0, .int .i64 k] w fun e w' => e = .returned (.tuple #[.int .i64 0, .int .i64 c]) ∧ Below w.heap.size w w' := by
  have H := Lib.hid h
  clear h
  go_enter Tryz.func193, Tryz.ntmps193
  go_wp2_with fail
  refine H.out.mono ?_
  rintro e w1 ⟨rfl, hb1⟩
  go_wp2_with fail
  refine (telli_bad a0 a1 a2 a c _ _ (hE.below hb1) hs).mono ?_
  rintro e w2 ⟨rfl, hb2⟩
  go_wp2
  go_ret2
  exact ⟨rfl, hb1.trans (hb2.mono hb1.size)⟩

set_option maxHeartbeats 400000 in
theorem take_of_ok (v : Int) (s : ByteArray) (at0 k : Int) (w : World)
    (h : Calls Tryz.prog 203 #[.string s, .int .i64 at0, .int .i64 k] w fun e w' => e = .returned (.agg #[.int .i64 v, .nilIface]) ∧ Below w.heap.size w w') :
    Calls Tryz.prog 193 #[.string s, .int .i64 at0, .int .i64 k] w fun e w' => e = .returned (.tuple #[.int .i64 v, .int .i64 0]) ∧ Below w.heap.size w w' := by
  have H := Lib.hid h
  clear h
  go_enter Tryz.func193, Tryz.ntmps193
  go_wp2_with fail
  refine H.out.mono ?_
  rintro e w1 ⟨rfl, hb1⟩
  go_wp2_with fail
  refine (telli_ok v _).mono ?_
  rintro e w2 ⟨rfl, hb2⟩
  go_wp2
  go_ret2
  exact ⟨rfl, hb1.trans (hb2.mono hb1.size)⟩

theorem take_any (a0 a1 a2 : Addr) (s : ByteArray) (at0 k : Int) (w : World) (hE : Env a0 a1 a2 w) (hs : s.size ≤ maxLen) :
    Calls Tryz.prog 193 #[.string s, .int .i64 at0, .int .i64 k] w fun e w' => e = .returned (.tuple #[.int .i64 (takeR s at0 k).1, .int .i64 (takeR s at0 k).2]) ∧ Below w.heap.size w w' := by
  unfold takeR
  by_cases hk : k < 1 ∨ 8 < k
  · rw [if_pos hk]
    exact take_of_bad a0 a1 a2 a0 2 s at0 k w hE (.inl ⟨rfl, rfl⟩) (gather_arg a0 a1 a2 s at0 k w hE hk)
  rw [if_neg hk]
  by_cases hf : fitsB s at0 k
  · rw [if_neg (fun h => h hf)]
    by_cases hv : valL (s.extract at0.toNat (at0 + k).toNat).data.toList ≤ 281474976710655
    · rw [if_pos hv]
      exact take_of_ok _ s at0 k w (gather_ok a0 a1 a2 s _ at0 k w hE hs (by omega) (by omega) hf rfl hv)
    · rw [if_neg hv]
      exact take_of_bad a0 a1 a2 a1 10 s at0 k w hE (.inr (.inl ⟨rfl, rfl⟩)) (gather_num a0 a1 a2 s _ at0 k w hE hs (by omega) (by omega) hf rfl (Nat.lt_of_not_le hv))
  · rw [if_pos hf]
    exact take_of_bad a0 a1 a2 a2 11 s at0 k w hE (.inr (.inr ⟨rfl, rfl⟩)) (gather_short a0 a1 a2 s at0 k w hE hs (by omega) (by omega) hf)
end Go.Proofs.YtmbmolgkccjedaaGreatDoor

/- The four sentinels and the table of widths of package head, as the program's text lays them; what number, of package head, answers for each sentinel; what made answers. -/
set_option linter.unusedVariables false
set_option linter.unusedSimpArgs false
namespace Go.Proofs.YtmbmolgkccjedaaGreatDoor
open Go.RowKit Go.Extern.Stop Go.Stop Go.Extern

/-- The four sentinels of package head lie as the program's text lays them, no two the same; and the table of widths. -/
structure EnvH (b0 b1 b2 b3 : Addr) (w : World) : Prop where
  g0 : w.cell? ⟨1, 0, none⟩ = some (.iface 299 (.pointer (some b0)))
  g1 : w.cell? ⟨2, 0, none⟩ = some (.iface 299 (.pointer (some b1)))
  g2 : w.cell? ⟨3, 0, none⟩ = some (.iface 299 (.pointer (some b2)))
  g3 : w.cell? ⟨11, 0, none⟩ = some (.iface 299 (.pointer (some b3)))
  k0 : ∃ c t, w.heap[b0.block]? = some (.cells c t (0, 0))
  k1 : ∃ c t, w.heap[b1.block]? = some (.cells c t (0, 0))
  k2 : ∃ c t, w.heap[b2.block]? = some (.cells c t (0, 0))
  k3 : ∃ c t, w.heap[b3.block]? = some (.cells c t (0, 0))
  n01 : b0 ≠ b1
  n02 : b0 ≠ b2
  n03 : b0 ≠ b3
  n12 : b1 ≠ b2
  n13 : b1 ≠ b3
  n23 : b2 ≠ b3
  t0 : w.cell? ⟨4, 0, none⟩ = some (.int .i64 24)
  t1 : w.cell? ⟨4, 1, none⟩ = some (.int .i64 1)
  t2 : w.cell? ⟨4, 2, none⟩ = some (.int .i64 25)
  t3 : w.cell? ⟨4, 3, none⟩ = some (.int .i64 2)
  t4 : w.cell? ⟨4, 4, none⟩ = some (.int .i64 26)
  t5 : w.cell? ⟨4, 5, none⟩ = some (.int .i64 4)
  t6 : w.cell? ⟨4, 6, none⟩ = some (.int .i64 27)
  t7 : w.cell? ⟨4, 7, none⟩ = some (.int .i64 8)

theorem EnvH.below {b0 b1 b2 b3 : Addr} {w w' : World} (h : EnvH b0 b1 b2 b3 w) (hb : Below w.heap.size w w') : EnvH b0 b1 b2 b3 w' := by
  have k : ∀ {a : Addr}, (∃ c t, w.heap[a.block]? = some (.cells c t (0, 0))) → ∃ c t, w'.heap[a.block]? = some (.cells c t (0, 0)) := fun ⟨c, t, e⟩ => ⟨c, t, (hb.block _ (lt_of_heap e)).trans e⟩
  have c : ∀ {a : Addr} {v : Value}, w.cell? a = some v → w'.cell? a = some v := fun e => (hb.cell (World.block_lt_of_cell? _ _ e)).trans e
  exact ⟨c h.g0, c h.g1, c h.g2, c h.g3, k h.k0, k h.k1, k h.k2, k h.k3, h.n01, h.n02, h.n03, h.n12, h.n13, h.n23, c h.t0, c h.t1, c h.t2, c h.t3, c h.t4, c h.t5, c h.t6, c h.t7⟩

set_option maxRecDepth 100000 in
set_option maxHeartbeats 1000000 in
theorem hnumber0 (b0 b1 b2 b3 : Addr) (w : World) (hE : EnvH b0 b1 b2 b3 w) :
    Calls Tryz.prog 127 #[.iface 299 (.pointer (some b0))] w fun e w' => e = .returned (.int .i64 2) ∧ w = w' := by
  have g0 := hE.g0
  go_enter Tryz.func127, Tryz.ntmps127
  go_wp2_with (go_at_call 147; refine (is_same b0 _).mono ?_; rintro e w' ⟨rfl, rfl⟩)
  go_ret
  exact ⟨rfl, rfl⟩

set_option maxRecDepth 100000 in
set_option maxHeartbeats 1000000 in
theorem hnumber1 (b0 b1 b2 b3 : Addr) (w : World) (hE : EnvH b0 b1 b2 b3 w) :
    Calls Tryz.prog 127 #[.iface 299 (.pointer (some b1))] w fun e w' => e = .returned (.int .i64 10) ∧ w = w' := by
  have g0 := hE.g0
  have g1 := hE.g1
  obtain ⟨c0, t0, k0⟩ := hE.k0
  obtain ⟨c1, t1, k1⟩ := hE.k1
  have H0 := Lib.hid k0
  have H1 := Lib.hid k1
  clear k0 k1
  go_enter Tryz.func127, Tryz.ntmps127
  go_wp2_with fail
  refine (is_other b1 b0 c1 c0 t1 t0 _ (Ne.symm hE.n01) H1.out H0.out).mono ?_
  rintro e w' ⟨rfl, rfl⟩
  go_wp2_with fail
  refine (is_same b1 _).mono ?_
  rintro e w' ⟨rfl, rfl⟩
  go_wp2
  go_ret
  exact ⟨rfl, rfl⟩

set_option maxRecDepth 100000 in
set_option maxHeartbeats 1000000 in
theorem hnumber2 (b0 b1 b2 b3 : Addr) (w : World) (hE : EnvH b0 b1 b2 b3 w) :
    Calls Tryz.prog 127 #[.iface 299 (.pointer (some b2))] w fun e w' => e = .returned (.int .i64 11) ∧ w = w' := by
  have g0 := hE.g0
  have g1 := hE.g1
  have g2 := hE.g2
  obtain ⟨c0, t0, k0⟩ := hE.k0
  obtain ⟨c1, t1, k1⟩ := hE.k1
  obtain ⟨c2, t2, k2⟩ := hE.k2
  have H0 := Lib.hid k0
  have H1 := Lib.hid k1
  have H2 := Lib.hid k2
  clear k0 k1 k2
  go_enter Tryz.func127, Tryz.ntmps127
  go_wp2_with fail
  refine (is_other b2 b0 c2 c0 t2 t0 _ (Ne.symm hE.n02) H2.out H0.out).mono ?_
  rintro e w' ⟨rfl, rfl⟩
  go_wp2_with fail
  refine (is_other b2 b1 c2 c1 t2 t1 _ (Ne.symm hE.n12) H2.out H1.out).mono ?_
  rintro e w' ⟨rfl, rfl⟩
  go_wp2_with fail
  refine (is_same b2 _).mono ?_
  rintro e w' ⟨rfl, rfl⟩
  go_wp2
  go_ret
  exact ⟨rfl, rfl⟩

set_option maxRecDepth 100000 in
set_option maxHeartbeats 1000000 in
theorem hnumber3 (b0 b1 b2 b3 : Addr) (w : World) (hE : EnvH b0 b1 b2 b3 w) :
    Calls Tryz.prog 127 #[.iface 299 (.pointer (some b3))] w fun e w' => e = .returned (.int .i64 20) ∧ w = w' := by
  have g0 := hE.g0
  have g1 := hE.g1
  have g2 := hE.g2
  obtain ⟨c0, t0, k0⟩ := hE.k0
  obtain ⟨c1, t1, k1⟩ := hE.k1
  obtain ⟨c2, t2, k2⟩ := hE.k2
  obtain ⟨c3, t3, k3⟩ := hE.k3
  have H0 := Lib.hid k0
  have H1 := Lib.hid k1
  have H2 := Lib.hid k2
  have H3 := Lib.hid k3
  clear k0 k1 k2 k3
  go_enter Tryz.func127, Tryz.ntmps127
  go_wp2_with fail
  refine (is_other b3 b0 c3 c0 t3 t0 _ (Ne.symm hE.n03) H3.out H0.out).mono ?_
  rintro e w' ⟨rfl, rfl⟩
  go_wp2_with fail
  refine (is_other b3 b1 c3 c1 t3 t1 _ (Ne.symm hE.n13) H3.out H1.out).mono ?_
  rintro e w' ⟨rfl, rfl⟩
  go_wp2_with fail
  refine (is_other b3 b2 c3 c2 t3 t2 _ (Ne.symm hE.n23) H3.out H2.out).mono ?_
  rintro e w' ⟨rfl, rfl⟩
  go_wp2
  go_ret
  exact ⟨rfl, rfl⟩

/-- The sentinel at b is the one that stands for the error's number k. -/
def SentH (b0 b1 b2 b3 b : Addr) (k : Int) : Prop := (b = b0 ∧ k = 2) ∨ (b = b1 ∧ k = 10) ∨ (b = b2 ∧ k = 11) ∨ (b = b3 ∧ k = 20)

theorem hnumber_any (b0 b1 b2 b3 b : Addr) (k : Int) (w : World) (hE : EnvH b0 b1 b2 b3 w) (hs : SentH b0 b1 b2 b3 b k) :
    Calls Tryz.prog 127 #[.iface 299 (.pointer (some b))] w fun e w' => e = .returned (.int .i64 k) ∧ w = w' := by
  rcases hs with ⟨rfl, rfl⟩ | ⟨rfl, rfl⟩ | ⟨rfl, rfl⟩ | ⟨rfl, rfl⟩
  · exact hnumber0 _ _ _ _ _ hE
  · exact hnumber1 _ _ _ _ _ hE
  · exact hnumber2 _ _ _ _ _ hE
  · exact hnumber3 _ _ _ _ _ hE

set_option maxHeartbeats 400000 in
theorem mades_ok (s : ByteArray) (w : World) :
    Calls Tryz.prog 102 #[.string s, .nilIface] w fun e w' => e = .returned (.agg #[.string s, .int .i64 0]) ∧ Below w.heap.size w w' := by
  go_enter Tryz.func102, Tryz.ntmps102
  go_wp2
  exact bodyPost_ret (v := .agg #[.string s, .int .i64 0]) (by simp [results, Tryz.results102, go_sem]) rfl ⟨rfl, (Below.refl _ _).alloc (Nat.le_refl _) _⟩

set_option maxHeartbeats 400000 in
theorem mades_bad (b0 b1 b2 b3 b : Addr) (k : Int) (s : ByteArray) (w : World) (hE : EnvH b0 b1 b2 b3 w) (hs : SentH b0 b1 b2 b3 b k) :
    Calls Tryz.prog 102 #[.string s, .iface 299 (.pointer (some b))] w fun e w' => e = .returned (.agg #[.string ⟨#[]⟩, .int .i64 k]) ∧ Below w.heap.size w w' := by
  go_enter Tryz.func102, Tryz.ntmps102
  go_wp2_with fail
  refine (hnumber_any b0 b1 b2 b3 b k _ (hE.below ((Below.refl _ _).alloc (Nat.le_refl _) _)) hs).mono ?_
  rintro e w' ⟨rfl, rfl⟩
  go_wp2
  exact bodyPost_ret (v := .agg #[.string ⟨#[]⟩, .int .i64 k]) (by simp [results, Tryz.results102, go_sem]) rfl ⟨rfl, (Below.refl _ _).alloc (Nat.le_refl _) _⟩

set_option maxHeartbeats 400000 in
theorem madep_ok (m t n at0 : Int) (w : World) :
    Calls Tryz.prog 176 #[.agg #[.int .i64 m, .int .i64 t, .int .i64 n, .int .i64 at0], .nilIface] w fun e w' => e = .returned (.agg #[.int .i64 m, .int .i64 t, .int .i64 n, .int .i64 at0, .int .i64 0]) ∧ Below w.heap.size w w' := by
  go_enter Tryz.func176, Tryz.ntmps176
  go_wp2
  exact bodyPost_ret (v := .agg #[.int .i64 m, .int .i64 t, .int .i64 n, .int .i64 at0, .int .i64 0]) (by simp [results, Tryz.results176, go_sem]) rfl ⟨rfl, ((Below.refl _ _).alloc (Nat.le_refl _) _).alloc (by simp) _⟩

set_option maxHeartbeats 400000 in
theorem madep_bad (b0 b1 b2 b3 b : Addr) (k : Int) (m t n at0 : Int) (w : World) (hE : EnvH b0 b1 b2 b3 w) (hs : SentH b0 b1 b2 b3 b k) :
    Calls Tryz.prog 176 #[.agg #[.int .i64 m, .int .i64 t, .int .i64 n, .int .i64 at0], .iface 299 (.pointer (some b))] w fun e w' => e = .returned (.agg #[.int .i64 0, .int .i64 0, .int .i64 0, .int .i64 0, .int .i64 k]) ∧ Below w.heap.size w w' := by
  go_enter Tryz.func176, Tryz.ntmps176
  go_wp2_with fail
  refine (hnumber_any b0 b1 b2 b3 b k _ (hE.below (((Below.refl _ _).alloc (Nat.le_refl _) _).alloc (by simp) _)) hs).mono ?_
  rintro e w' ⟨rfl, rfl⟩
  go_wp2
  exact bodyPost_ret (v := .agg #[.int .i64 0, .int .i64 0, .int .i64 0, .int .i64 0, .int .i64 k]) (by simp [results, Tryz.results176, go_sem]) rfl ⟨rfl, ((Below.refl _ _).alloc (Nat.le_refl _) _).alloc (by simp) _⟩

/-- Is it a major? -/
def majB (m : Int) : Bool := decide (m = 0 ∨ 2 ≤ m ∧ m ≤ 4)

set_option maxHeartbeats 400000 in
theorem major_any (m : Int) (w : World) :
    Calls Tryz.prog 129 #[.int .i64 m] w fun e w' => e = .returned (.bool (majB m)) ∧ w = w' := by
  unfold majB
  by_cases h0 : m = 0
  · subst h0
    go_enter Tryz.func129, Tryz.ntmps129
    go_wp2
    go_ret
    exact ⟨rfl, rfl⟩
  by_cases h2 : m = 2
  · subst h2
    go_enter Tryz.func129, Tryz.ntmps129
    go_wp2
    go_ret
    exact ⟨rfl, rfl⟩
  by_cases h3 : m = 3
  · subst h3
    go_enter Tryz.func129, Tryz.ntmps129
    go_wp2
    go_ret
    exact ⟨rfl, rfl⟩
  by_cases h4 : m = 4
  · subst h4
    go_enter Tryz.func129, Tryz.ntmps129
    go_wp2
    go_ret
    exact ⟨rfl, rfl⟩
  have hd : decide (m = 0 ∨ 2 ≤ m ∧ m ≤ 4) = false := by simp; omega
  rw [hd]
  clear hd
  have e0 : (m == 0) = false := by simpa using h0
  have e2 : (m == 2) = false := by simpa using h2
  have e3 : (m == 3) = false := by simpa using h3
  have e4 : (m == 4) = false := by simpa using h4
  go_enter Tryz.func129, Tryz.ntmps129
  go_wp2
  go_ret
  exact ⟨rfl, rfl⟩
end Go.Proofs.YtmbmolgkccjedaaGreatDoor

/- Contract of eachWide of package head: the four widths, as an iterator. -/
set_option linter.unusedVariables false
set_option linter.unusedSimpArgs false
namespace Go.Proofs.YtmbmolgkccjedaaGreatDoor
open Go.RowKit Go.Shelf

attribute [local go_sem] Oper.semAt_some

/-- What is added to a first byte, and the width that it tells. -/
def wideL : List (Int × Int) := [(24, 1), (25, 2), (26, 4), (27, 8)]

theorem wide_at0 (w : World) : (Instr.index 263 (.agg #[.int .i64 24, .int .i64 1, .int .i64 25, .int .i64 2, .int .i64 26, .int .i64 4, .int .i64 27, .int .i64 8]) (.int .i64 0)).run Tryz.prog w = .ok (.agg #[.int .i64 24, .int .i64 1]) w := by kernel_rfl
theorem wide_at1 (w : World) : (Instr.index 263 (.agg #[.int .i64 24, .int .i64 1, .int .i64 25, .int .i64 2, .int .i64 26, .int .i64 4, .int .i64 27, .int .i64 8]) (.int .i64 1)).run Tryz.prog w = .ok (.agg #[.int .i64 25, .int .i64 2]) w := by kernel_rfl
theorem wide_at2 (w : World) : (Instr.index 263 (.agg #[.int .i64 24, .int .i64 1, .int .i64 25, .int .i64 2, .int .i64 26, .int .i64 4, .int .i64 27, .int .i64 8]) (.int .i64 2)).run Tryz.prog w = .ok (.agg #[.int .i64 26, .int .i64 4]) w := by kernel_rfl
theorem wide_at3 (w : World) : (Instr.index 263 (.agg #[.int .i64 24, .int .i64 1, .int .i64 25, .int .i64 2, .int .i64 26, .int .i64 4, .int .i64 27, .int .i64 8]) (.int .i64 3)).run Tryz.prog w = .ok (.agg #[.int .i64 27, .int .i64 8]) w := by kernel_rfl

set_option maxRecDepth 100000 in
set_option maxHeartbeats 2000000 in
theorem wide1_in (F : Fence) (n : Nat) (hf : F.fn 169) (hro : F.round = none) (hn : 1 ≤ n) (l : Nat) (J Jx : List (Int × Int) → World → Prop) (Kp : World → World → Prop) (b0 b1 b2 b3 : Addr)
    (hJ : ∀ pre W o, J pre W → J pre (W.alloc o))
    (hY : ∀ pre (x : Int × Int) W, J pre W → pre.length < 4 → YieldAt F (n - 1) Tryz.prog l #[.agg #[.int .i64 x.1, .int .i64 x.2]] W fun e W' =>
      (e = .returned (.bool true) ∧ J (pre ++ [x]) W' ∧ Kp W W') ∨ (e = .returned (.bool false) ∧ Jx (pre ++ [x]) W'))
    (W : World) (hE : EnvH b0 b1 b2 b3 W) (h0 : J [] W) :
    CallsIn F n Tryz.prog 169 #[.func (.yield l) #[] #[]] W fun e W' => (∃ v, e = .returned v) ∧
      ((∃ ys, ys = wideL ∧ J ys W') ∨ (∃ pre, (∃ k, pre = wideL.take k) ∧ Jx pre W')) := by
  have t0 := hE.t0
  have t1 := hE.t1
  have t2 := hE.t2
  have t3 := hE.t3
  have t4 := hE.t4
  have t5 := hE.t5
  have t6 := hE.t6
  have t7 := hE.t7
  clear hE
  refine callsIn_of_wp Tryz.func169 rfl hf ?_ hro
  simp only [Tryz.ntmps169, List.size_toArray, List.length_cons, List.length_nil, Nat.reduceAdd, Nat.reduceSub, Array.replicate_succ, Array.replicate_zero, List.push_toArray, List.append_toArray, List.nil_append, List.cons_append]
  gi_wp2
  clear t0 t1 t2 t3 t4 t5 t6 t7
  gi_loopw [5] (fun i wr => ∃ k : Nat, k ≤ 4 ∧ i = .int .i64 k ∧ J (wideL.take k) wr) (fun i _ => 4 - (intOf i).toNat)
  case atStart => exact ⟨0, Nat.zero_le _, rfl, h0⟩
  case round =>
    obtain ⟨k, hk, rfl, hJs⟩ := hrel
    have hk' : k = 0 ∨ k = 1 ∨ k = 2 ∨ k = 3 ∨ k = 4 := by omega
    clear hk
    rcases hk' with rfl | rfl | rfl | rfl | rfl
    · obtain ⟨fn, tmps, assign, body, hy, hR⟩ := hY (wideL.take 0) (24, 1) (wr.alloc (.cells #[.int .i64 24, .int .i64 1] 239)) (hJ _ _ _ hJs) (by decide)
      have hix := wide_at0 wr
      gi_wp2
      refine hR.mono ?_
      rintro e W3 (⟨rfl, hJ3, hk3⟩ | ⟨rfl, hJx3⟩)
      · gi_wp2
        go_roundw
        case rel => exact ⟨1, by omega, rfl, hJ3⟩
        case measure => simp [intOf]
      · gi_wp2
        refine bodyPost_ret (results_none rfl _ _ _) rfl ?_
        exact ⟨⟨_, rfl⟩, .inr ⟨_, ⟨1, rfl⟩, hJx3⟩⟩
    · obtain ⟨fn, tmps, assign, body, hy, hR⟩ := hY (wideL.take 1) (25, 2) (wr.alloc (.cells #[.int .i64 25, .int .i64 2] 239)) (hJ _ _ _ hJs) (by decide)
      have hix := wide_at1 wr
      gi_wp2
      refine hR.mono ?_
      rintro e W3 (⟨rfl, hJ3, hk3⟩ | ⟨rfl, hJx3⟩)
      · gi_wp2
        go_roundw
        case rel => exact ⟨2, by omega, rfl, hJ3⟩
        case measure => simp [intOf]
      · gi_wp2
        refine bodyPost_ret (results_none rfl _ _ _) rfl ?_
        exact ⟨⟨_, rfl⟩, .inr ⟨_, ⟨2, rfl⟩, hJx3⟩⟩
    · obtain ⟨fn, tmps, assign, body, hy, hR⟩ := hY (wideL.take 2) (26, 4) (wr.alloc (.cells #[.int .i64 26, .int .i64 4] 239)) (hJ _ _ _ hJs) (by decide)
      have hix := wide_at2 wr
      gi_wp2
      refine hR.mono ?_
      rintro e W3 (⟨rfl, hJ3, hk3⟩ | ⟨rfl, hJx3⟩)
      · gi_wp2
        go_roundw
        case rel => exact ⟨3, by omega, rfl, hJ3⟩
        case measure => simp [intOf]
      · gi_wp2
        refine bodyPost_ret (results_none rfl _ _ _) rfl ?_
        exact ⟨⟨_, rfl⟩, .inr ⟨_, ⟨3, rfl⟩, hJx3⟩⟩
    · obtain ⟨fn, tmps, assign, body, hy, hR⟩ := hY (wideL.take 3) (27, 8) (wr.alloc (.cells #[.int .i64 27, .int .i64 8] 239)) (hJ _ _ _ hJs) (by decide)
      have hix := wide_at3 wr
      gi_wp2
      refine hR.mono ?_
      rintro e W3 (⟨rfl, hJ3, hk3⟩ | ⟨rfl, hJx3⟩)
      · gi_wp2
        go_roundw
        case rel => exact ⟨4, by omega, rfl, hJ3⟩
        case measure => simp [intOf]
      · gi_wp2
        refine bodyPost_ret (results_none rfl _ _ _) rfl ?_
        exact ⟨⟨_, rfl⟩, .inr ⟨_, ⟨4, rfl⟩, hJx3⟩⟩
    · gi_wp2
      go_end0
      exact ⟨⟨_, rfl⟩, .inl ⟨_, rfl, hJs⟩⟩

set_option maxHeartbeats 1000000 in
theorem eachWide_in (F : Fence) (n : Nat) (hf : F.fn 148) (hro : F.round = none) (w : World) :
    CallsIn F n Tryz.prog 148 #[] w fun e w' => e = .returned (.func (.func 169) #[] #[]) ∧ w = w' := by
  refine callsIn_of_wp Tryz.func148 rfl hf ?_ hro
  simp only [Tryz.ntmps148, List.size_toArray, List.length_cons, List.length_nil, Nat.reduceAdd, Nat.reduceSub, Array.replicate_succ, Array.replicate_zero, List.push_toArray, List.append_toArray, List.nil_append, List.cons_append]
  gi_wp2
  go_ret
  exact ⟨rfl, rfl⟩

theorem wide_stops (F : Fence) (n : Nat) (hf : F.fn 169) (hro : F.round = none) (hn : 1 ≤ n) (b0 b1 b2 b3 : Addr) (w : World) (hE : EnvH b0 b1 b2 b3 w) :
    SeqStopsK F n Tryz.prog 169 #[] (fun x : Int × Int => #[Value.agg #[.int .i64 x.1, .int .i64 x.2]]) (fun _ _ => True) (fun ys => ys = wideL) (fun pre => ∃ k, pre = wideL.take k) 4 w := fun l J Jx W hW hJ _ hY h0 => by
  refine (wide1_in F n hf hro hn l J Jx (fun _ _ => True) b0 b1 b2 b3 (fun pre W' o h => ?_) hY W (hE.below hW) h0).mono ?_
  · exact hJ _ _ _ none h (World.grownBy_alloc W' o none) (fun r e => by cases e)
  · rintro e W' ⟨he, ⟨ys, rfl, hj⟩ | ⟨pre, hk, hj⟩⟩
    · exact ⟨he, .inl ⟨_, rfl, hj⟩⟩
    · exact ⟨he, .inr ⟨_, hk, hj⟩⟩
end Go.Proofs.YtmbmolgkccjedaaGreatDoor

/- Contract of width of package head: in how many bytes the argument stands behind a first byte to which so much is added. -/
set_option linter.unusedVariables false
set_option linter.unusedSimpArgs false
namespace Go.Proofs.YtmbmolgkccjedaaGreatDoor
open Go.RowKit Go.Shelf

attribute [local go_sem] Oper.semAt_some

/-- The width that is told by what is added to a first byte. -/
def widI (t : Int) : Int := if t = 24 then 1 else if t = 25 then 2 else if t = 26 then 4 else if t = 27 then 8 else 0

theorem widI_of {x : Int × Int} (h : x ∈ wideL) : widI x.1 = x.2 := by
  simp only [wideL, List.mem_cons, List.not_mem_nil, or_false] at h
  rcases h with rfl | rfl | rfl | rfl <;> decide
theorem widI_no {t : Int} (h : ∀ x ∈ wideL, (x.1 == t) = false) : widI t = 0 := by
  have h1 := h (24, 1) (by decide)
  have h2 := h (25, 2) (by decide)
  have h3 := h (26, 4) (by decide)
  have h4 := h (27, 8) (by decide)
  simp only [beq_eq_false_iff_ne, ne_eq] at h1 h2 h3 h4
  unfold widI
  rw [if_neg (Ne.symm h1), if_neg (Ne.symm h2), if_neg (Ne.symm h3), if_neg (Ne.symm h4)]

set_option maxRecDepth 100000 in
set_option maxHeartbeats 2000000 in
theorem hwidth_any (b0 b1 b2 b3 : Addr) (m t n : Int) (w : World) (hE : EnvH b0 b1 b2 b3 w) :
    Calls Tryz.prog 132 #[.agg #[.int .i64 m, .int .i64 t, .int .i64 n]] w fun e w' => e = .returned (.int .i64 (widI t)) ∧ Below w.heap.size w w' := by
  refine (callsIn_wide (n := 9)).1 ?_
  refine callsIn_of_wp_marks Tryz.func132 rfl trivial ?_ rfl
  simp only [Tryz.ntmps132, List.size_toArray, List.length_cons, List.length_nil, Nat.reduceAdd, Nat.reduceSub, Array.replicate_succ, Array.replicate_zero, List.push_toArray, List.append_toArray, List.nil_append, List.cons_append]
  gi_wp2
  refine wpIn_scope_wide ?_
  gi_wp2
  refine wpIn_label ?_
  gi_wp2_with (refine ⟨trivial, ?_⟩; gi_at_call 148; refine (eachWide_in Fence.wide _ trivial rfl _).mono ?_; rintro e w' ⟨rfl, rfl⟩)
  have hn0 : ((w.alloc (.cells #[.int .i64 m, .int .i64 t, .int .i64 n] 209)).alloc (.cells #[.int .i64 0] 3)).heap.size = w.heap.size + 1 + 1 := by simp
  have c1 : ((w.alloc (.cells #[.int .i64 m, .int .i64 t, .int .i64 n] 209)).alloc (.cells #[.int .i64 0] 3)).cell? ⟨w.heap.size, 1, none⟩ = some (.int .i64 t) := by go_simp
  have c2 : ((w.alloc (.cells #[.int .i64 m, .int .i64 t, .int .i64 n] 209)).alloc (.cells #[.int .i64 0] 3)).cell? ⟨w.heap.size + 1, 0, none⟩ = some (.int .i64 0) := by go_simp
  have f2 : ((w.alloc (.cells #[.int .i64 m, .int .i64 t, .int .i64 n] 209)).alloc (.cells #[.int .i64 0] 3)).frozen? ⟨w.heap.size + 1, 0, none⟩ = false := by go_simp
  have hB0 : Below w.heap.size w ((w.alloc (.cells #[.int .i64 m, .int .i64 t, .int .i64 n] 209)).alloc (.cells #[.int .i64 0] 3)) := ((Below.refl _ w).alloc (Nat.le_refl _) _).alloc (by simp) _
  have hE0 := hE.below hB0
  generalize ((w.alloc (.cells #[.int .i64 m, .int .i64 t, .int .i64 n] 209)).alloc (.cells #[.int .i64 0] 3)) = w0 at *
  refine wpIn_rangeFunc_ownH rfl (by omega) (gf := 169) (lb := #[]) rfl trivial (enters_of Tryz.func169 (by kernel_rfl) rfl)
    (wide_stops Fence.wide _ trivial rfl (by omega) b0 b1 b2 b3 _ hE0) (fun _ _ => trivial) (fun _ _ _ _ _ _ _ _ => trivial) (Below.refl _ _) (fun _ => rfl)
    (fun pre W => (W.cell? ⟨w.heap.size, 1, none⟩ = some (.int .i64 t) ∧ W.cell? ⟨w.heap.size + 1, 0, none⟩ = some (.int .i64 0) ∧ W.frozen? ⟨w.heap.size + 1, 0, none⟩ = false ∧ ∀ x ∈ pre, (x.1 == t) = false) ∧ Below w.heap.size w W)
    (fun c pre W => (c = .exit 0 ∧ ∃ x : Int × Int, x ∈ pre ∧ x.1 = t ∧ W.cell? ⟨w.heap.size + 1, 0, none⟩ = some (.int .i64 x.2)) ∧ Below w.heap.size w W)
    (OwnFrom.and (Own.from (fun s A B row hs hg hr => ⟨cell_kept hs.1 hg hr, cell_kept hs.2.1 hg hr, (frozen_kept hs.2.1 hg hr).trans hs.2.2.1, hs.2.2.2⟩) _) (ownFrom_below (Nat.le_refl _) (by omega)))
    (fun c => OwnFrom.and (Own.from (fun s A B row hs hg hr => ⟨hs.1, hs.2.elim fun x hx => ⟨x, hx.1, hx.2.1, cell_kept hx.2.2 hg hr⟩⟩) _) (ownFrom_below (Nat.le_refl _) (by omega)))
    ⟨⟨c1, c2, f2, fun x hx => by cases hx⟩, hB0⟩
    (fun x a' W => ∃ B : Nat, a' = { tmps := #[.agg #[.int .i64 m, .int .i64 t, .int .i64 n], .pointer (some ⟨w.heap.size, 0, none⟩), .int .i64 0, .pointer (some ⟨w.heap.size + 1, 0, none⟩), .pointer (some ⟨B, 0, none⟩), .func (.func 169) #[] #[], .agg #[.int .i64 x.1, .int .i64 x.2], undef, undef, undef, undef, undef, undef, undef, undef], defers := [] } ∧ W.cell? ⟨B, 0, none⟩ = some (.int .i64 x.1) ∧ W.cell? ⟨B, 1, none⟩ = some (.int .i64 x.2))
    (fun x a' => Own.from (fun s A B row hs hg hr => hs.elim fun b hb => ⟨b, hb.1, cell_kept hb.2.1 hg hr, cell_kept hb.2.2 hg hr⟩) _) ?assign ?body ?done ?stop
  case assign =>
    rintro l pre x W K ⟨⟨h1, h2, h3, h4⟩, hB⟩ hK
    have k1 := cell_alloc_l (.cells #[.int .i64 x.1, .int .i64 x.2] 239) h1
    have k2 := cell_alloc_l (.cells #[.int .i64 x.1, .int .i64 x.2] 239) h2
    have k3 := frozen_alloc_l (.cells #[.int .i64 x.1, .int .i64 x.2] 239) h2 h3
    clear h1 h2 h3 c1 c2 f2
    gi_wp2
    exact hK _ _ ((KeepsOthers.alloc _ _).from _) trivial ⟨⟨k1, k2, k3, h4⟩, hB.alloc hB.size _⟩ ⟨W.heap.size, rfl, by go_simp, by go_simp⟩
  case body =>
    rintro l pre x a' W _ _ ⟨⟨h1, h2, h3, h4⟩, hB⟩ ⟨B, rfl, e0, e1⟩ _
    clear c1 c2 f2
    have H4 := Lib.hid h4
    clear h4
    by_cases hx : x.1 = t
    · have hxb : (x.1 == t) = true := by simpa using hx
      have HX := Lib.hid hx
      clear hx
      gi_wp2
      refine ⟨(KeepsOthers.setCell _ _ _).from _, ⟨rfl, x, by simp, HX.out, World.cell?_setCell_same' _ _ _ (by rw [h2]; rfl)⟩, hB.setCell (p := ⟨w.heap.size + 1, 0, none⟩) (by simp) _⟩
    · have hxb : (x.1 == t) = false := by simpa using hx
      clear hx
      gi_wp2
      refine ⟨KeepsFrom.refl _ _, trivial, ⟨h1, h2, h3, fun y hy => ?_⟩, hB⟩
      rcases List.mem_append.1 hy with hy | hy
      · exact H4.out y hy
      · obtain rfl := List.mem_singleton.1 hy
        exact hxb
  case done =>
    rintro D ys W hD rfl ⟨⟨_, h2, _, h4⟩, hB⟩ hK
    have H4 := Lib.hid h4
    clear h4 c1 c2 f2
    gi_wp2
    refine ⟨by simp, .inl ⟨_, _, rfl, run_takeDeferred hK, ?_⟩⟩
    exact ⟨_, results_tmp rfl _ _ _, by rw [widI_no H4.out]; rfl, hB.trans (belowK_b (w := w) (Nat.le_refl _) W D _ _ (by omega) hK rfl rfl)⟩
  case stop =>
    rintro D c pre W hD ⟨k, rfl⟩ ⟨⟨rfl, x, hx, hxt, h2⟩, hB⟩ hK
    have HX := Lib.hid (show widI t = x.2 by rw [← hxt]; exact widI_of (List.mem_of_mem_take hx))
    clear hx hxt c1 c2 f2
    gi_wp2
    refine ⟨by simp, .inl ⟨_, _, rfl, run_takeDeferred hK, ?_⟩⟩
    exact ⟨_, results_tmp rfl _ _ _, by rw [HX.out]; rfl, hB.trans (belowK_b (w := w) (Nat.le_refl _) W D _ _ (by omega) hK rfl rfl)⟩
end Go.Proofs.YtmbmolgkccjedaaGreatDoor
