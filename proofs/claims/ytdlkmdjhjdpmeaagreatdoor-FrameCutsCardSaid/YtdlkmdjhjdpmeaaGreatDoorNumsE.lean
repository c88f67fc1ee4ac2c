/- Contract of Take of package nums: for every text, place, width. -/
import Derived.Test.YtdlkmdjhjdpmeaaGreatDoorNumsD
set_option linter.unusedVariables false
set_option linter.unusedSimpArgs false
namespace Go.Proofs.YtdlkmdjhjdpmeaaGreatDoor
open Go.RowKit

theorem fresh2 {w w2 : World} {x y : Value} {t : TypeId} (hb : Below (w.alloc (.cells #[x, y] t)).heap.size (w.alloc (.cells #[x, y] t)) w2) :
    w2.cell? ⟨w.heap.size, 0, none⟩ = some x ∧ w2.cell? ⟨w.heap.size, 1, none⟩ = some y ∧ w2.frozen? ⟨w.heap.size, 0, none⟩ = false ∧ w2.frozen? ⟨w.heap.size, 1, none⟩ = false ∧ w.heap.size < w2.heap.size := by
  obtain ⟨hc, hf⟩ := bcell hb
  refine ⟨(hc _ 0 (by simp)).trans (by go_simp), (hc _ 1 (by simp)).trans (by go_simp), (hf _ 0 (by simp)).trans (by go_simp), (hf _ 1 (by simp)).trans (by go_simp), ?_⟩
  have := hb.size
  simp at this
  omega

set_option maxRecDepth 100000 in
set_option maxHeartbeats 1000000 in
theorem gather_arg (a0 a1 a2 : Addr) (s : ByteArray) (at0 k : Int) (w : World) (hE : Env a0 a1 a2 w) (hk : k < 1 ∨ 8 < k) :
    Calls Tryz.prog 76 #[.string s, .int .i64 at0, .int .i64 k] w fun e w' => e = .returned (.agg #[.int .i64 0, .iface 179 (.pointer (some a0))]) ∧ Below w.heap.size w w' := by
  have hw := widthB_no hk
  clear hk
  have g0 := hE.g0
  have hz := World.block_lt_of_cell? _ _ g0
  go_enter Tryz.func76, Tryz.ntmps76
  go_wp2_with fail
  refine (width_any _ _).mono ?_
  rintro e w' ⟨rfl, rfl⟩
  go_wp2_with (go_at_call 89; refine (badi_any _ _).mono ?_; rintro e w' ⟨rfl, rfl⟩)
  exact bodyPost_ret (v := .agg #[.int .i64 0, .iface 179 (.pointer (some a0))]) (by simp [results, Tryz.results76, go_sem]) rfl ⟨rfl, ((Below.refl _ _).alloc (Nat.le_refl _) _).alloc (by simp) _⟩

set_option maxRecDepth 100000 in
set_option maxHeartbeats 1000000 in
theorem gather_short (a0 a1 a2 : Addr) (s : ByteArray) (at0 k : Int) (w : World) (hE : Env a0 a1 a2 w) (hs : s.size ≤ maxLen) (hk1 : 1 ≤ k) (hk : k ≤ 8) (hf : ¬ fitsB s at0 k) :
    Calls Tryz.prog 76 #[.string s, .int .i64 at0, .int .i64 k] w fun e w' => e = .returned (.agg #[.int .i64 0, .iface 179 (.pointer (some a2))]) ∧ Below w.heap.size w w' := by
  have hw := widthB_yes hk1 hk
  have H := Lib.hid hf
  clear hf
  go_enter Tryz.func76, Tryz.ntmps76
  go_wp2_with fail
  refine (width_any _ _).mono ?_
  rintro e w' ⟨rfl, rfl⟩
  go_wp2_with fail
  refine (piece_bad a0 a1 a2 s at0 k _ (hE.below ((Below.refl _ _).alloc (Nat.le_refl _) _)) hs H.out).mono ?_
  rintro e w1 ⟨rfl, hb1⟩
  obtain ⟨hc, hff⟩ := bcell hb1
  have hz0 : w.heap.size < w1.heap.size := by have := hb1.size; simp at this; omega
  go_wp2_with (go_at_call 89; refine (badi_any _ _).mono ?_; rintro e w' ⟨rfl, rfl⟩)
  obtain ⟨q0, q1⟩ := two_cells (w := w1) (b := w.heap.size) (x := .int .i64 0) (y := .nilIface) ((hc w.heap.size 0 (by simp)).trans (by go_simp)) ((hc w.heap.size 1 (by simp)).trans (by go_simp))
  refine bodyPost_ret (v := .agg #[.int .i64 0, .iface 179 (.pointer (some a2))]) (by simp [results, Tryz.results76, go_sem, hz0, Nat.lt_succ_of_lt hz0, Nat.ne_of_lt hz0, q0, q1]) rfl ⟨rfl, ?_⟩
  exact ((((((Below.refl _ _).alloc (Nat.le_refl _) _).trans (hb1.mono (by simp))).setCell (by simp) _).setCell (by simp) _).alloc (by simp; omega) _).alloc (by simp; omega) _

set_option maxRecDepth 100000 in
set_option maxHeartbeats 1000000 in
theorem gather_ok (a0 a1 a2 : Addr) (s q : ByteArray) (at0 k : Int) (w : World) (hE : Env a0 a1 a2 w) (hs : s.size ≤ maxLen) (hk1 : 1 ≤ k) (hk : k ≤ 8) (hf : fitsB s at0 k) (hq : s.extract at0.toNat (at0 + k).toNat = q) (hv : valL q.data.toList ≤ 281474976710655) :
    Calls Tryz.prog 76 #[.string s, .int .i64 at0, .int .i64 k] w fun e w' => e = .returned (.agg #[.int .i64 ((valL q.data.toList : Nat) : Int), .nilIface]) ∧ Below w.heap.size w w' := by
  have hw := widthB_yes hk1 hk
  have H := Lib.hid hf
  clear hf
  have hql : q.size ≤ s.size := by rw [← hq]; exact extract_le _ _ _
  have HQ := Lib.hid hq
  clear hq
  have hr := rightB_yes hv
  have hT := fun w => told_any q w (by unfold maxLen at hs; omega)
  have HT := Lib.hid hT
  clear hT
  go_enter Tryz.func76, Tryz.ntmps76
  go_wp2_with fail
  refine (width_any _ _).mono ?_
  rintro e w' ⟨rfl, rfl⟩
  go_wp2_with fail
  refine (piece_ok s at0 k _ hs H.out).mono ?_
  rintro e w1 ⟨rfl, hb1⟩
  rw [HQ.out]
  obtain ⟨hc, hff⟩ := bcell hb1
  have hz0 : w.heap.size < w1.heap.size := by have := hb1.size; simp at this; omega
  go_wp2_with fail
  refine (HT.out _).mono ?_
  rintro e w2 ⟨m, rfl, hm1, _, _, hb2⟩
  obtain rfl := hm1 hv
  clear hm1
  have hB := hb1.trans ((((Below.refl _ _).alloc (Nat.le_refl _) _).trans (hb2.mono (by simp))).mono hb1.size)
  have hBw : Below w.heap.size w w2 := ((Below.refl _ _).alloc (Nat.le_refl _) _).trans (hB.mono (by simp))
  obtain ⟨p0, p1, f0, f1, hz2⟩ := fresh2 hB
  clear hc hff hb1 hb2 hB
  go_wp2_with fail
  refine (right_any _ _).mono ?_
  rintro e w' ⟨rfl, rfl⟩
  go_wp2_with (go_at_call 91; refine (goodi_any _ _).mono ?_; rintro e w' ⟨rfl, rfl⟩)
  obtain ⟨q0, q1⟩ := two_cells p0 p1
  refine bodyPost_ret (v := .agg #[.int .i64 ((valL q.data.toList : Nat) : Int), .nilIface]) (by simp [results, Tryz.results76, go_sem, hz2, Nat.lt_succ_of_lt hz2, Nat.ne_of_lt hz2, q0, q1]) rfl ⟨rfl, ?_⟩
  exact ((hBw.setCell (by simp) _).setCell (by simp) _).alloc (by simp; omega) _

set_option maxRecDepth 100000 in
set_option maxHeartbeats 1000000 in
theorem gather_num (a0 a1 a2 : Addr) (s q : ByteArray) (at0 k : Int) (w : World) (hE : Env a0 a1 a2 w) (hs : s.size ≤ maxLen) (hk1 : 1 ≤ k) (hk : k ≤ 8) (hf : fitsB s at0 k) (hq : s.extract at0.toNat (at0 + k).toNat = q) (hv : 281474976710655 < valL q.data.toList) :
    Calls Tryz.prog 76 #[.string s, .int .i64 at0, .int .i64 k] w fun e w' => e = .returned (.agg #[.int .i64 0, .iface 179 (.pointer (some a1))]) ∧ Below w.heap.size w w' := by
  have hw := widthB_yes hk1 hk
  have H := Lib.hid hf
  clear hf
  have hql : q.size ≤ s.size := by rw [← hq]; exact extract_le _ _ _
  have HQ := Lib.hid hq
  clear hq
  have hT := fun w => told_any q w (by unfold maxLen at hs; omega)
  have HT := Lib.hid hT
  clear hT
  go_enter Tryz.func76, Tryz.ntmps76
  go_wp2_with fail
  refine (width_any _ _).mono ?_
  rintro e w' ⟨rfl, rfl⟩
  go_wp2_with fail
  refine (piece_ok s at0 k _ hs H.out).mono ?_
  rintro e w1 ⟨rfl, hb1⟩
  rw [HQ.out]
  obtain ⟨hc, hff⟩ := bcell hb1
  have hz0 : w.heap.size < w1.heap.size := by have := hb1.size; simp at this; omega
  go_wp2_with fail
  refine (HT.out _).mono ?_
  rintro e w2 ⟨m, rfl, _, hm1, hm2, hb2⟩
  have hm := hm1 hv
  clear hm1
  have hr := rightB_no hm
  have hB := hb1.trans ((((Below.refl _ _).alloc (Nat.le_refl _) _).trans (hb2.mono (by simp))).mono hb1.size)
  have hBw : Below w.heap.size w w2 := ((Below.refl _ _).alloc (Nat.le_refl _) _).trans (hB.mono (by simp))
  obtain ⟨p0, p1, f0, f1, hz2⟩ := fresh2 hB
  have g1 := (hE.below hBw).g1
  have hz := World.block_lt_of_cell? _ _ g1
  have hne : w.heap.size ≠ 1 := by have := World.block_lt_of_cell? _ _ hE.g1; simp at this; omega
  clear hc hff hb1 hb2 hB
  go_wp2_with fail
  refine (right_any _ _).mono ?_
  rintro e w' ⟨rfl, rfl⟩
  go_wp2_with (go_at_call 89; refine (badi_any _ _).mono ?_; rintro e w' ⟨rfl, rfl⟩)
  obtain ⟨q0, q1⟩ := two_cells p0 p1
  refine bodyPost_ret (v := .agg #[.int .i64 0, .iface 179 (.pointer (some a1))]) (by simp [results, Tryz.results76, go_sem, hz2, Nat.lt_succ_of_lt hz2, Nat.ne_of_lt hz2, q0, q1]) rfl ⟨rfl, ?_⟩
  exact ((hBw.setCell (by simp) _).setCell (by simp) _).alloc (by simp; omega) _

/-- What Take answers: the number, and the error's number. -/
def takeR (s : ByteArray) (at0 k : Int) : Int × Int :=
  if k < 1 ∨ 8 < k then (0, 2) else if ¬ fitsB s at0 k then (0, 11)
  else if valL (s.extract at0.toNat (at0 + k).toNat).data.toList ≤ 281474976710655 then (((valL (s.extract at0.toNat (at0 + k).toNat).data.toList : Nat) : Int), 0) else (0, 10)

set_option maxHeartbeats 400000 in
theorem take_of_bad (a0 a1 a2 a : Addr) (c : Int) (s : ByteArray) (at0 k : Int) (w : World) (hE : Env a0 a1 a2 w) (hs : Sent a0 a1 a2 a c)
    (h : Calls Tryz.prog 76 #[.string s, .int .i64 at0, .int .i64 k] w fun e w' => e = .returned (.agg #[.int .i64 0, .iface 179 (.pointer (some a))]) ∧ Below w.heap.size w w') :
    Calls Tryz.prog 65 #[.string s, .int .i64 at0, .int .i64 k] w fun e w' => e = .returned (.tuple #[.int .i64 0, .int .i64 c]) ∧ Below w.heap.size w w' := by
  have H := Lib.hid h
  clear h
  go_enter Tryz.func65, Tryz.ntmps65
  go_wp2_with fail
  refine H.out.mono ?_
  rintro e w1 ⟨rfl, hb1⟩
  go_wp2_with fail
  refine (telli_bad a0 a1 a2 a c _ _ (hE.below hb1) hs).mono ?_
  rintro e w2 ⟨rfl, hb2⟩
  go_wp2
  go_ret2
  exact ⟨rfl, hb1.trans (hb2.mono hb1.size)⟩

set_option maxHeartbeats 400000 in
theorem take_of_ok (v : Int) (s : ByteArray) (at0 k : Int) (w : World)
    (h : Calls Tryz.prog 76 #[.string s, .int .i64 at0, .int .i64 k] w fun e w' => e = .returned (.agg #[.int .i64 v, .nilIface]) ∧ Below w.heap.size w w') :
    Calls Tryz.prog 65 #[.string s, .int .i64 at0, .int .i64 k] w fun e w' => e = .returned (.tuple #[.int .i64 v, .int .i64 0]) ∧ Below w.heap.size w w' := by
  have H := Lib.hid h
  clear h
  go_enter Tryz.func65, Tryz.ntmps65
  go_wp2_with fail
  refine H.out.mono ?_
  rintro e w1 ⟨rfl, hb1⟩
  go_wp2_with fail
  refine (telli_ok v _).mono ?_
  rintro e w2 ⟨rfl, hb2⟩
  go_wp2
  go_ret2
  exact ⟨rfl, hb1.trans (hb2.mono hb1.size)⟩

theorem take_any (a0 a1 a2 : Addr) (s : ByteArray) (at0 k : Int) (w : World) (hE : Env a0 a1 a2 w) (hs : s.size ≤ maxLen) :
    Calls Tryz.prog 65 #[.string s, .int .i64 at0, .int .i64 k] w fun e w' => e = .returned (.tuple #[.int .i64 (takeR s at0 k).1, .int .i64 (takeR s at0 k).2]) ∧ Below w.heap.size w w' := by
  unfold takeR
  by_cases hk : k < 1 ∨ 8 < k
  · rw [if_pos hk]
    exact take_of_bad a0 a1 a2 a0 2 s at0 k w hE (.inl ⟨rfl, rfl⟩) (gather_arg a0 a1 a2 s at0 k w hE hk)
  rw [if_neg hk]
  by_cases hf : fitsB s at0 k
  · rw [if_neg (fun h => h hf)]
    by_cases hv : valL (s.extract at0.toNat (at0 + k).toNat).data.toList ≤ 281474976710655
    · rw [if_pos hv]
      exact take_of_ok _ s at0 k w (gather_ok a0 a1 a2 s _ at0 k w hE hs (by omega) (by omega) hf rfl hv)
    · rw [if_neg hv]
      exact take_of_bad a0 a1 a2 a1 10 s at0 k w hE (.inr (.inl ⟨rfl, rfl⟩)) (gather_num a0 a1 a2 s _ at0 k w hE hs (by omega) (by omega) hf rfl (Nat.lt_of_not_le hv))
  · rw [if_pos hf]
    exact take_of_bad a0 a1 a2 a2 11 s at0 k w hE (.inr (.inr ⟨rfl, rfl⟩)) (gather_short a0 a1 a2 s at0 k w hE hs (by omega) (by omega) hf)
end Go.Proofs.YtdlkmdjhjdpmeaaGreatDoor
