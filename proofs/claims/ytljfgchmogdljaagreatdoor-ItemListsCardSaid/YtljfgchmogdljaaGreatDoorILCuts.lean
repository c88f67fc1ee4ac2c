/- A beginning of an item's bytes that is not all of them is no item: the walk of ItemCuts. -/
import Derived.Test.YtljfgchmogdljaaGreatDoorILApart
set_option linter.unusedVariables false
set_option linter.unusedSimpArgs false
namespace Go.Proofs.YtljfgchmogdljaaGreatDoor
open Go.RowKit

set_option maxRecDepth 100000 in
set_option maxHeartbeats 4000000 in
theorem cuts_out (k n : Int) (qx : ByteArray) (p : Option Addr) (len cap : Nat) (x : Itm) (a : ByteArray) (e at0 : Int) (w : World) (hH : HeadOK w) (hE : EnvE w) (hCx : ∀ W, Below w.heap.size w W → Calls Tryz.prog 11 #[.agg #[.int .i64 k, .int .i64 n, .string qx, .slice p len cap]] W (CutR x W)) (hdx : dep x ≤ 900) (hA : iencB x = (a, e)) (has : a.size ≤ 1000000)
    (h : (e != 0) = true ∧ (e == 0) = false ∧ a = ⟨#[]⟩ ∨ (e != 0) = false ∧ (e == 0) = true ∧ decide (at0 < 0) = true ∨ (e != 0) = false ∧ (e == 0) = true ∧ decide (at0 < 0) = false ∧ decide ((a.size : Int) ≤ at0) = true) :
    Calls Tryz.prog 6 #[.agg #[.int .i64 k, .int .i64 n, .string qx, .slice p len cap], .int .i64 at0] w fun e w' => e = .returned (.bool true) ∧ Below w.heap.size w w' := by
  have HA := Lib.hid hA
  clear hA
  have hB0 : Below w.heap.size w (w.alloc (.cells #[.int .i64 k, .int .i64 n, .string qx, .slice p len cap] 24)) := (Below.refl _ _).alloc (Nat.le_refl _) _
  have hX0 : (w.alloc (.cells #[.int .i64 k, .int .i64 n, .string qx, .slice p len cap] 24)).heap[w.heap.size]? = some (.cells #[.int .i64 k, .int .i64 n, .string qx, .slice p len cap] 24 (0, 0)) := World.alloc_heap_new w _
  have HH := Lib.hid hH
  have HE := Lib.hid hE
  have HB0 := Lib.hid hB0
  have HX0 := Lib.hid hX0
  have HCX := Lib.hid hCx
  clear hH hE hB0 hX0 hCx
  go_enter Tryz.func6, Tryz.ntmps6
  go_wp2_with fail
  refine (shown_any _ (HH.out.below HB0.out) (HE.out.below HB0.out)).mono ?_
  rintro e1 w1 ⟨rfl, hb1⟩
  have hX1 := (hb1.block _ (lt_of_heap HX0.out)).trans HX0.out
  have HB1 := Lib.hid (HB0.out.trans (hb1.mono HB0.out.size))
  have HX1 := Lib.hid hX1
  have a0 := heap_cell hX1 0 _ rfl
  have af0 := heap_frozen hX1 0
  have a1 := heap_cell hX1 1 _ rfl
  have af1 := heap_frozen hX1 1
  have a2 := heap_cell hX1 2 _ rfl
  have af2 := heap_frozen hX1 2
  have a3 := heap_cell hX1 3 _ rfl
  have af3 := heap_frozen hX1 3
  clear hb1 hX1 HX0 HB0
  go_wp2_with fail
  refine (HCX.out w1 HB1.out).mono ?_
  clear HCX
  rintro e2 w2 ⟨k3, n3, q3, p3, l3, c3, rfl, hx2, hb2⟩
  have hz1 : w.heap.size < w1.heap.size := lt_of_heap HX1.out
  have hX2 := (hb2.block _ hz1).trans HX1.out
  have hB2 := HB1.out.trans (hb2.mono HB1.out.size)
  have HB3 := Lib.hid (below_set4 hB2 (Nat.le_refl _) (.int .i64 k3) (.int .i64 n3) (.string q3) (.slice p3 l3 c3))
  have HX3 := Lib.hid (box4 hX2 (.int .i64 k3) (.int .i64 n3) (.string q3) (.slice p3 l3 c3))
  have HI3 := Lib.hid (ItV.set4 (B := w.heap.size) (ItV.mono hx2 (fun b _ (hb : w1.heap.size ≤ b) => (show w.heap.size < b by omega))) (by omega) (.int .i64 k3) (.int .i64 n3) (.string q3) (.slice p3 l3 c3))
  clear a0 af0 a1 af1 a2 af2 a3 af3
  have b0 := heap_cell hX2 0 _ rfl
  have bf0 := heap_frozen hX2 0
  have b1 := heap_cell hX2 1 _ rfl
  have bf1 := heap_frozen hX2 1
  have b2 := heap_cell hX2 2 _ rfl
  have bf2 := heap_frozen hX2 2
  have b3 := heap_cell hX2 3 _ rfl
  have bf3 := heap_frozen hX2 3
  clear hx2 hb2 hX2 hB2 HB1 HX1 hz1
  go_wp2_with fail
  refine (iencode_any _ x _ _ (HH.out.below HB3.out) (HE.out.below HB3.out) HI3.out hdx).mono ?_
  rintro e2 w4 ⟨rfl, hb4⟩
  rw [HA.out]
  have HB4 := Lib.hid (HB3.out.trans (hb4.mono HB3.out.size))
  have HX4 := Lib.hid ((hb4.block _ (lt_of_heap HX3.out)).trans HX3.out)
  have HI4 := Lib.hid (HI3.out.below hb4)
  clear hb4 HB3 HX3 HI3
  clear b0 bf0 b1 bf1 b2 bf2 b3 bf3
  rcases h with ⟨h1, h2, rfl⟩ | ⟨h1, h2, h3⟩ | ⟨h1, h2, h3, h4⟩
  all_goals
    go_wp2_with fail
    go_ret
    exact ⟨rfl, HB4.out⟩

set_option maxRecDepth 100000 in
set_option maxHeartbeats 4000000 in
theorem cuts_in (k n : Int) (qx : ByteArray) (p : Option Addr) (len cap : Nat) (x y z : Itm) (a s1 s2 : ByteArray) (j : Nat) (b : Int) (w : World) (hH : HeadOK w) (hE : EnvE w) (hCx : ∀ W, Below w.heap.size w W → Calls Tryz.prog 11 #[.agg #[.int .i64 k, .int .i64 n, .string qx, .slice p len cap]] W (CutR x W)) (hdx : dep x ≤ 900) (hA : iencB x = (a, 0)) (has : a.size ≤ 1000000) (hj : j < a.size) (hs1 : a.extract 0 j = s1) (hs2 : a ++ ⟨#[97]⟩ = s2) (hz1 : s1.size ≤ 1000000) (hz2 : s2.size ≤ 1000000) (hD : decI s1 0 = (y, b, 11)) (hW : wholeI s2 = (z, 20)) :
    Calls Tryz.prog 6 #[.agg #[.int .i64 k, .int .i64 n, .string qx, .slice p len cap], .int .i64 (j : Int)] w fun e w' => e = .returned (.bool true) ∧ Below w.heap.size w w' := by
  have HA := Lib.hid hA
  have HD := Lib.hid hD
  have HW := Lib.hid hW
  have HZ1 := Lib.hid hz1
  clear hA hD hW hz1
  have HZ2 := Lib.hid hz2
  clear hz2
  have hB0 : Below w.heap.size w (w.alloc (.cells #[.int .i64 k, .int .i64 n, .string qx, .slice p len cap] 24)) := (Below.refl _ _).alloc (Nat.le_refl _) _
  have hX0 : (w.alloc (.cells #[.int .i64 k, .int .i64 n, .string qx, .slice p len cap] 24)).heap[w.heap.size]? = some (.cells #[.int .i64 k, .int .i64 n, .string qx, .slice p len cap] 24 (0, 0)) := World.alloc_heap_new w _
  have HH := Lib.hid hH
  have HE := Lib.hid hE
  have HB0 := Lib.hid hB0
  have HX0 := Lib.hid hX0
  have HCX := Lib.hid hCx
  clear hH hE hB0 hX0 hCx
  go_enter Tryz.func6, Tryz.ntmps6
  go_wp2_with fail
  refine (shown_any _ (HH.out.below HB0.out) (HE.out.below HB0.out)).mono ?_
  rintro e1 w1 ⟨rfl, hb1⟩
  have hX1 := (hb1.block _ (lt_of_heap HX0.out)).trans HX0.out
  have HB1 := Lib.hid (HB0.out.trans (hb1.mono HB0.out.size))
  have HX1 := Lib.hid hX1
  have a0 := heap_cell hX1 0 _ rfl
  have af0 := heap_frozen hX1 0
  have a1 := heap_cell hX1 1 _ rfl
  have af1 := heap_frozen hX1 1
  have a2 := heap_cell hX1 2 _ rfl
  have af2 := heap_frozen hX1 2
  have a3 := heap_cell hX1 3 _ rfl
  have af3 := heap_frozen hX1 3
  clear hb1 hX1 HX0 HB0
  go_wp2_with fail
  refine (HCX.out w1 HB1.out).mono ?_
  clear HCX
  rintro e2 w2 ⟨k3, n3, q3, p3, l3, c3, rfl, hx2, hb2⟩
  have hzz : w.heap.size < w1.heap.size := lt_of_heap HX1.out
  have hX2 := (hb2.block _ hzz).trans HX1.out
  have hB2 := HB1.out.trans (hb2.mono HB1.out.size)
  have HB3 := Lib.hid (below_set4 hB2 (Nat.le_refl _) (.int .i64 k3) (.int .i64 n3) (.string q3) (.slice p3 l3 c3))
  have HX3 := Lib.hid (box4 hX2 (.int .i64 k3) (.int .i64 n3) (.string q3) (.slice p3 l3 c3))
  have HI3 := Lib.hid (ItV.set4 (B := w.heap.size) (ItV.mono hx2 (fun b _ (hb : w1.heap.size ≤ b) => (show w.heap.size < b by omega))) (by omega) (.int .i64 k3) (.int .i64 n3) (.string q3) (.slice p3 l3 c3))
  clear a0 af0 a1 af1 a2 af2 a3 af3
  have b0 := heap_cell hX2 0 _ rfl
  have bf0 := heap_frozen hX2 0
  have b1 := heap_cell hX2 1 _ rfl
  have bf1 := heap_frozen hX2 1
  have b2 := heap_cell hX2 2 _ rfl
  have bf2 := heap_frozen hX2 2
  have b3 := heap_cell hX2 3 _ rfl
  have bf3 := heap_frozen hX2 3
  clear hx2 hb2 hX2 hB2 HB1 HX1 hzz
  go_wp2_with fail
  refine (iencode_any _ x _ _ (HH.out.below HB3.out) (HE.out.below HB3.out) HI3.out hdx).mono ?_
  rintro e2 w4 ⟨rfl, hb4⟩
  rw [HA.out]
  have HB4 := Lib.hid (HB3.out.trans (hb4.mono HB3.out.size))
  have HX4 := Lib.hid ((hb4.block _ (lt_of_heap HX3.out)).trans HX3.out)
  have HI4 := Lib.hid (HI3.out.below hb4)
  clear hb4 HB3 HX3 HI3
  clear b0 bf0 b1 bf1 b2 bf2 b3 bf3
  go_wp2_with fail
  have hd := idecode_any s1 0 w4 (HH.out.below HB4.out) (HE.out.below HB4.out) HZ1.out
  rw [HD.out] at hd
  refine hd.mono ?_
  clear hd
  rintro e1 w5 ⟨k6, n6, q6, p6, l6, c6, rfl, _, hb5⟩
  have hB5 := HB4.out.trans (hb5.mono HB4.out.size)
  have HB6 := Lib.hid (hB5.alloc hB5.size (.cells #[.int .i64 k6, .int .i64 n6, .string q6, .slice p6 l6 c6] 24))
  clear hb5 hB5
  go_wp2_with fail
  have hw := iwhole_any s2 _ (HH.out.below HB6.out) (HE.out.below HB6.out) HZ2.out
  rw [HW.out] at hw
  refine hw.mono ?_
  clear hw
  rintro e1 w7 ⟨k7, n7, q7, p7, l7, c7, rfl, _, hb7⟩
  have hB7 := HB6.out.trans (hb7.mono HB6.out.size)
  have HB8 := Lib.hid (hB7.alloc hB7.size (.cells #[.int .i64 k7, .int .i64 n7, .string q7, .slice p7 l7 c7] 24))
  clear hb7 hB7
  go_wp2_with fail
  go_ret
  exact ⟨rfl, HB8.out⟩

theorem list_size (l : List UInt8) : (⟨l.toArray⟩ : ByteArray).size = l.length := by show l.toArray.size = _; simp
/-- A right item's bytes are not many. -/
theorem enc_small {x : Itm} (h : rightI x = true) : (encI x).length ≤ 36540 := by
  obtain ⟨h1, _, h3⟩ := (rightI_iff x).1 h
  have := enc_len x h1
  omega
theorem iencB_small (x : Itm) : (iencB x).1.size ≤ 36540 := by
  rcases iencB_cases x with ⟨_, e⟩ | ⟨r, e⟩
  · rw [e]; exact Nat.zero_le _
  · rw [e]; show (⟨(encI x).toArray⟩ : ByteArray).size ≤ _; rw [list_size]; exact enc_small r
theorem rdAt_of_ok {s : ByteArray} {i : Nat} {x : Itm} {r : List UInt8} (hi : i < s.size) (h : irdR (s.data.toList.drop i) = .ok (x, r)) : ∃ c, rdAt s (i : Int) = .ok (x, r, c) := by
  unfold rdAt
  rw [if_neg (by omega), Int.toNat_natCast]
  unfold irdR at h
  cases hr : rd 6 0 (s.data.toList.drop i) with
  | error e => rw [hr] at h; cases h
  | ok t =>
    obtain ⟨y, r', c⟩ := t
    rw [hr] at h
    simp only [Except.ok.injEq, Prod.mk.injEq] at h
    obtain ⟨rfl, rfl⟩ := h
    exact ⟨c, rfl⟩
theorem rdAt_of_err {s : ByteArray} {i : Nat} {e : Int} (hi : i < s.size) (h : irdR (s.data.toList.drop i) = .error e) : rdAt s (i : Int) = .error e := by
  unfold rdAt
  rw [if_neg (by omega), Int.toNat_natCast]
  unfold irdR at h
  cases hr : rd 6 0 (s.data.toList.drop i) with
  | error e' => rw [hr] at h; simp only [Except.error.injEq] at h ⊢; exact h
  | ok t => obtain ⟨y, r', c⟩ := t; rw [hr] at h; cases h
/-- A beginning of an item's bytes. -/
theorem decI_cut {x : Itm} (h : rightI x = true) {j : Nat} (hj : j < (encI x).length) : decI ((⟨(encI x).toArray⟩ : ByteArray).extract 0 j) 0 = (.mk 0 0 [] [], 0, 11) := by
  refine decI_err ?_
  have e : ((⟨(encI x).toArray⟩ : ByteArray).extract 0 j).data.toList = (encI x).take j := by
    have := extract_drop (⟨(encI x).toArray⟩ : ByteArray) 0 j
    rw [Nat.zero_add] at this
    rw [this]
    rfl
  by_cases h0 : j = 0
  · unfold rdAt
    rw [if_pos (.inr (by subst h0; rw [ByteArray.size_extract]; simp))]
  · have hz : 0 < ((⟨(encI x).toArray⟩ : ByteArray).extract 0 j).size := by rw [ByteArray.size_extract, list_size]; omega
    exact rdAt_of_err (i := 0) hz (by rw [e]; exact irdR_cut h hj)
/-- An item's bytes, and one more. -/
theorem wholeI_more {x : Itm} (h : rightI x = true) (b : UInt8) : wholeI (⟨(encI x).toArray⟩ ++ ⟨#[b]⟩) = (.mk 0 0 [] [], 20) := by
  have e : ((⟨(encI x).toArray⟩ : ByteArray) ++ ⟨#[b]⟩).data.toList.drop 0 = encI x ++ [b] := by
    rw [ByteArray.data_append, Array.toList_append, List.drop_zero]
  have hz : 0 < ((⟨(encI x).toArray⟩ : ByteArray) ++ ⟨#[b]⟩).size := by
    rw [ByteArray.size_append, list_size]
    have : (⟨#[b]⟩ : ByteArray).size = 1 := rfl
    omega
  obtain ⟨c, hc⟩ := rdAt_of_ok (i := 0) (x := x) (r := [b]) hz (by rw [e]; exact irdR_enc h [b])
  unfold wholeI
  rw [show ((0 : Nat) : Int) = 0 from rfl] at hc
  rw [hc]
  rfl

theorem cuts_walk (X : Itm) (vx : Value) (at0 : Int) (w : World) (hH : HeadOK w) (hE : EnvE w) (hx : ItV (fun _ => True) w X vx) (_ : (Lit.int .i64 at0).wf = true) :
    Calls Tryz.prog 6 #[vx, .int .i64 at0] w fun e w' => e = .returned (.bool true) ∧ Below w.heap.size w w' := by
  obtain ⟨k, n, qx, p, len, cap, rfl, hCx⟩ := cut_in hx
  have hdx := dep_cut6 X
  generalize cutI 6 X = x at *
  have hsm := iencB_small x
  rcases iencB_cases x with ⟨r1, e1⟩ | ⟨r1, e1⟩
  · exact cuts_out k n qx p len cap x ⟨#[]⟩ 40 at0 w hH hE hCx hdx e1 (Nat.zero_le _) (.inl ⟨rfl, rfl, rfl⟩)
  · by_cases h0 : at0 < 0
    · exact cuts_out k n qx p len cap x _ 0 at0 w hH hE hCx hdx e1 (by rw [e1] at hsm; exact Nat.le_trans hsm (by decide)) (.inr (.inl ⟨rfl, rfl, by simpa using h0⟩))
    · by_cases h1 : ((⟨(encI x).toArray⟩ : ByteArray).size : Int) ≤ at0
      · exact cuts_out k n qx p len cap x _ 0 at0 w hH hE hCx hdx e1 (by rw [e1] at hsm; exact Nat.le_trans hsm (by decide)) (.inr (.inr ⟨rfl, rfl, by simpa using h0, by simpa using h1⟩))
      · obtain ⟨j, rfl⟩ := Int.eq_ofNat_of_zero_le (show 0 ≤ at0 by omega)
        rw [e1] at hsm
        have hsm' : (⟨(encI x).toArray⟩ : ByteArray).size ≤ 36540 := hsm
        have hj : j < (⟨(encI x).toArray⟩ : ByteArray).size := by omega
        refine cuts_in k n qx p len cap x _ _ _ _ _ j _ w hH hE hCx hdx e1 (by omega) hj rfl rfl ?_ ?_ (decI_cut r1 (by rw [list_size] at hj; exact hj)) (wholeI_more r1 97)
        · rw [ByteArray.size_extract]; omega
        · rw [ByteArray.size_append]
          have : (⟨#[97]⟩ : ByteArray).size = 1 := rfl
          omega
end Go.Proofs.YtljfgchmogdljaaGreatDoor
