/- An item is decoded from its bytes, whatever stands ahead and behind, and what is decoded has just these bytes: the walk of ItemBack. -/
import Derived.Test.YtljfgchmogdljaaGreatDoorILParts
set_option linter.unusedVariables false
set_option linter.unusedSimpArgs false
namespace Go.Proofs.YtljfgchmogdljaaGreatDoor
open Go.RowKit

set_option maxRecDepth 100000 in
set_option maxHeartbeats 4000000 in
theorem back_of (k n : Int) (qx : ByteArray) (p : Option Addr) (len cap : Nat) (x y z : Itm) (s t q r a u v : ByteArray) (e b f c g h : Int) (rx : Bool) (w : World) (hH : HeadOK w) (hE : EnvE w) (hCx : ∀ W, Below w.heap.size w W → Calls Tryz.prog 11 #[.agg #[.int .i64 k, .int .i64 n, .string qx, .slice p len cap]] W (CutR x W)) (hdx : dep x ≤ 900) (hdz : dep z ≤ 900) (hs : s.size ≤ maxLen) (ht : t.size ≤ maxLen) (hq : s.extract 0 (min s.size 700) = q) (hql : q.size ≤ 700) (hr : t.extract 0 (min t.size 700) = r) (hrl : r.size ≤ 700)
    (hA : iencB x = (a, e)) (has : a.size ≤ 36540) (hu : q ++ a ++ r = u) (hus : u.size ≤ 1000000) (hD : decI u (q.size : Int) = (y, b, f)) (hD2 : decI r 0 = (z, c, g)) (hA2 : iencB z = (v, h)) (hR : rightI x = rx)
    (h1 : (e == 0) = true ∧ rx = true ∧ (f != 0) = false ∧ sameB y x = true ∧ b = (q.size : Int) + (a.size : Int) ∨ (e == 0) = false ∧ rx = false)
    (h2 : (g != 0) = true ∧ c = 0 ∨ (g != 0) = false ∧ (g == 0) = true ∧ ∃ j : Nat, c = (j : Int) ∧ (h == 0) = true ∧ (1 ≤ j ∧ j ≤ r.size) ∧ r.extract 0 j = v) :
    Calls Tryz.prog 4 #[.agg #[.int .i64 k, .int .i64 n, .string qx, .slice p len cap], .string s, .string t] w fun e w' => e = .returned (.bool true) ∧ Below w.heap.size w w' := by
  have HA := Lib.hid hA
  have HQ := Lib.hid hq
  have HRR := Lib.hid hr
  have HD := Lib.hid hD
  have HD2 := Lib.hid hD2
  have HA2 := Lib.hid hA2
  have HR := Lib.hid hR
  clear hA hq hr hD hD2 hA2 hR
  have hB0 : Below w.heap.size w (w.alloc (.cells #[.int .i64 k, .int .i64 n, .string qx, .slice p len cap] 24)) := (Below.refl _ _).alloc (Nat.le_refl _) _
  have hX0 : (w.alloc (.cells #[.int .i64 k, .int .i64 n, .string qx, .slice p len cap] 24)).heap[w.heap.size]? = some (.cells #[.int .i64 k, .int .i64 n, .string qx, .slice p len cap] 24 (0, 0)) := World.alloc_heap_new w _
  have HH := Lib.hid hH
  have HE := Lib.hid hE
  have HB0 := Lib.hid hB0
  have HX0 := Lib.hid hX0
  have HCX := Lib.hid hCx
  clear hH hE hB0 hX0 hCx
  go_enter Tryz.func4, Tryz.ntmps4
  go_wp2_with fail
  refine (shown_any _ (HH.out.below HB0.out) (HE.out.below HB0.out)).mono ?_
  rintro e1 w1 ⟨rfl, hb1⟩
  have hX1 := (hb1.block _ (lt_of_heap HX0.out)).trans HX0.out
  have HB1 := Lib.hid (HB0.out.trans (hb1.mono HB0.out.size))
  have HX1 := Lib.hid hX1
  have a0 := heap_cell hX1 0 _ rfl
  have af0 := heap_frozen hX1 0
  have a1 := heap_cell hX1 1 _ rfl
  have af1 := heap_frozen hX1 1
  have a2 := heap_cell hX1 2 _ rfl
  have af2 := heap_frozen hX1 2
  have a3 := heap_cell hX1 3 _ rfl
  have af3 := heap_frozen hX1 3
  clear hb1 hX1 HX0 HB0
  go_wp2_with fail
  refine (HCX.out w1 HB1.out).mono ?_
  clear HCX
  rintro e2 w2 ⟨k3, n3, q3, p3, l3, c3, rfl, hx2, hb2⟩
  have hz1 : w.heap.size < w1.heap.size := lt_of_heap HX1.out
  have hX2 := (hb2.block _ hz1).trans HX1.out
  have hB2 := HB1.out.trans (hb2.mono HB1.out.size)
  have HB3 := Lib.hid (below_set4 hB2 (Nat.le_refl _) (.int .i64 k3) (.int .i64 n3) (.string q3) (.slice p3 l3 c3))
  have HX3 := Lib.hid (box4 hX2 (.int .i64 k3) (.int .i64 n3) (.string q3) (.slice p3 l3 c3))
  have HI3 := Lib.hid (ItV.set4 (B := w.heap.size) (ItV.mono hx2 (fun b _ (hb : w1.heap.size ≤ b) => (show w.heap.size < b by omega))) (by omega) (.int .i64 k3) (.int .i64 n3) (.string q3) (.slice p3 l3 c3))
  clear a0 af0 a1 af1 a2 af2 a3 af3
  have b0 := heap_cell hX2 0 _ rfl
  have bf0 := heap_frozen hX2 0
  have b1 := heap_cell hX2 1 _ rfl
  have bf1 := heap_frozen hX2 1
  have b2 := heap_cell hX2 2 _ rfl
  have bf2 := heap_frozen hX2 2
  have b3 := heap_cell hX2 3 _ rfl
  have bf3 := heap_frozen hX2 3
  clear hx2 hb2 hX2 hB2 HB1 HX1 hz1
  go_wp2_with fail
  refine (lawCut_any s _ hs).mono ?_
  rintro e2 w' ⟨rfl, rfl⟩
  rw [HQ.out]
  go_wp2_with fail
  refine (lawCut_any t _ ht).mono ?_
  rintro e2 w' ⟨rfl, rfl⟩
  rw [HRR.out]
  go_wp2_with fail
  refine (iencode_any _ x _ _ (HH.out.below HB3.out) (HE.out.below HB3.out) HI3.out hdx).mono ?_
  rintro e2 w4 ⟨rfl, hb4⟩
  rw [HA.out]
  have HB4 := Lib.hid (HB3.out.trans (hb4.mono HB3.out.size))
  have HX4 := Lib.hid ((hb4.block _ (lt_of_heap HX3.out)).trans HX3.out)
  have HI4 := Lib.hid (HI3.out.below hb4)
  clear hb4 HB3 HX3 HI3
  clear b0 bf0 b1 bf1 b2 bf2 b3 bf3
  go_wp2_with fail
  have hd := idecode_any u (q.size : Int) w4 (HH.out.below HB4.out) (HE.out.below HB4.out) hus
  rw [HD.out] at hd
  refine hd.mono ?_
  clear hd
  rintro e1 w5 ⟨k5, n5, q5, p5, l5, c5, rfl, hy5, hb5⟩
  have HB5 := Lib.hid (HB4.out.trans (hb5.mono HB4.out.size))
  have HX5 := Lib.hid ((hb5.block _ (lt_of_heap HX4.out)).trans HX4.out)
  have HI5 := Lib.hid (HI4.out.below hb5)
  clear hb5 HB4 HX4 HI4
  have hX5 := HX5.out
  have b0 := heap_cell hX5 0 _ rfl
  have bf0 := heap_frozen hX5 0
  have b1 := heap_cell hX5 1 _ rfl
  have bf1 := heap_frozen hX5 1
  have b2 := heap_cell hX5 2 _ rfl
  have bf2 := heap_frozen hX5 2
  have b3 := heap_cell hX5 3 _ rfl
  have bf3 := heap_frozen hX5 3
  have hz5 : w.heap.size < w5.heap.size := lt_of_heap hX5
  have hz5n : w.heap.size ≠ w5.heap.size := by omega
  have hbb : Below w5.heap.size w5 (w5.alloc (.cells #[.int .i64 k5, .int .i64 n5, .string q5, .slice p5 l5 c5] 24)) := (Below.refl w5.heap.size w5).alloc (Nat.le_refl _) _
  have HJ6 := Lib.hid (hy5.below hbb)
  have HB6 := Lib.hid (HB5.out.trans (hbb.mono HB5.out.size))
  have HX6 := Lib.hid ((hbb.block _ (lt_of_heap HX5.out)).trans HX5.out)
  have HI6 := Lib.hid (HI5.out.below hbb)
  clear hbb HB5 HX5 HI5
  clear hX5 hy5 HQ HRR HD
  rcases h1 with ⟨i1, rfl, i2, i3, rfl⟩ | ⟨i1, rfl⟩
  · go_wp2_with fail
    refine (same_any _ _ (dep y) y x _ _ _ (Nat.le_refl _) HJ6.out HI6.out).mono ?_
    rintro e1 wS ⟨rfl, hbS⟩
    rw [i3]
    have HBS := Lib.hid (HB6.out.trans (hbS.mono HB6.out.size))
    have HXS := Lib.hid ((hbS.block _ (lt_of_heap HX6.out)).trans HX6.out)
    have HIS := Lib.hid (HI6.out.below hbS)
    clear hbS HB6 HX6 HI6
    clear HJ6 b0 bf0 b1 bf1 b2 bf2 b3 bf3
    go_wp2_with fail
    have hd := idecode_any r 0 _ (HH.out.below HBS.out) (HE.out.below HBS.out) (by omega)
    rw [HD2.out] at hd
    refine hd.mono ?_
    clear hd
    rintro e1 w7 ⟨k7, n7, q7, p7, l7, c7, rfl, hz7, hb7⟩
    have HB7 := Lib.hid (HBS.out.trans (hb7.mono HBS.out.size))
    have HX7 := Lib.hid ((hb7.block _ (lt_of_heap HXS.out)).trans HXS.out)
    have HI7 := Lib.hid (HIS.out.below hb7)
    clear hb7 HBS HXS HIS
    have hbb : Below w7.heap.size w7 (w7.alloc (.cells #[.int .i64 k7, .int .i64 n7, .string q7, .slice p7 l7 c7] 24)) := (Below.refl w7.heap.size w7).alloc (Nat.le_refl _) _
    have HZ8 := Lib.hid (hz7.below hbb)
    have HB8 := Lib.hid (HB7.out.trans (hbb.mono HB7.out.size))
    have HX8 := Lib.hid ((hbb.block _ (lt_of_heap HX7.out)).trans HX7.out)
    have HI8 := Lib.hid (HI7.out.below hbb)
    clear hbb HB7 HX7 HI7
    clear hz7
    go_wp2_with fail
    refine (iencode_any _ z _ _ (HH.out.below HB8.out) (HE.out.below HB8.out) HZ8.out hdz).mono ?_
    rintro e2 w9 ⟨rfl, hb9⟩
    rw [HA2.out]
    have HB9 := Lib.hid (HB8.out.trans (hb9.mono HB8.out.size))
    have HX9 := Lib.hid ((hb9.block _ (lt_of_heap HX8.out)).trans HX8.out)
    have HI9 := Lib.hid (HI8.out.below hb9)
    clear hb9 HB8 HX8 HI8
    have hX9 := HX9.out
    have d0 := heap_cell hX9 0 _ rfl
    have df0 := heap_frozen hX9 0
    have d1 := heap_cell hX9 1 _ rfl
    have df1 := heap_frozen hX9 1
    have d2 := heap_cell hX9 2 _ rfl
    have df2 := heap_frozen hX9 2
    have d3 := heap_cell hX9 3 _ rfl
    have df3 := heap_frozen hX9 3
    clear hX9 HZ8 HX9
    rcases h2 with ⟨g1, rfl⟩ | ⟨g1, g2, j, rfl, g3, g4, g5⟩
    · go_wp2_with fail
      refine (iright_any _ x _ _ HI9.out hdx).mono ?_
      rintro e2 w10 ⟨rfl, hb10⟩
      rw [HR.out]
      have HB10 := Lib.hid (HB9.out.trans (hb10.mono HB9.out.size))
      clear hb10
      go_wp2_with fail
      go_ret
      exact ⟨rfl, HB10.out⟩
    · go_wp2_with fail
      refine (iright_any _ x _ _ HI9.out hdx).mono ?_
      rintro e2 w10 ⟨rfl, hb10⟩
      rw [HR.out]
      have HB10 := Lib.hid (HB9.out.trans (hb10.mono HB9.out.size))
      clear hb10
      go_wp2_with fail
      go_ret
      first | exact ⟨rfl, HB10.out⟩ | exact ⟨congrArg (fun b => Ending.returned (.bool b)) (by simp), HB10.out⟩
  · clear b0 bf0 b1 bf1 b2 bf2 b3 bf3
    go_wp2_with fail
    have hd := idecode_any r 0 _ (HH.out.below HB6.out) (HE.out.below HB6.out) (by omega)
    rw [HD2.out] at hd
    refine hd.mono ?_
    clear hd
    rintro e1 w7 ⟨k7, n7, q7, p7, l7, c7, rfl, hz7, hb7⟩
    have HB7 := Lib.hid (HB6.out.trans (hb7.mono HB6.out.size))
    have HX7 := Lib.hid ((hb7.block _ (lt_of_heap HX6.out)).trans HX6.out)
    have HI7 := Lib.hid (HI6.out.below hb7)
    clear hb7 HB6 HX6 HI6
    have hbb : Below w7.heap.size w7 (w7.alloc (.cells #[.int .i64 k7, .int .i64 n7, .string q7, .slice p7 l7 c7] 24)) := (Below.refl w7.heap.size w7).alloc (Nat.le_refl _) _
    have HZ8 := Lib.hid (hz7.below hbb)
    have HB8 := Lib.hid (HB7.out.trans (hbb.mono HB7.out.size))
    have HX8 := Lib.hid ((hbb.block _ (lt_of_heap HX7.out)).trans HX7.out)
    have HI8 := Lib.hid (HI7.out.below hbb)
    clear hbb HB7 HX7 HI7
    clear hz7
    go_wp2_with fail
    refine (iencode_any _ z _ _ (HH.out.below HB8.out) (HE.out.below HB8.out) HZ8.out hdz).mono ?_
    rintro e2 w9 ⟨rfl, hb9⟩
    rw [HA2.out]
    have HB9 := Lib.hid (HB8.out.trans (hb9.mono HB8.out.size))
    have HX9 := Lib.hid ((hb9.block _ (lt_of_heap HX8.out)).trans HX8.out)
    have HI9 := Lib.hid (HI8.out.below hb9)
    clear hb9 HB8 HX8 HI8
    have hX9 := HX9.out
    have d0 := heap_cell hX9 0 _ rfl
    have df0 := heap_frozen hX9 0
    have d1 := heap_cell hX9 1 _ rfl
    have df1 := heap_frozen hX9 1
    have d2 := heap_cell hX9 2 _ rfl
    have df2 := heap_frozen hX9 2
    have d3 := heap_cell hX9 3 _ rfl
    have df3 := heap_frozen hX9 3
    clear hX9 HZ8 HX9
    rcases h2 with ⟨g1, rfl⟩ | ⟨g1, g2, j, rfl, g3, g4, g5⟩
    · go_wp2_with fail
      refine (iright_any _ x _ _ HI9.out hdx).mono ?_
      rintro e2 w10 ⟨rfl, hb10⟩
      rw [HR.out]
      have HB10 := Lib.hid (HB9.out.trans (hb10.mono HB9.out.size))
      clear hb10
      go_wp2_with fail
      go_ret
      exact ⟨rfl, HB10.out⟩
    · go_wp2_with fail
      refine (iright_any _ x _ _ HI9.out hdx).mono ?_
      rintro e2 w10 ⟨rfl, hb10⟩
      rw [HR.out]
      have HB10 := Lib.hid (HB9.out.trans (hb10.mono HB9.out.size))
      clear hb10
      go_wp2_with fail
      go_ret
      first | exact ⟨rfl, HB10.out⟩ | exact ⟨congrArg (fun b => Ending.returned (.bool b)) (by simp), HB10.out⟩

theorem decI_dep (s : ByteArray) (at0 : Int) : dep (decI s at0).1 ≤ 900 := by
  unfold decI
  cases h : rdAt s at0 with
  | error e => show dep (.mk 0 0 [] []) ≤ 900; decide
  | ok t =>
    obtain ⟨x, r, c⟩ := t
    obtain ⟨i, _, _, _, hi⟩ := rdAt_ok h
    have := ((rightI_iff x).1 (irdR_back hi).1).2.1
    show dep x ≤ 900
    omega
/-- An item's bytes, with bytes ahead and behind. -/
theorem decI_mid {x : Itm} (h : rightI x = true) (q r : ByteArray) : decI (q ++ ⟨(encI x).toArray⟩ ++ r) (q.size : Int) = (x, (q.size : Int) + ((⟨(encI x).toArray⟩ : ByteArray).size : Int), 0) := by
  have e : (q ++ ⟨(encI x).toArray⟩ ++ r).data.toList.drop q.size = encI x ++ r.data.toList := by
    rw [ByteArray.data_append, ByteArray.data_append, Array.toList_append, Array.toList_append, List.append_assoc, List.drop_append_of_le_length (by rw [Array.length_toList]; exact Nat.le_refl _), List.drop_of_length_le (by rw [Array.length_toList]; exact Nat.le_refl _)]
    simp
  have hl := encI_cons x
  have hz : (q ++ ⟨(encI x).toArray⟩ ++ r).size = q.size + (encI x).length + r.size := by rw [ByteArray.size_append, ByteArray.size_append, list_size (encI x)]
  obtain ⟨c, hc⟩ := rdAt_of_ok (s := q ++ ⟨(encI x).toArray⟩ ++ r) (i := q.size) (x := x) (r := r.data.toList) (by omega) (by rw [e]; exact irdR_enc h _)
  have hrl : r.data.toList.length = r.size := by rw [Array.length_toList]; rfl
  rw [decI_ok hc, hz, hrl, list_size (encI x)]
  simp only [Prod.mk.injEq, true_and, and_true]
  omega

theorem back_walk (X : Itm) (vx : Value) (s t : ByteArray) (w : World) (hH : HeadOK w) (hE : EnvE w) (hx : ItV (fun _ => True) w X vx) (hs : s.size ≤ maxLen) (ht : t.size ≤ maxLen) :
    Calls Tryz.prog 4 #[vx, .string s, .string t] w fun e w' => e = .returned (.bool true) ∧ Below w.heap.size w w' := by
  obtain ⟨k, n, qx, p, len, cap, rfl, hCx⟩ := cut_in hx
  have hdx := dep_cut6 X
  generalize cutI 6 X = x at *
  have hql := cut_le s
  generalize hq : s.extract 0 (min s.size 700) = q at hql
  have hrl := cut_le t
  generalize hr : t.extract 0 (min t.size 700) = r at hrl
  have hsm := iencB_small x
  have hus : (q ++ (iencB x).1 ++ r).size ≤ 1000000 := by rw [ByteArray.size_append, ByteArray.size_append]; omega
  refine back_of k n qx p len cap x (decI (q ++ (iencB x).1 ++ r) (q.size : Int)).1 (decI r 0).1 s t q r (iencB x).1 (q ++ (iencB x).1 ++ r) (iencB (decI r 0).1).1 (iencB x).2 (decI (q ++ (iencB x).1 ++ r) (q.size : Int)).2.1 (decI (q ++ (iencB x).1 ++ r) (q.size : Int)).2.2 (decI r 0).2.1 (decI r 0).2.2 (iencB (decI r 0).1).2 (rightI x) w hH hE hCx hdx (decI_dep r 0) hs ht hq hql hr hrl rfl hsm rfl hus rfl rfl rfl rfl ?_ ?_
  · rcases iencB_cases x with ⟨r1, e1⟩ | ⟨r1, e1⟩
    · rw [e1]; exact .inr ⟨rfl, r1⟩
    · rw [e1]
      refine .inl ⟨rfl, r1, ?_⟩
      show ((decI (q ++ ⟨(encI x).toArray⟩ ++ r) (q.size : Int)).2.2 != 0) = false ∧ sameB (decI (q ++ ⟨(encI x).toArray⟩ ++ r) (q.size : Int)).1 x = true ∧ (decI (q ++ ⟨(encI x).toArray⟩ ++ r) (q.size : Int)).2.1 = (q.size : Int) + ((⟨(encI x).toArray⟩ : ByteArray).size : Int)
      rw [decI_mid r1 q r]
      exact ⟨rfl, sameB_self x, rfl⟩
  · cases hd : rdAt r 0 with
    | error e =>
      rw [decI_err hd]
      exact .inl ⟨by simpa using rdAt_err_ne hd, rfl⟩
    | ok z =>
      obtain ⟨z, l, c⟩ := z
      obtain ⟨i, hi, hil, hll, hir⟩ := rdAt_ok hd
      obtain rfl : i = 0 := by omega
      obtain ⟨hz, hl⟩ := irdR_back hir
      rw [decI_ok hd]
      have hlen := congrArg List.length hl
      rw [drop_len_ba, List.length_append] at hlen
      have hc := encI_cons z
      refine .inr ⟨rfl, rfl, r.size - l.length, rfl, ?_, by omega, ?_⟩
      · show ((iencB z).2 == 0) = true
        rw [iencB_ok hz]; rfl
      · show r.extract 0 (r.size - l.length) = (iencB z).1
        rw [iencB_ok hz]
        show r.extract 0 (r.size - l.length) = ⟨(encI z).toArray⟩
        apply ByteArray.ext
        apply Array.ext'
        have e := extract_drop r 0 (r.size - l.length)
        rw [Nat.zero_add] at e
        rw [e, hl, show r.size - l.length = (encI z).length by omega]
        simp
end Go.Proofs.YtljfgchmogdljaaGreatDoor
