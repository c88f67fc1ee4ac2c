/- Two right items have the same bytes just if they are the same: the walk of ItemApart. -/
import Derived.Test.YtljfgchmogdljaaGreatDoorILWhole
set_option linter.unusedVariables false
set_option linter.unusedSimpArgs false
namespace Go.Proofs.YtljfgchmogdljaaGreatDoor
open Go.RowKit

set_option maxRecDepth 100000 in
set_option maxHeartbeats 4000000 in
theorem apart_of (k n : Int) (qx : ByteArray) (p : Option Addr) (len cap : Nat) (k2 n2 : Int) (qy : ByteArray) (p2 : Option Addr) (len2 cap2 : Nat) (x y : Itm) (a b : ByteArray) (e f : Int) (w : World) (hH : HeadOK w) (hE : EnvE w) (hCx : ∀ W, Below w.heap.size w W → Calls Tryz.prog 11 #[.agg #[.int .i64 k, .int .i64 n, .string qx, .slice p len cap]] W (CutR x W)) (hCy : ∀ W, Below w.heap.size w W → Calls Tryz.prog 11 #[.agg #[.int .i64 k2, .int .i64 n2, .string qy, .slice p2 len2 cap2]] W (CutR y W)) (hdx : dep x ≤ 900) (hdy : dep y ≤ 900) (hA : iencB x = (a, e)) (hB : iencB y = (b, f))
    (h : (e != 0) = true ∧ (e == 0) = false ∧ a = ⟨#[]⟩ ∧ ((f == 0) = true ∨ (f == 0) = false ∧ b = ⟨#[]⟩) ∨ (e != 0) = false ∧ (e == 0) = true ∧ (f != 0) = true ∧ (f == 0) = false ∧ b = ⟨#[]⟩ ∨ (e != 0) = false ∧ (f != 0) = false ∧ (a.toList == b.toList) = sameB x y) :
    Calls Tryz.prog 7 #[.agg #[.int .i64 k, .int .i64 n, .string qx, .slice p len cap], .agg #[.int .i64 k2, .int .i64 n2, .string qy, .slice p2 len2 cap2]] w fun e w' => e = .returned (.bool true) ∧ Below w.heap.size w w' := by
  have hB0 : Below w.heap.size w ((w.alloc (.cells #[.int .i64 k, .int .i64 n, .string qx, .slice p len cap] 24)).alloc (.cells #[.int .i64 k2, .int .i64 n2, .string qy, .slice p2 len2 cap2] 24)) := ((Below.refl _ _).alloc (Nat.le_refl _) _).alloc (by simp) _
  have hX0 : ((w.alloc (.cells #[.int .i64 k, .int .i64 n, .string qx, .slice p len cap] 24)).alloc (.cells #[.int .i64 k2, .int .i64 n2, .string qy, .slice p2 len2 cap2] 24)).heap[w.heap.size]? = some (.cells #[.int .i64 k, .int .i64 n, .string qx, .slice p len cap] 24 (0, 0)) := (Below.heap_alloc _ _ _ (by simp)).trans (World.alloc_heap_new w _)
  have hY0 : ((w.alloc (.cells #[.int .i64 k, .int .i64 n, .string qx, .slice p len cap] 24)).alloc (.cells #[.int .i64 k2, .int .i64 n2, .string qy, .slice p2 len2 cap2] 24)).heap[w.heap.size + 1]? = some (.cells #[.int .i64 k2, .int .i64 n2, .string qy, .slice p2 len2 cap2] 24 (0, 0)) := by
    have := World.alloc_heap_new (w.alloc (.cells #[.int .i64 k, .int .i64 n, .string qx, .slice p len cap] 24)) (.cells #[.int .i64 k2, .int .i64 n2, .string qy, .slice p2 len2 cap2] 24)
    rw [show (w.alloc (.cells #[.int .i64 k, .int .i64 n, .string qx, .slice p len cap] 24)).heap.size = w.heap.size + 1 by simp] at this
    exact this
  have HH := Lib.hid hH
  have HE := Lib.hid hE
  have HB0 := Lib.hid hB0
  have HX0 := Lib.hid hX0
  have HY0 := Lib.hid hY0
  have HCX := Lib.hid hCx
  have HCY := Lib.hid hCy
  have HA := Lib.hid hA
  have HBB := Lib.hid hB
  clear hH hE hB0 hX0 hY0 hCx hCy hA hB
  go_enter Tryz.func7, Tryz.ntmps7
  go_wp2_with fail
  refine (shown_any _ (HH.out.below HB0.out) (HE.out.below HB0.out)).mono ?_
  rintro e1 w1 ⟨rfl, hb1⟩
  have HB1 := Lib.hid (HB0.out.trans (hb1.mono HB0.out.size))
  have HX1 := Lib.hid ((hb1.block _ (lt_of_heap HX0.out)).trans HX0.out)
  have HY1 := Lib.hid ((hb1.block _ (lt_of_heap HY0.out)).trans HY0.out)
  clear hb1 HB0 HX0 HY0
  have hX1 := HX1.out
  have a0 := heap_cell hX1 0 _ rfl
  have af0 := heap_frozen hX1 0
  have a1 := heap_cell hX1 1 _ rfl
  have af1 := heap_frozen hX1 1
  have a2 := heap_cell hX1 2 _ rfl
  have af2 := heap_frozen hX1 2
  have a3 := heap_cell hX1 3 _ rfl
  have af3 := heap_frozen hX1 3
  clear hX1
  go_wp2_with fail
  refine (HCX.out w1 HB1.out).mono ?_
  clear HCX
  rintro e2 w2 ⟨k3, n3, q3, p3, l3, c3, rfl, hx2, hb2⟩
  have hz1 : w.heap.size + 1 < w1.heap.size := lt_of_heap HY1.out
  have HB2 := Lib.hid (HB1.out.trans (hb2.mono HB1.out.size))
  have HX2 := Lib.hid ((hb2.block _ (lt_of_heap HX1.out)).trans HX1.out)
  have HY2 := Lib.hid ((hb2.block _ (lt_of_heap HY1.out)).trans HY1.out)
  clear hb2 HB1 HX1 HY1
  have hX2 := HX2.out
  have hY2 := HY2.out
  clear a0 af0 a1 af1 a2 af2 a3 af3
  have b0 := heap_cell hX2 0 _ rfl
  have bf0 := heap_frozen hX2 0
  have b1 := heap_cell hX2 1 _ rfl
  have bf1 := heap_frozen hX2 1
  have b2 := heap_cell hX2 2 _ rfl
  have bf2 := heap_frozen hX2 2
  have b3 := heap_cell hX2 3 _ rfl
  have bf3 := heap_frozen hX2 3
  have g0 := heap_cell hY2 0 _ rfl
  have gf0 := heap_frozen hY2 0
  have g1 := heap_cell hY2 1 _ rfl
  have gf1 := heap_frozen hY2 1
  have g2 := heap_cell hY2 2 _ rfl
  have gf2 := heap_frozen hY2 2
  have g3 := heap_cell hY2 3 _ rfl
  have gf3 := heap_frozen hY2 3
  have HB3 := Lib.hid (below_set4 HB2.out (Nat.le_refl _) (.int .i64 k3) (.int .i64 n3) (.string q3) (.slice p3 l3 c3))
  have HX3 := Lib.hid (box4 hX2 (.int .i64 k3) (.int .i64 n3) (.string q3) (.slice p3 l3 c3))
  have HY3 := Lib.hid ((box4_other (B := w.heap.size) (b := w.heap.size + 1) (by omega) (.int .i64 k3) (.int .i64 n3) (.string q3) (.slice p3 l3 c3)).trans hY2)
  have HI3 := Lib.hid (ItV.set4 (B := w.heap.size) (ItV.mono hx2 (fun b _ (hb : w1.heap.size ≤ b) => (show w.heap.size + 1 < b by omega))) (by omega) (.int .i64 k3) (.int .i64 n3) (.string q3) (.slice p3 l3 c3))
  clear hX2 hY2 hx2 HB2 HX2 HY2
  go_wp2_with fail
  refine (HCY.out _ HB3.out).mono ?_
  clear HCY
  rintro e2 w4 ⟨k4, n4, q4, p4, l4, c4, rfl, hy4, hb4⟩
  have hz4 := hb4.size
  have HB4 := Lib.hid (HB3.out.trans (hb4.mono HB3.out.size))
  have HX4 := Lib.hid ((hb4.block _ (lt_of_heap HX3.out)).trans HX3.out)
  have HY4 := Lib.hid ((hb4.block _ (lt_of_heap HY3.out)).trans HY3.out)
  have HI4 := Lib.hid (HI3.out.below hb4)
  clear hb4 HB3 HX3 HY3 HI3
  have hX4 := HX4.out
  have hY4 := HY4.out
  have hs3 : w.heap.size + 1 < ((((w2.setCell ⟨w.heap.size, 0, none⟩ (.int .i64 k3)).setCell ⟨w.heap.size, 1, none⟩ (.int .i64 n3)).setCell ⟨w.heap.size, 2, none⟩ (.string q3)).setCell ⟨w.heap.size, 3, none⟩ (.slice p3 l3 c3)).heap.size := by have := World.block_lt_of_cell? _ _ g0; simpa using this
  clear b0 bf0 b1 bf1 b2 bf2 b3 bf3 g0 gf0 g1 gf1 g2 gf2 g3 gf3
  have b0 := heap_cell hX4 0 _ rfl
  have bf0 := heap_frozen hX4 0
  have b1 := heap_cell hX4 1 _ rfl
  have bf1 := heap_frozen hX4 1
  have b2 := heap_cell hX4 2 _ rfl
  have bf2 := heap_frozen hX4 2
  have b3 := heap_cell hX4 3 _ rfl
  have bf3 := heap_frozen hX4 3
  have g0 := heap_cell hY4 0 _ rfl
  have gf0 := heap_frozen hY4 0
  have g1 := heap_cell hY4 1 _ rfl
  have gf1 := heap_frozen hY4 1
  have g2 := heap_cell hY4 2 _ rfl
  have gf2 := heap_frozen hY4 2
  have g3 := heap_cell hY4 3 _ rfl
  have gf3 := heap_frozen hY4 3
  have HB5 := Lib.hid (below_set4 HB4.out (Nat.le_succ _) (.int .i64 k4) (.int .i64 n4) (.string q4) (.slice p4 l4 c4))
  have HX5 := Lib.hid ((box4_other (B := w.heap.size + 1) (b := w.heap.size) (by omega) (.int .i64 k4) (.int .i64 n4) (.string q4) (.slice p4 l4 c4)).trans hX4)
  have HY5 := Lib.hid (box4 hY4 (.int .i64 k4) (.int .i64 n4) (.string q4) (.slice p4 l4 c4))
  have HI5 := Lib.hid (ItV.set4 (B := w.heap.size + 1) HI4.out (by omega) (.int .i64 k4) (.int .i64 n4) (.string q4) (.slice p4 l4 c4))
  have HJ5 := Lib.hid (ItV.set4 (B := w.heap.size + 1) (ItV.mono hy4 (fun b _ hb => (show w.heap.size + 1 < b from Nat.lt_of_lt_of_le hs3 hb))) (by omega) (.int .i64 k4) (.int .i64 n4) (.string q4) (.slice p4 l4 c4))
  clear hX4 hY4 hy4 hs3 hz4 HB4 HX4 HY4 HI4
  go_wp2_with fail
  refine (iencode_any _ x _ _ (HH.out.below HB5.out) (HE.out.below HB5.out) HI5.out hdx).mono ?_
  rintro e2 w6 ⟨rfl, hb6⟩
  rw [HA.out]
  have HB6 := Lib.hid (HB5.out.trans (hb6.mono HB5.out.size))
  have HX6 := Lib.hid ((hb6.block _ (lt_of_heap HX5.out)).trans HX5.out)
  have HY6 := Lib.hid ((hb6.block _ (lt_of_heap HY5.out)).trans HY5.out)
  have HI6 := Lib.hid (HI5.out.below hb6)
  have HJ6 := Lib.hid (HJ5.out.below hb6)
  clear hb6 HB5 HX5 HY5 HI5 HJ5
  have hY6 := HY6.out
  clear b0 bf0 b1 bf1 b2 bf2 b3 bf3 g0 gf0 g1 gf1 g2 gf2 g3 gf3
  have g0 := heap_cell hY6 0 _ rfl
  have gf0 := heap_frozen hY6 0
  have g1 := heap_cell hY6 1 _ rfl
  have gf1 := heap_frozen hY6 1
  have g2 := heap_cell hY6 2 _ rfl
  have gf2 := heap_frozen hY6 2
  have g3 := heap_cell hY6 3 _ rfl
  have gf3 := heap_frozen hY6 3
  clear hY6
  go_wp2_with fail
  refine (iencode_any _ y _ _ (HH.out.below HB6.out) (HE.out.below HB6.out) HJ6.out hdy).mono ?_
  rintro e2 w7 ⟨rfl, hb7⟩
  rw [HBB.out]
  have HB7 := Lib.hid (HB6.out.trans (hb7.mono HB6.out.size))
  have HX7 := Lib.hid ((hb7.block _ (lt_of_heap HX6.out)).trans HX6.out)
  have HY7 := Lib.hid ((hb7.block _ (lt_of_heap HY6.out)).trans HY6.out)
  have HI7 := Lib.hid (HI6.out.below hb7)
  have HJ7 := Lib.hid (HJ6.out.below hb7)
  clear hb7 HB6 HX6 HY6 HI6 HJ6
  have hX7 := HX7.out
  have hY7 := HY7.out
  clear g0 gf0 g1 gf1 g2 gf2 g3 gf3
  have b0 := heap_cell hX7 0 _ rfl
  have bf0 := heap_frozen hX7 0
  have b1 := heap_cell hX7 1 _ rfl
  have bf1 := heap_frozen hX7 1
  have b2 := heap_cell hX7 2 _ rfl
  have bf2 := heap_frozen hX7 2
  have b3 := heap_cell hX7 3 _ rfl
  have bf3 := heap_frozen hX7 3
  have g0 := heap_cell hY7 0 _ rfl
  have gf0 := heap_frozen hY7 0
  have g1 := heap_cell hY7 1 _ rfl
  have gf1 := heap_frozen hY7 1
  have g2 := heap_cell hY7 2 _ rfl
  have gf2 := heap_frozen hY7 2
  have g3 := heap_cell hY7 3 _ rfl
  have gf3 := heap_frozen hY7 3
  clear hX7 hY7 HX7 HY7 HA HBB
  rcases h with ⟨h1, h2, rfl, h3 | ⟨h3, rfl⟩⟩ | ⟨h1, h2, h3, h4, rfl⟩ | ⟨h1, h2, h3⟩
  · go_wp2_with fail
    go_ret
    exact ⟨rfl, HB7.out⟩
  · go_wp2_with fail
    go_ret
    exact ⟨rfl, HB7.out⟩
  · go_wp2_with fail
    go_ret
    exact ⟨rfl, HB7.out⟩
  · go_wp2_with fail
    refine (same_any _ _ (dep x) x y _ _ _ (Nat.le_refl _) HI7.out HJ7.out).mono ?_
    rintro e1 w8 ⟨rfl, hb8⟩
    have HB8 := Lib.hid (HB7.out.trans (hb8.mono HB7.out.size))
    clear hb8
    rw [← h3]
    go_wp2_with fail
    go_ret
    first | exact ⟨rfl, HB8.out⟩ | exact ⟨congrArg (fun b => Ending.returned (.bool b)) (by simp), HB8.out⟩

/-- A cut item is seven deep at most. -/
theorem dep_cut : ∀ (f : Nat) (x : Itm), dep (cutI f x) ≤ f + 1
  | 0, .mk k n s l => by simp [cutI, dep, deps]
  | f + 1, .mk k n s l => by
    simp only [cutI, dep]
    have : ∀ l : List Itm, deps (l.map (cutI f)) ≤ f + 1 := by
      intro l
      induction l with
      | nil => simp [deps]
      | cons y r ih => simp only [List.map_cons, deps]; have := dep_cut f y; omega
    have := this (l.take 62)
    omega
theorem dep_cut6 (x : Itm) : dep (cutI 6 x) ≤ 900 := Nat.le_trans (dep_cut 6 x) (by decide)
/-- What Encode answers, by its ways. -/
theorem iencB_cases (x : Itm) : (rightI x = false ∧ iencB x = (⟨#[]⟩, 40)) ∨ (rightI x = true ∧ iencB x = (⟨(encI x).toArray⟩, 0)) := by
  cases h : rightI x with
  | false => exact .inl ⟨rfl, iencB_bad h⟩
  | true => exact .inr ⟨rfl, iencB_ok h⟩
/-- An item that came in, and its cut. -/
theorem cut_in {x : Itm} {v : Value} {w : World} (hx : ItV (fun _ => True) w x v) : ∃ (k n : Int) (q : ByteArray) (p : Option Addr) (len cap : Nat), v = .agg #[.int .i64 k, .int .i64 n, .string q, .slice p len cap] ∧ ∀ W, Below w.heap.size w W → Calls Tryz.prog 11 #[.agg #[.int .i64 k, .int .i64 n, .string q, .slice p len cap]] W (CutR (cutI 6 x) W) := by
  cases x with
  | mk k n s l =>
    have hx' := hx
    simp only [ItV] at hx'
    obtain ⟨p, cap, rfl, _⟩ := hx'
    exact ⟨k, n, _, p, l.length, cap, rfl, fun W hW => lawCutI_any _ _ _ _ (hx.below hW)⟩

theorem apart_walk (X : Itm) (vx : Value) (Y : Itm) (vy : Value) (w : World) (hH : HeadOK w) (hE : EnvE w) (hx : ItV (fun _ => True) w X vx) (hy : ItV (fun _ => True) w Y vy) :
    Calls Tryz.prog 7 #[vx, vy] w fun e w' => e = .returned (.bool true) ∧ Below w.heap.size w w' := by
  obtain ⟨k, n, qx, p, len, cap, rfl, hCx⟩ := cut_in hx
  obtain ⟨k2, n2, qy, p2, len2, cap2, rfl, hCy⟩ := cut_in hy
  refine apart_of k n qx p len cap k2 n2 qy p2 len2 cap2 _ _ (iencB (cutI 6 X)).1 (iencB (cutI 6 Y)).1 (iencB (cutI 6 X)).2 (iencB (cutI 6 Y)).2 w hH hE hCx hCy (dep_cut6 X) (dep_cut6 Y) rfl rfl ?_
  generalize cutI 6 X = x
  generalize cutI 6 Y = y
  rcases iencB_cases x with ⟨r1, e1⟩ | ⟨r1, e1⟩ <;> rcases iencB_cases y with ⟨r2, e2⟩ | ⟨r2, e2⟩ <;> rw [e1, e2]
  · exact .inl ⟨rfl, rfl, rfl, .inr ⟨rfl, rfl⟩⟩
  · exact .inl ⟨rfl, rfl, rfl, .inl rfl⟩
  · exact .inr (.inl ⟨rfl, rfl, rfl, rfl, rfl⟩)
  · refine .inr (.inr ⟨rfl, rfl, ?_⟩)
    show ((⟨(encI x).toArray⟩ : ByteArray).toList == (⟨(encI y).toArray⟩ : ByteArray).toList) = _
    rw [bytes_list, bytes_list]
    exact encI_inj r1 r2
end Go.Proofs.YtljfgchmogdljaaGreatDoor
