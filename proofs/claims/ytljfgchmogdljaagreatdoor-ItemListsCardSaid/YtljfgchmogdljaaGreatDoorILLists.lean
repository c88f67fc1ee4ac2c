/- A list's bytes are its head and its items' bytes: the walk of ItemLists. -/
import Derived.Test.YtljfgchmogdljaaGreatDoorILBack
set_option linter.unusedVariables false
set_option linter.unusedSimpArgs false
namespace Go.Proofs.YtljfgchmogdljaaGreatDoor
open Go.RowKit

set_option maxRecDepth 100000 in
set_option maxHeartbeats 4000000 in
theorem lists_out (k n : Int) (qx : ByteArray) (p : Option Addr) (len cap : Nat) (kx nx : Int) (sx : List UInt8) (lx : List Itm) (a : ByteArray) (e : Int) (w : World) (hH : HeadOK w) (hE : EnvE w) (hCx : ∀ W, Below w.heap.size w W → Calls Tryz.prog 11 #[.agg #[.int .i64 k, .int .i64 n, .string qx, .slice p len cap]] W (CutR (.mk kx nx sx lx) W)) (hdx : dep (.mk kx nx sx lx) ≤ 900) (hA : iencB (.mk kx nx sx lx) = (a, e)) (has : a.size ≤ 1000000)
    (h : (e != 0) = true ∧ (e == 0) = false ∧ a = ⟨#[]⟩ ∨ (e != 0) = false ∧ (e == 0) = true ∧ (kx != 4) = true) :
    Calls Tryz.prog 5 #[.agg #[.int .i64 k, .int .i64 n, .string qx, .slice p len cap]] w fun e w' => e = .returned (.bool true) ∧ Below w.heap.size w w' := by
  generalize hxx : Itm.mk kx nx sx lx = x at *
  have HXX := Lib.hid hxx
  clear hxx
  have HA := Lib.hid hA
  clear hA
  have hB0 : Below w.heap.size w (w.alloc (.cells #[.int .i64 k, .int .i64 n, .string qx, .slice p len cap] 24)) := (Below.refl _ _).alloc (Nat.le_refl _) _
  have hX0 : (w.alloc (.cells #[.int .i64 k, .int .i64 n, .string qx, .slice p len cap] 24)).heap[w.heap.size]? = some (.cells #[.int .i64 k, .int .i64 n, .string qx, .slice p len cap] 24 (0, 0)) := World.alloc_heap_new w _
  have HH := Lib.hid hH
  have HE := Lib.hid hE
  have HB0 := Lib.hid hB0
  have HX0 := Lib.hid hX0
  have HCX := Lib.hid hCx
  clear hH hE hB0 hX0 hCx
  go_enter Tryz.func5, Tryz.ntmps5
  go_wp2_with fail
  refine (shown_any _ (HH.out.below HB0.out) (HE.out.below HB0.out)).mono ?_
  rintro e1 w1 ⟨rfl, hb1⟩
  have hX1 := (hb1.block _ (lt_of_heap HX0.out)).trans HX0.out
  have HB1 := Lib.hid (HB0.out.trans (hb1.mono HB0.out.size))
  have HX1 := Lib.hid hX1
  have a0 := heap_cell hX1 0 _ rfl
  have af0 := heap_frozen hX1 0
  have a1 := heap_cell hX1 1 _ rfl
  have af1 := heap_frozen hX1 1
  have a2 := heap_cell hX1 2 _ rfl
  have af2 := heap_frozen hX1 2
  have a3 := heap_cell hX1 3 _ rfl
  have af3 := heap_frozen hX1 3
  clear hb1 hX1 HX0 HB0
  go_wp2_with fail
  refine (HCX.out w1 HB1.out).mono ?_
  clear HCX
  rintro e2 w2 ⟨k3, n3, q3, p3, l3, c3, rfl, hx2, hb2⟩
  have hz1 : w.heap.size < w1.heap.size := lt_of_heap HX1.out
  have hX2 := (hb2.block _ hz1).trans HX1.out
  have hB2 := HB1.out.trans (hb2.mono HB1.out.size)
  have HB3 := Lib.hid (below_set4 hB2 (Nat.le_refl _) (.int .i64 k3) (.int .i64 n3) (.string q3) (.slice p3 l3 c3))
  have HX3 := Lib.hid (box4 hX2 (.int .i64 k3) (.int .i64 n3) (.string q3) (.slice p3 l3 c3))
  have HI3 := Lib.hid (ItV.set4 (B := w.heap.size) (ItV.mono hx2 (fun b _ (hb : w1.heap.size ≤ b) => (show w.heap.size < b by omega))) (by omega) (.int .i64 k3) (.int .i64 n3) (.string q3) (.slice p3 l3 c3))
  clear a0 af0 a1 af1 a2 af2 a3 af3
  have b0 := heap_cell hX2 0 _ rfl
  have bf0 := heap_frozen hX2 0
  have b1 := heap_cell hX2 1 _ rfl
  have bf1 := heap_frozen hX2 1
  have b2 := heap_cell hX2 2 _ rfl
  have bf2 := heap_frozen hX2 2
  have b3 := heap_cell hX2 3 _ rfl
  have bf3 := heap_frozen hX2 3
  clear hx2 hb2 hX2 hB2 HB1 HX1 hz1
  go_wp2_with fail
  refine (iencode_any _ x _ _ (HH.out.below HB3.out) (HE.out.below HB3.out) HI3.out hdx).mono ?_
  rintro e2 w4 ⟨rfl, hb4⟩
  rw [HA.out]
  have HB4 := Lib.hid (HB3.out.trans (hb4.mono HB3.out.size))
  have HX4 := Lib.hid ((hb4.block _ (lt_of_heap HX3.out)).trans HX3.out)
  have HI4 := Lib.hid (HI3.out.below hb4)
  clear hb4 HB3 HX3 HI3
  clear b0 bf0 b1 bf1 b2 bf2 b3 bf3
  have hX4 := HX4.out
  have b0 := heap_cell hX4 0 _ rfl
  have bf0 := heap_frozen hX4 0
  have b1 := heap_cell hX4 1 _ rfl
  have bf1 := heap_frozen hX4 1
  have b2 := heap_cell hX4 2 _ rfl
  have bf2 := heap_frozen hX4 2
  have b3 := heap_cell hX4 3 _ rfl
  have bf3 := heap_frozen hX4 3
  clear hX4
  have hv := HI4.out
  rw [← HXX.out] at hv
  simp only [ItV] at hv
  obtain ⟨pp, cc, ev, hcap, hmax, _, _, _, hits⟩ := hv
  simp only [Value.agg.injEq, Array.mk.injEq, List.cons.injEq, and_true, Value.int.injEq, true_and, Value.string.injEq, Value.slice.injEq] at ev
  obtain ⟨rfl, rfl, rfl, rfl, rfl, rfl⟩ := ev
  rcases h with ⟨h1, h2, rfl⟩ | ⟨h1, h2, h3⟩
  all_goals
    go_wp2_with fail
    go_ret
    exact ⟨rfl, HB4.out⟩

set_option maxRecDepth 100000 in
set_option maxHeartbeats 4000000 in
theorem lists_in (k n : Int) (qx : ByteArray) (p : Option Addr) (len cap : Nat) (nx : Int) (sx : List UInt8) (lx : List Itm) (a hd : ByteArray) (m : Nat) (w : World) (hH : HeadOK w) (hE : EnvE w) (hCx : ∀ W, Below w.heap.size w W → Calls Tryz.prog 11 #[.agg #[.int .i64 k, .int .i64 n, .string qx, .slice p len cap]] W (CutR (.mk 4 nx sx lx) W)) (hdx : dep (.mk 4 nx sx lx) ≤ 900) (hA : iencB (.mk 4 nx sx lx) = (a, 0)) (hm : lx.length = m) (hm60 : m ≤ 60) (hok : okIs lx = true) (hcn : cnts lx ≤ 60) (hall : ∀ y ∈ lx, rightI y = true ∧ dep y ≤ 900) (hh : hencR 4 (m : Int) = (hd, 0)) (hhl : hd.size ≤ 9) (hfin : a = hd ++ ⟨(encIs lx).toArray⟩) :
    Calls Tryz.prog 5 #[.agg #[.int .i64 k, .int .i64 n, .string qx, .slice p len cap]] w fun e w' => e = .returned (.bool true) ∧ Below w.heap.size w w' := by
  generalize hxx : Itm.mk 4 nx sx lx = x at *
  have HXX := Lib.hid hxx
  clear hxx
  have HA := Lib.hid hA
  have HHD := Lib.hid hh
  have HALL := Lib.hid hall
  have HFIN := Lib.hid hfin
  have HO := Lib.hid hok
  clear hA hh hall hfin hok
  have hB0 : Below w.heap.size w (w.alloc (.cells #[.int .i64 k, .int .i64 n, .string qx, .slice p len cap] 24)) := (Below.refl _ _).alloc (Nat.le_refl _) _
  have hX0 : (w.alloc (.cells #[.int .i64 k, .int .i64 n, .string qx, .slice p len cap] 24)).heap[w.heap.size]? = some (.cells #[.int .i64 k, .int .i64 n, .string qx, .slice p len cap] 24 (0, 0)) := World.alloc_heap_new w _
  have HH := Lib.hid hH
  have HE := Lib.hid hE
  have HB0 := Lib.hid hB0
  have HX0 := Lib.hid hX0
  have HCX := Lib.hid hCx
  clear hH hE hB0 hX0 hCx
  go_enter Tryz.func5, Tryz.ntmps5
  go_wp2_with fail
  refine (shown_any _ (HH.out.below HB0.out) (HE.out.below HB0.out)).mono ?_
  rintro e1 w1 ⟨rfl, hb1⟩
  have hX1 := (hb1.block _ (lt_of_heap HX0.out)).trans HX0.out
  have HB1 := Lib.hid (HB0.out.trans (hb1.mono HB0.out.size))
  have HX1 := Lib.hid hX1
  have a0 := heap_cell hX1 0 _ rfl
  have af0 := heap_frozen hX1 0
  have a1 := heap_cell hX1 1 _ rfl
  have af1 := heap_frozen hX1 1
  have a2 := heap_cell hX1 2 _ rfl
  have af2 := heap_frozen hX1 2
  have a3 := heap_cell hX1 3 _ rfl
  have af3 := heap_frozen hX1 3
  clear hb1 hX1 HX0 HB0
  go_wp2_with fail
  refine (HCX.out w1 HB1.out).mono ?_
  clear HCX
  rintro e2 w2 ⟨k3, n3, q3, p3, l3, c3, rfl, hx2, hb2⟩
  have hz1 : w.heap.size < w1.heap.size := lt_of_heap HX1.out
  have hX2 := (hb2.block _ hz1).trans HX1.out
  have hB2 := HB1.out.trans (hb2.mono HB1.out.size)
  have HB3 := Lib.hid (below_set4 hB2 (Nat.le_refl _) (.int .i64 k3) (.int .i64 n3) (.string q3) (.slice p3 l3 c3))
  have HX3 := Lib.hid (box4 hX2 (.int .i64 k3) (.int .i64 n3) (.string q3) (.slice p3 l3 c3))
  have HI3 := Lib.hid (ItV.set4 (B := w.heap.size) (ItV.mono hx2 (fun b _ (hb : w1.heap.size ≤ b) => (show w.heap.size < b by omega))) (by omega) (.int .i64 k3) (.int .i64 n3) (.string q3) (.slice p3 l3 c3))
  clear a0 af0 a1 af1 a2 af2 a3 af3
  have b0 := heap_cell hX2 0 _ rfl
  have bf0 := heap_frozen hX2 0
  have b1 := heap_cell hX2 1 _ rfl
  have bf1 := heap_frozen hX2 1
  have b2 := heap_cell hX2 2 _ rfl
  have bf2 := heap_frozen hX2 2
  have b3 := heap_cell hX2 3 _ rfl
  have bf3 := heap_frozen hX2 3
  clear hx2 hb2 hX2 hB2 HB1 HX1 hz1
  go_wp2_with fail
  refine (iencode_any _ x _ _ (HH.out.below HB3.out) (HE.out.below HB3.out) HI3.out hdx).mono ?_
  rintro e2 w4 ⟨rfl, hb4⟩
  rw [HA.out]
  have HB4 := Lib.hid (HB3.out.trans (hb4.mono HB3.out.size))
  have HX4 := Lib.hid ((hb4.block _ (lt_of_heap HX3.out)).trans HX3.out)
  have HI4 := Lib.hid (HI3.out.below hb4)
  clear hb4 HB3 HX3 HI3
  clear b0 bf0 b1 bf1 b2 bf2 b3 bf3
  have hX4 := HX4.out
  have b0 := heap_cell hX4 0 _ rfl
  have bf0 := heap_frozen hX4 0
  have b1 := heap_cell hX4 1 _ rfl
  have bf1 := heap_frozen hX4 1
  have b2 := heap_cell hX4 2 _ rfl
  have bf2 := heap_frozen hX4 2
  have b3 := heap_cell hX4 3 _ rfl
  have bf3 := heap_frozen hX4 3
  clear hX4
  have hv := HI4.out
  rw [← HXX.out] at hv
  simp only [ItV] at hv
  obtain ⟨pp, cc, ev, hcap, hmax, _, _, _, hits⟩ := hv
  simp only [Value.agg.injEq, Array.mk.injEq, List.cons.injEq, and_true, Value.int.injEq, true_and, Value.string.injEq, Value.slice.injEq] at ev
  obtain ⟨rfl, rfl, rfl, rfl, rfl, rfl⟩ := ev
  have HITS := Lib.hid hits
  have HL := Lib.hid hm
  rw [hm] at HX4 b3 HI4
  clear hits hm hcap HI4
  go_wp2_with fail
  refine (hencode_any 4 (m : Int) _ (HH.out.below HB4.out)).mono ?_
  rintro e2 w5 ⟨rfl, hb5⟩
  rw [HHD.out]
  have HITS5 := Lib.hid (HITS.out.below hb5)
  have HB5 := Lib.hid (HB4.out.trans (hb5.mono HB4.out.size))
  have HX5 := Lib.hid ((hb5.block _ (lt_of_heap HX4.out)).trans HX4.out)
  clear hb5 HB4 HX4
  clear HITS b0 bf0 b1 bf1 b2 bf2 b3 bf3
  go_wp2_with fail
  go_loopw [6, 8] (fun t i wr => ∃ (j : Nat) (q : ByteArray), j ≤ m ∧ i = .int .i64 (j : Int) ∧ t = .string q ∧ q = hd ++ ⟨(encIs (lx.take j)).toArray⟩ ∧ Below w5.heap.size w5 wr) (fun _ i _ => m - (intOf i).toNat)
  case atStart => exact ⟨0, hd, Nat.zero_le _, rfl, rfl, (ba_nil hd).symm, Below.refl _ _⟩
  case round =>
    obtain ⟨j, q, hj, rfl, rfl, hq, hB⟩ := hrel
    have HB := Lib.hid hB
    have hXr := (hB.block _ (lt_of_heap HX5.out)).trans HX5.out
    have hBw := HB5.out.trans (hB.mono HB5.out.size)
    have r3 := heap_cell hXr 3 _ rfl
    have r0 := heap_cell hXr 0 _ rfl
    by_cases hlt : j < m
    · obtain ⟨y, hy⟩ : ∃ y, lx[j]? = some y := ⟨_, List.getElem?_eq_getElem (by have := HL.out; omega)⟩
      obtain ⟨ad, d0, d1, d2, d3, rfl, _, e0, e1, e2, e3, hvy⟩ := ItsV.reads lx j y (HITS5.out.below hB) hy
      have HVY := Lib.hid hvy
      have hmem := List.mem_of_getElem? hy
      have hyl : (encI y).length ≤ 36540 := by
        have := enc_len y (okIs_mem hmem HO.out)
        have := cnt_mem hmem
        omega
      have hql : q.size ≤ 36549 := by
        have h1 := encs_len (lx.take j) (okIs_take HO.out j)
        have h2 := cnts_take lx j
        rw [hq, ByteArray.size_append]
        have h3 : (⟨(encIs (lx.take j)).toArray⟩ : ByteArray).size = (encIs (lx.take j)).length := by simp [ByteArray.size]
        omega
      have HQ := Lib.hid (show q ++ ⟨(encI y).toArray⟩ = hd ++ ⟨(encIs (lx.take (j + 1))).toArray⟩ by
        have e1 : encIs (some y).toList = encI y := by simp [encIs]
        rw [hq, List.take_add_one, hy, encIs_append, e1, ByteArray.append_assoc, ba_append (encIs (lx.take j)) (encI y)])
      have HEN := Lib.hid (iencB_ok (HALL.out y hmem).1)
      have HDY := Lib.hid (HALL.out y hmem).2
      have HBW := Lib.hid hBw
      clear hy hvy hB hq hmem hBw hXr
      go_wp2_with fail
      refine (iencode_any _ y _ _ (HH.out.below HBW.out) (HE.out.below HBW.out) HVY.out HDY.out).mono ?_
      rintro e w6 ⟨rfl, hb6⟩
      rw [HEN.out]
      have HB2 := Lib.hid (HB.out.trans (hb6.mono HB.out.size))
      clear hb6 e0 e1 e2 e3 HEN HDY HVY
      generalize encI y = yy at *
      go_wp2_with fail
      go_roundw
      case rel => exact ⟨j + 1, _, by omega, by go_num, rfl, HQ.out, HB2.out⟩
      case measure => simp [intOf]; omega
    · obtain rfl : j = m := by omega
      have hR : a = q := by rw [hq, List.take_of_length_le (by rw [HL.out]; exact Nat.le_refl _)]; exact HFIN.out
      have HBW := Lib.hid hBw
      clear hq hB hBw hXr
      subst hR
      go_wp2_with fail
      go_ret
      first | exact ⟨rfl, HBW.out⟩ | exact ⟨congrArg (fun b => Ending.returned (.bool b)) (by simp), HBW.out⟩

theorem lists_walk (X : Itm) (vx : Value) (w : World) (hH : HeadOK w) (hE : EnvE w) (hx : ItV (fun _ => True) w X vx) :
    Calls Tryz.prog 5 #[vx] w fun e w' => e = .returned (.bool true) ∧ Below w.heap.size w w' := by
  obtain ⟨k, n, qx, p, len, cap, rfl, hCx⟩ := cut_in hx
  have hdx := dep_cut6 X
  generalize cutI 6 X = x at *
  obtain ⟨kx, nx, sx, lx⟩ := x
  have hsm := iencB_small (.mk kx nx sx lx)
  rcases iencB_cases (.mk kx nx sx lx) with ⟨r1, e1⟩ | ⟨r1, e1⟩
  · exact lists_out k n qx p len cap kx nx sx lx ⟨#[]⟩ 40 w hH hE hCx hdx e1 (Nat.zero_le _) (.inl ⟨rfl, rfl, rfl⟩)
  · by_cases hk : kx = 4
    · subst hk
      obtain ⟨h1, h2, h3⟩ := (rightI_iff _).1 r1
      simp only [okI, Bool.and_eq_true] at h1
      simp only [dep] at h2
      simp only [cnt] at h3
      obtain ⟨_, _, rfl⟩ : (4 : Int) = 4 ∧ nx = 0 ∧ sx = [] := by
        rcases ownB_cases h1.1 with ⟨N, h, _⟩ | ⟨h, _⟩ | ⟨h, _⟩ | ⟨_, h5, h6⟩
        · cases h
        · cases h
        · cases h
        · exact ⟨rfl, h5, h6⟩
      have hcl := cnts_length lx
      have hhd := hencR_of (M := 4) (N := lx.length) (by decide) (by omega)
      refine lists_in k n qx p len cap nx [] lx ⟨(encI (.mk 4 nx [] lx)).toArray⟩ ⟨(headL 4 lx.length).toArray⟩ lx.length w hH hE hCx hdx e1 rfl (by omega) h1.2 (by omega) ?_ hhd ?_ ?_
      · intro y hy
        obtain ⟨s1, s2, s3, s4, s5⟩ := parts_ok (k := 4) (n := nx) (s := []) hy (by simp only [okI, Bool.and_eq_true]; exact h1)
        simp only [dep] at s2
        simp only [cnt] at s3
        exact ⟨(rightI_iff _).2 ⟨s1, by omega, by omega⟩, by omega⟩
      · have := hencR_sz 4 (lx.length : Int)
        rw [show (4 : Int) = ((4 : Nat) : Int) from rfl, hhd] at this
        exact this
      · rw [ba_append]
        simp [encI, argN]
    · exact lists_out k n qx p len cap kx nx sx lx _ 0 w hH hE hCx hdx e1 (by rw [e1] at hsm; exact Nat.le_trans hsm (by decide)) (.inr ⟨rfl, rfl, by simpa using hk⟩)
end Go.Proofs.YtljfgchmogdljaaGreatDoor
