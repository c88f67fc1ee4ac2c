/- A text is an item just if one is decoded from its beginning up to its end: the walk of ItemWhole. -/
import Derived.Test.YtljfgchmogdljaaGreatDoorILaw
set_option linter.unusedVariables false
set_option linter.unusedSimpArgs false
namespace Go.Proofs.YtljfgchmogdljaaGreatDoor
open Go.RowKit

theorem env2 {w W : World} (hH : HeadOK w) (hE : EnvE w) (h : Below w.heap.size w W) : HeadOK W ∧ EnvE W := ⟨hH.below h, hE.below h⟩
set_option maxRecDepth 100000 in
set_option maxHeartbeats 4000000 in
theorem whole_of (s q : ByteArray) (x y : Itm) (at0 e f : Int) (w : World) (hH : HeadOK w) (hE : EnvE w) (hs : s.size ≤ maxLen) (hq : s.extract 0 (min s.size 700) = q) (hql : q.size ≤ 700) (hD : decI q 0 = (x, at0, e)) (hW : wholeI q = (y, f))
    (h : (e != 0) = true ∧ (f == e) = true ∨ (e != 0) = false ∧ (f == 0) = true ∧ (at0 == (q.size : Int)) = true ∧ sameB x y = true ∨ (e != 0) = false ∧ (f == 0) = false ∧ (f == 20) = true ∧ (at0 == (q.size : Int)) = false) :
    Calls Tryz.prog 9 #[.string s] w fun e w' => e = .returned (.bool true) ∧ Below w.heap.size w w' := by
  have HH := Lib.hid hH
  have HE := Lib.hid hE
  have HQ := Lib.hid hq
  have HD := Lib.hid hD
  have HW := Lib.hid hW
  clear hH hE hq hD hW
  go_enter Tryz.func9, Tryz.ntmps9
  go_wp2_with fail
  refine (shown_any _ HH.out HE.out).mono ?_
  rintro e1 w1 ⟨rfl, hb1⟩
  have HB1 := Lib.hid hb1
  clear hb1
  go_wp2_with fail
  refine (lawCut_any s _ hs).mono ?_
  rintro e1 w1' ⟨rfl, rfl⟩
  rw [HQ.out]
  go_wp2_with fail
  have hd := idecode_any q 0 _ (HH.out.below HB1.out) (HE.out.below HB1.out) (by omega)
  rw [HD.out] at hd
  refine hd.mono ?_
  clear hd
  rintro e1 w2 ⟨k3, n3, q3, p3, l3, c3, rfl, hx2, hb2⟩
  have hB2 := HB1.out.trans (hb2.mono HB1.out.size)
  have hx2' := ItV.below hx2 ((Below.refl w2.heap.size w2).alloc (Nat.le_refl _) (.cells #[.int .i64 k3, .int .i64 n3, .string q3, .slice p3 l3 c3] 24))
  have HB2 := Lib.hid (hB2.alloc hB2.size (.cells #[.int .i64 k3, .int .i64 n3, .string q3, .slice p3 l3 c3] 24))
  have HX2 := Lib.hid (World.alloc_heap_new w2 (.cells #[.int .i64 k3, .int .i64 n3, .string q3, .slice p3 l3 c3] 24))
  have HI2 := Lib.hid hx2'
  clear hb2 hB2 hx2 hx2' HB1
  go_wp2_with fail
  have hw := iwhole_any q _ (HH.out.below HB2.out) (HE.out.below HB2.out) (by omega)
  rw [HW.out] at hw
  refine hw.mono ?_
  clear hw
  rintro e1 w3 ⟨k4, n4, q4, p4, l4, c4, rfl, hy3, hb3⟩
  have HB3 := Lib.hid (HB2.out.trans (hb3.mono HB2.out.size))
  have HX3 := Lib.hid ((hb3.block _ (lt_of_heap HX2.out)).trans HX2.out)
  have HI3 := Lib.hid (HI2.out.below hb3)
  clear hb3 HB2 HX2 HI2
  have hz3 : w2.heap.size < w3.heap.size := lt_of_heap HX3.out
  have hz3n : w2.heap.size ≠ w3.heap.size := by omega
  have hB4 := HB3.out.alloc HB3.out.size (.cells #[.int .i64 k4, .int .i64 n4, .string q4, .slice p4 l4 c4] 24)
  have hbb : Below w3.heap.size w3 (w3.alloc (.cells #[.int .i64 k4, .int .i64 n4, .string q4, .slice p4 l4 c4] 24)) := (Below.refl w3.heap.size w3).alloc (Nat.le_refl _) _
  have HB4 := Lib.hid hB4
  have HI4 := Lib.hid (HI3.out.below hbb)
  have HJ4 := Lib.hid (hy3.below hbb)
  have hX3 := HX3.out
  have a0 := heap_cell hX3 0 _ rfl
  have af0 := heap_frozen hX3 0
  have a1 := heap_cell hX3 1 _ rfl
  have af1 := heap_frozen hX3 1
  have a2 := heap_cell hX3 2 _ rfl
  have af2 := heap_frozen hX3 2
  have a3 := heap_cell hX3 3 _ rfl
  have af3 := heap_frozen hX3 3
  clear hB4 hbb hy3 hX3 HX3 HI3 HB3 HD HW HQ
  rcases h with ⟨h1, h2⟩ | ⟨h1, h2, h3, h4⟩ | ⟨h1, h2, h3, h4⟩
  · go_wp2_with fail
    go_ret
    exact ⟨rfl, HB4.out⟩
  · go_wp2_with fail
    refine (same_any _ _ (dep x) x y _ _ _ (Nat.le_refl _) HI4.out HJ4.out).mono ?_
    rintro e1 w5 ⟨rfl, hb5⟩
    rw [h4]
    have HB5 := Lib.hid (HB4.out.trans (hb5.mono HB4.out.size))
    clear hb5
    go_wp2_with fail
    go_ret
    exact ⟨rfl, HB5.out⟩
  · go_wp2_with fail
    go_ret
    exact ⟨rfl, HB4.out⟩

theorem whole_walk (s : ByteArray) (w : World) (hH : HeadOK w) (hE : EnvE w) (hs : s.size ≤ maxLen) :
    Calls Tryz.prog 9 #[.string s] w fun e w' => e = .returned (.bool true) ∧ Below w.heap.size w w' := by
  have hql := cut_le s
  generalize hq : s.extract 0 (min s.size 700) = q at hql
  refine whole_of s q (decI q 0).1 (wholeI q).1 (decI q 0).2.1 (decI q 0).2.2 (wholeI q).2 w hH hE hs hq hql rfl rfl ?_
  rw [wholeI_dec]
  have hbad := decI_bad q 0
  generalize decI q 0 = t at *
  obtain ⟨x, a, e⟩ := t
  simp only at hbad ⊢
  by_cases he : e = 0
  · by_cases ha : a = (q.size : Int)
    · rw [if_neg (by omega)]
      exact .inr (.inl ⟨by simp [he], by simp [he], by simp [ha], sameB_self _⟩)
    · rw [if_pos ⟨he, ha⟩]
      exact .inr (.inr ⟨by simp [he], by simp, by simp, by simpa using ha⟩)
  · rw [if_neg (fun h => he h.1)]
    exact .inl ⟨by simpa using he, by simp⟩
end Go.Proofs.YtljfgchmogdljaaGreatDoor
