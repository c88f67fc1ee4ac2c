/- What shown, cut and Cut, of the statements' package 04, answer; boxes of items. -/
import Derived.Test.YtljfgchmogdljaaGreatDoorICutA
import Derived.Test.YtljfgchmogdljaaGreatDoorG9
set_option linter.unusedVariables false
set_option linter.unusedSimpArgs false
namespace Go.Proofs.YtljfgchmogdljaaGreatDoor
open Go.RowKit

theorem cut_le (s : ByteArray) : (s.extract 0 (min s.size 700)).size ≤ 700 := by rw [ByteArray.size_extract]; omega

set_option maxHeartbeats 400000 in
theorem lawCut_any (s : ByteArray) (w : World) (hs : s.size ≤ maxLen) :
    Calls Tryz.prog 12 #[.string s] w fun e w' => e = .returned (.string (s.extract 0 (min s.size 700))) ∧ w = w' := by
  unfold maxLen at hs
  have e1 : (min (s.size : Int) 700).toNat = min s.size 700 := by omega
  go_enter Tryz.func12, Tryz.ntmps12
  go_wp2
  go_ret
  exact ⟨rfl, rfl⟩

/-- The four cells of a box, written anew. -/
theorem box4 {W : World} {B : Nat} {a b c d : Value} {t : TypeId} (h : W.heap[B]? = some (.cells #[a, b, c, d] t (0, 0))) (v0 v1 v2 v3 : Value) : ((((W.setCell ⟨B, 0, none⟩ v0).setCell ⟨B, 1, none⟩ v1).setCell ⟨B, 2, none⟩ v2).setCell ⟨B, 3, none⟩ v3).heap[B]? = some (.cells #[v0, v1, v2, v3] t (0, 0)) := by
  have := heap_set (heap_set (heap_set (heap_set h 0 v0) 1 v1) 2 v2) 3 v3
  simpa using this
theorem box4_other {W : World} {B b : Nat} (h : b ≠ B) (v0 v1 v2 v3 : Value) : ((((W.setCell ⟨B, 0, none⟩ v0).setCell ⟨B, 1, none⟩ v1).setCell ⟨B, 2, none⟩ v2).setCell ⟨B, 3, none⟩ v3).heap[b]? = W.heap[b]? :=
  (Below.heap_setCell _ _ _ _ h).trans ((Below.heap_setCell _ _ _ _ h).trans ((Below.heap_setCell _ _ _ _ h).trans (Below.heap_setCell _ _ _ _ h)))
theorem ItV.set4 {ok : Nat → Prop} {W : World} {B : Nat} {x : Itm} {v : Value} (h : ItV ok W x v) (hB : ¬ ok B) (v0 v1 v2 v3 : Value) : ItV ok ((((W.setCell ⟨B, 0, none⟩ v0).setCell ⟨B, 1, none⟩ v1).setCell ⟨B, 2, none⟩ v2).setCell ⟨B, 3, none⟩ v3) x v :=
  ItV.keep (fun a v hb e => ⟨(cell_heap (box4_other (fun e' => hB (by rw [← e']; exact hb)) _ _ _ _)).trans e, hb⟩) x v h
theorem below_set4 {n B : Nat} {w W : World} (h : Below n w W) (hB : n ≤ B) (v0 v1 v2 v3 : Value) : Below n w ((((W.setCell ⟨B, 0, none⟩ v0).setCell ⟨B, 1, none⟩ v1).setCell ⟨B, 2, none⟩ v2).setCell ⟨B, 3, none⟩ v3) :=
  (((h.setCell hB _).setCell hB _).setCell hB _).setCell hB _

set_option maxRecDepth 100000 in
set_option maxHeartbeats 1000000 in
theorem lawCutI_any (ok : Nat → Prop) (x : Itm) (v : Value) (w : World) (hx : ItV ok w x v) :
    Calls Tryz.prog 11 #[v] w (CutR (cutI 6 x) w) := by
  cases x with
  | mk k n s l =>
    have hx' := hx
    simp only [ItV] at hx'
    obtain ⟨p, cap, rfl, _⟩ := hx'
    have hB0 : Below w.heap.size w ((w.alloc (.cells #[.int .i64 k, .int .i64 n, .string ⟨s.toArray⟩, .slice p l.length cap] 24)).alloc (.cells #[.int .i64 0, .int .i64 0, .string ⟨#[]⟩, .slice none 0 0] 24)) := ((Below.refl _ _).alloc (Nat.le_refl _) _).alloc (by simp) _
    have hZ : ((w.alloc (.cells #[.int .i64 k, .int .i64 n, .string ⟨s.toArray⟩, .slice p l.length cap] 24)).alloc (.cells #[.int .i64 0, .int .i64 0, .string ⟨#[]⟩, .slice none 0 0] 24)).heap[w.heap.size + 1]? = some (.cells #[.int .i64 0, .int .i64 0, .string ⟨#[]⟩, .slice none 0 0] 24 (0, 0)) := by
      have := World.alloc_heap_new (w.alloc (.cells #[.int .i64 k, .int .i64 n, .string ⟨s.toArray⟩, .slice p l.length cap] 24)) (.cells #[.int .i64 0, .int .i64 0, .string ⟨#[]⟩, .slice none 0 0] 24)
      rw [show (w.alloc (.cells #[.int .i64 k, .int .i64 n, .string ⟨s.toArray⟩, .slice p l.length cap] 24)).heap.size = w.heap.size + 1 by simp] at this
      exact this
    have HC := Lib.hid (cutAt_any ok 6 (by omega) _ _ _ (hx.below hB0))
    have HZ := Lib.hid hZ
    have HB0 := Lib.hid hB0
    have hsz : ((w.alloc (.cells #[.int .i64 k, .int .i64 n, .string ⟨s.toArray⟩, .slice p l.length cap] 24)).alloc (.cells #[.int .i64 0, .int .i64 0, .string ⟨#[]⟩, .slice none 0 0] 24)).heap.size = w.heap.size + 1 + 1 := by simp
    clear hx hB0 hZ
    generalize cutI 6 (.mk k n s l) = y at *
    obtain ⟨len, hlen⟩ : ∃ len, l.length = len := ⟨_, rfl⟩
    rw [hlen] at HC HZ HB0 hsz ⊢
    clear hlen
    go_enter Tryz.func11, Tryz.ntmps11
    go_wp2_with fail
    refine HC.out.mono ?_
    clear HC
    rintro e' w1 ⟨k', nn, q, p', l', cap', rfl, hxv, hb1⟩
    have hZ1 := (hb1.block _ (lt_of_heap HZ.out)).trans HZ.out
    have k0 := heap_cell hZ1 0 _ rfl
    have f0 := heap_frozen hZ1 0
    have k1 := heap_cell hZ1 1 _ rfl
    have f1 := heap_frozen hZ1 1
    have k2 := heap_cell hZ1 2 _ rfl
    have f2 := heap_frozen hZ1 2
    have k3 := heap_cell hZ1 3 _ rfl
    have f3 := heap_frozen hZ1 3
    have HXV := Lib.hid hxv
    have HB1 := Lib.hid (HB0.out.trans (hb1.mono HB0.out.size))
    clear hxv hb1 hZ1 HZ HB0
    go_wp2_with fail
    refine bodyPost_ret (v := .agg #[.int .i64 k', .int .i64 nn, .string q, .slice p' l' cap']) (by simp [results, Tryz.results11, go_sem, k0, k1, k2, k3]) rfl ⟨k', nn, q, p', l', cap', rfl, ?_, ?_⟩
    · exact ItV.mono (HXV.out.set4 (B := w.heap.size + 1) (by omega) _ _ _ _) (fun b _ hb => by omega)
    · exact below_set4 HB1.out (by omega) _ _ _ _

def shItm : Itm := .mk 4 0 [] [.mk 0 1 [] [], .mk 3 0 [47, 47, 97, 47, 98] []]

set_option maxRecDepth 100000 in
set_option maxHeartbeats 4000000 in
theorem shown_any (w : World) (hH : HeadOK w) (hE : EnvE w) :
    Calls Tryz.prog 10 #[] w fun e w' => e = .returned (.bool true) ∧ Below w.heap.size w w' := by
  have r1 : wholeI ⟨#[130, 1, 101, 47, 47, 97, 47, 98]⟩ = (shItm, 0) := by kernel_rfl
  have r2 := Lib.hid (show iencB shItm = (⟨#[130, 1, 101, 47, 47, 97, 47, 98]⟩, 0) by kernel_rfl)
  have r3 : wholeI ⟨#[97, 10]⟩ = (.mk 0 0 [] [], 20) := by kernel_rfl
  have r4 := Lib.hid (show iencB (.mk 0 1 [97] []) = (⟨#[]⟩, 40) by kernel_rfl)
  have r5 : decI ⟨#[97, 66, 98, 99]⟩ 1 = (.mk 2 0 [98, 99] [], 4, 0) := by kernel_rfl
  have HC1 := iwhole_any ⟨#[130, 1, 101, 47, 47, 97, 47, 98]⟩ w hH hE (by decide)
  rw [r1] at HC1
  simp only at HC1
  have HC := Lib.hid HC1
  have HH := Lib.hid hH
  have HE := Lib.hid hE
  clear HC1 hH hE r1
  go_enter Tryz.func10, Tryz.ntmps10
  go_wp2_with fail
  refine HC.out.mono ?_
  clear HC
  rintro e w1 ⟨k, nn, q, p, l, cap, rfl, hx, hb1⟩
  simp only [shItm, ItV, ItsV] at hx
  obtain ⟨p', cap', e1, _, _, _, _, _, ⟨a, c0, c1, c2, c3, rfl, _, g0, g1, g2, g3, i1⟩, ⟨a', d0, d1, d2, d3, ea, _, j0, j1, j2, j3, i2⟩, _⟩ := hx
  obtain rfl : a = a' := by simpa using ea
  obtain ⟨_, _, e2, _⟩ := i1
  obtain ⟨_, _, e3, _⟩ := i2
  simp only [Value.agg.injEq, Array.mk.injEq, List.cons.injEq, and_true, Value.int.injEq, true_and, Value.string.injEq, Value.slice.injEq] at e1 e2 e3
  obtain ⟨rfl, rfl, rfl, rfl, rfl, rfl⟩ := e1
  obtain ⟨rfl, rfl, rfl, rfl⟩ := e2
  obtain ⟨rfl, rfl, rfl, rfl⟩ := e3
  have n1 : w1.cell? ⟨a.block, a.off + 1, none⟩ = some (.int .i64 1) := by
    rw [show 0 * 4 + 1 = 1 from rfl, add_pos _ _ (by decide)] at g1; exact g1
  have t2 : w1.cell? ⟨a.block, a.off + 4 + 2, none⟩ = some (.string ⟨#[47, 47, 97, 47, 98]⟩) := by
    rw [show (0 + 1) * 4 + 2 = 6 from rfl, add_pos _ _ (by decide)] at j2; exact j2
  simp only [List.length_cons, List.length_nil, Nat.zero_add, Nat.reduceAdd]
  have hB2 : Below w1.heap.size w1 ((w1.alloc (.cells #[.int .i64 4, .int .i64 0, .string ⟨#[]⟩, .slice (some a) 2 cap] 24)).alloc (.cells #[.int .i64 0, .int .i64 1, .string ⟨#[]⟩, .slice none 0 0, .int .i64 3, .int .i64 0, .string ⟨#[47, 47, 97, 47, 98]⟩, .slice none 0 0] 24)) := ((Below.refl _ _).alloc (Nat.le_refl _) _).alloc (by simp) _
  have hx2 : ((w1.alloc (.cells #[.int .i64 4, .int .i64 0, .string ⟨#[]⟩, .slice (some a) 2 cap] 24)).alloc (.cells #[.int .i64 0, .int .i64 1, .string ⟨#[]⟩, .slice none 0 0, .int .i64 3, .int .i64 0, .string ⟨#[47, 47, 97, 47, 98]⟩, .slice none 0 0] 24)).heap[w1.heap.size]? = some (.cells #[.int .i64 4, .int .i64 0, .string ⟨#[]⟩, .slice (some a) 2 cap] 24 (0, 0)) := (Below.heap_alloc _ _ _ (by simp)).trans (World.alloc_heap_new w1 _)
  have hy2 : ((w1.alloc (.cells #[.int .i64 4, .int .i64 0, .string ⟨#[]⟩, .slice (some a) 2 cap] 24)).alloc (.cells #[.int .i64 0, .int .i64 1, .string ⟨#[]⟩, .slice none 0 0, .int .i64 3, .int .i64 0, .string ⟨#[47, 47, 97, 47, 98]⟩, .slice none 0 0] 24)).heap[w1.heap.size + 1]? = some (.cells #[.int .i64 0, .int .i64 1, .string ⟨#[]⟩, .slice none 0 0, .int .i64 3, .int .i64 0, .string ⟨#[47, 47, 97, 47, 98]⟩, .slice none 0 0] 24 (0, 0)) := by
    have := World.alloc_heap_new (w1.alloc (.cells #[.int .i64 4, .int .i64 0, .string ⟨#[]⟩, .slice (some a) 2 cap] 24)) (.cells #[.int .i64 0, .int .i64 1, .string ⟨#[]⟩, .slice none 0 0, .int .i64 3, .int .i64 0, .string ⟨#[47, 47, 97, 47, 98]⟩, .slice none 0 0] 24)
    rw [show (w1.alloc (.cells #[.int .i64 4, .int .i64 0, .string ⟨#[]⟩, .slice (some a) 2 cap] 24)).heap.size = w1.heap.size + 1 by simp] at this
    exact this
  have HIT := Lib.hid (show ItV (fun _ => True) _ shItm (.agg #[.int .i64 4, .int .i64 0, .string ⟨#[]⟩, .slice (some ⟨w1.heap.size + 1, 0, none⟩) 2 2]) by
    simp only [shItm, ItV, ItsV]
    refine ⟨_, 2, rfl, by decide, by decide, by decide, by decide, by decide, ⟨_, _, _, _, _, rfl, trivial, ?_, ?_, ?_, ?_, none, 0, rfl, by decide, by decide, by decide, by decide, by decide, trivial⟩, ⟨_, _, _, _, _, rfl, trivial, ?_, ?_, ?_, ?_, none, 0, rfl, by decide, by decide, by decide, by decide, by decide, trivial⟩, trivial⟩
    all_goals rw [base_add]
    · exact heap_cell hy2 0 _ rfl
    · exact heap_cell hy2 1 _ rfl
    · exact heap_cell hy2 2 _ rfl
    · exact heap_cell hy2 3 _ rfl
    · exact heap_cell hy2 4 _ rfl
    · exact heap_cell hy2 5 _ rfl
    · exact heap_cell hy2 6 _ rfl
    · exact heap_cell hy2 7 _ rfl)
  have HB1 := Lib.hid hb1
  have HN1 := Lib.hid n1
  have HT2 := Lib.hid t2
  have HX2 := Lib.hid hx2
  have HB2 := Lib.hid hB2
  clear g0 g1 g2 g3 j0 j1 j2 j3 ea hy2 n1 t2 hx2 hB2 hb1
  go_wp2_with fail
  have hBw2 := HB1.out.trans (HB2.out.mono HB1.out.size)
  refine (iencode_any _ shItm _ _ (HH.out.below hBw2) (HE.out.below hBw2) HIT.out (by decide)).mono ?_
  rintro e w3 ⟨rfl, hb3⟩
  rw [r2.out]
  have HB3 := Lib.hid (HB2.out.trans (hb3.mono HB2.out.size))
  have HX3 := Lib.hid ((hb3.block _ (lt_of_heap HX2.out)).trans HX2.out)
  clear hBw2 hb3 HB2 HX2 HIT r2
  go_wp2_with fail
  have hBw3 := HB1.out.trans (HB3.out.mono HB1.out.size)
  have h3 := iwhole_any ⟨#[97, 10]⟩ w3 (HH.out.below hBw3) (HE.out.below hBw3) (by decide)
  rw [r3] at h3
  refine h3.mono ?_
  rintro e w4 ⟨k4, n4, q4, p4, l4, c4, rfl, _, hb4⟩
  have hB4 := HB3.out.trans (hb4.mono HB3.out.size)
  have HB4 := Lib.hid (hB4.alloc hB4.size (.cells #[.int .i64 k4, .int .i64 n4, .string q4, .slice p4 l4 c4] 24))
  have hX4 := (hb4.block _ (lt_of_heap HX3.out)).trans HX3.out
  have HX4 := Lib.hid ((Below.heap_alloc w4 (.cells #[.int .i64 k4, .int .i64 n4, .string q4, .slice p4 l4 c4] 24) _ (lt_of_heap hX4)).trans hX4)
  clear hBw3 h3 hb4 hB4 hX4 HX3 HB3 r3
  go_wp2_with fail
  have hBw4 := HB1.out.trans (HB4.out.mono HB1.out.size)
  refine (iencode_any (fun _ => True) (.mk 0 1 [97] []) _ _ (HH.out.below hBw4) (HE.out.below hBw4) (ItV.leaf 0 1 ⟨#[97]⟩ (by decide) (by decide) (by decide)) (by decide)).mono ?_
  rintro e w5 ⟨rfl, hb5⟩
  rw [r4.out]
  have HB5 := Lib.hid (HB4.out.trans (hb5.mono HB4.out.size))
  have HX5 := Lib.hid ((hb5.block _ (lt_of_heap HX4.out)).trans HX4.out)
  clear hBw4 hb5 HB4 HX4 r4
  go_wp2_with fail
  have hBw5 := HB1.out.trans (HB5.out.mono HB1.out.size)
  have h5 := idecode_any ⟨#[97, 66, 98, 99]⟩ 1 w5 (HH.out.below hBw5) (HE.out.below hBw5) (by decide)
  rw [r5] at h5
  refine h5.mono ?_
  rintro e w6 ⟨k6, n6, q6, p6, l6, c6, rfl, _, hb6⟩
  have hB6 := HB5.out.trans (hb6.mono HB5.out.size)
  have hX6 := (hb6.block _ (lt_of_heap HX5.out)).trans HX5.out
  have x3 := heap_cell hX6 3 _ rfl
  have hxl := lt_of_heap hX6
  have n1 := (hB6.cell (World.block_lt_of_cell? _ _ HN1.out)).trans HN1.out
  have t2 := (hB6.cell (World.block_lt_of_cell? _ _ HT2.out)).trans HT2.out
  have hab : a.block < w6.heap.size := World.block_lt_of_cell? w6 ⟨a.block, a.off + 1, none⟩ n1
  have HB := Lib.hid (HB1.out.trans (hB6.mono HB1.out.size))
  clear hBw5 h5 hb6 hB6 hX6 HX5 HB5 r5 HN1 HT2 HB1
  go_wp2_with fail
  go_ret
  trace_state
  exact ⟨rfl, HB.out.alloc HB.out.size _⟩
end Go.Proofs.YtljfgchmogdljaaGreatDoor
