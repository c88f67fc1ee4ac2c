/- The walk of EidWords. -/
import Derived.Test.YtmpokhdljlnllaaDoorEBoxes
set_option linter.unusedVariables false
set_option linter.unusedSimpArgs false
namespace Go.Proofs.YtmpokhdljlnllaaDoor
open Go.RowKit


theorem words_pure {k : Int} {nd sv : ByteArray} {a b : Int} (hr : nmR (nmO k nd sv a b) = true) : ∃ p q : Bool, ((hfS (nmO k nd sv a b)).toList == [105, 112, 110]) = p ∧ (k == 2) = p ∧ ((hfS (nmO k nd sv a b)).toList == [100, 116, 110]) = !p ∧ ((rsS (nmO k nd sv a b)).toList == [110, 111, 110, 101]) = q ∧ (k == 0) = q ∧ (hfS (nmO k nd sv a b) ++ ⟨#[58]⟩ ++ rsS (nmO k nd sv a b)).size ≤ 47 := by
  have hsz : ∀ x y : ByteArray, (x ++ ⟨#[58]⟩ ++ y).size = x.size + 1 + y.size := fun x y => by rw [ByteArray.size_append, ByteArray.size_append]; rfl
  rw [hsz, toList_beq, toList_beq, toList_beq]
  rcases hv_cases hr with ⟨rfl, h1, h2⟩ | ⟨rfl, hn, hs, h1, h2⟩ | ⟨rfl, ha0, ha1, hb0, hb1, h1, h2⟩
  · rw [h1, h2]
    exact ⟨false, true, by decide, by decide, by decide, by decide, by decide, by decide⟩
  · rw [h1, h2]
    refine ⟨false, false, by decide, by decide, by decide, ?_, by decide, ?_⟩
    · have : ((⟨#[47, 47]⟩ : ByteArray) ++ nd ++ ⟨#[47]⟩ ++ sv).data.toList = 47 :: 47 :: (nd.data.toList ++ 47 :: sv.data.toList) := by simp
      rw [this]
      simp
    · rw [ByteArray.size_append, ByteArray.size_append, ByteArray.size_append]
      show 3 + 1 + (2 + nd.size + 1 + sv.size) ≤ 47
      omega
  · rw [h1, h2]
    have l1 : (numL a.toNat).length ≤ 9 := numL_len (by omega)
    have l2 : (numL b.toNat).length ≤ 9 := numL_len (by omega)
    refine ⟨true, false, by decide, by decide, by decide, ?_, by decide, ?_⟩
    · have h46 : (46 : UInt8) ∈ ((⟨(numL a.toNat).toArray⟩ : ByteArray) ++ ⟨#[46]⟩ ++ ⟨(numL b.toNat).toArray⟩).data.toList := by simp
      rw [decide_eq_false_iff_not]
      intro h
      rw [h] at h46
      exact absurd h46 (by decide)
    · rw [ByteArray.size_append, ByteArray.size_append]
      show 3 + 1 + ((numL a.toNat).toArray.size + 1 + (numL b.toNat).toArray.size) ≤ 47
      simp only [List.size_toArray]
      omega

set_option maxRecDepth 100000 in
set_option maxHeartbeats 4000000 in
theorem words_walk (k : Int) (nd sv : ByteArray) (a b : Int) (w : World) (hE : EnvN w) (ha : I64 a) (hb : I64 b) (hn : nd.size ≤ maxLen) (hs : sv.size ≤ maxLen) :
    Calls Tryd.prog 7 #[nmV k nd sv a b] w fun e w' => e = .returned (.bool true) ∧ Below w.heap.size w w' := by
  have HE := Lib.hid hE
  have HCUT := Lib.hid (fun W => lCut_any k nd sv a b W hn hs)
  clear hE hn hs
  generalize c21 nd = x1 at *
  generalize c21 sv = x2 at *
  have HHV := Lib.hid (fun W hW => halves_any k x1 x2 a b W hW ha hb)
  have HPR := Lib.hid (fun W hW => print_any k x1 x2 a b W hW ha hb)
  clear ha hb
  unfold txS erS at *
  have hp := @words_pure k x1 x2 a b
  have h1 : nmR (nmO k x1 x2 a b) = false → hfS (nmO k x1 x2 a b) = ⟨#[]⟩ := fun hr => by unfold hfS; rw [hr]; rfl
  have h2 : nmR (nmO k x1 x2 a b) = false → rsS (nmO k x1 x2 a b) = ⟨#[]⟩ := fun hr => by unfold rsS; rw [hr]; rfl
  unfold nmV at *
  generalize nmO k x1 x2 a b = o at *
  generalize hfS o = s at *
  generalize rsS o = t at *
  generalize nmR o = r at *
  clear o
  generalize ht : s ++ ⟨#[58]⟩ ++ t = u at *
  clear ht
  cases r with
  | false =>
    obtain rfl := h1 rfl
    obtain rfl := h2 rfl
    clear hp h1 h2
    simp only [Bool.false_eq_true, if_false] at HHV HPR
    go_enter Tryd.func7, Tryd.ntmps7
    go_wp2_with fail
    have cx0 : (w.alloc (.cells #[.int .i64 k, .string nd, .string sv, .int .i64 a, .int .i64 b] 23)).cell? ⟨w.heap.size, 0, none⟩ = some (.int .i64 k) := by go_simp
    have cxf0 : (w.alloc (.cells #[.int .i64 k, .string nd, .string sv, .int .i64 a, .int .i64 b] 23)).frozen? ⟨w.heap.size, 0, none⟩ = false := by go_simp
    have cx1 : (w.alloc (.cells #[.int .i64 k, .string nd, .string sv, .int .i64 a, .int .i64 b] 23)).cell? ⟨w.heap.size, 1, none⟩ = some (.string nd) := by go_simp
    have cxf1 : (w.alloc (.cells #[.int .i64 k, .string nd, .string sv, .int .i64 a, .int .i64 b] 23)).frozen? ⟨w.heap.size, 1, none⟩ = false := by go_simp
    have cx2 : (w.alloc (.cells #[.int .i64 k, .string nd, .string sv, .int .i64 a, .int .i64 b] 23)).cell? ⟨w.heap.size, 2, none⟩ = some (.string sv) := by go_simp
    have cxf2 : (w.alloc (.cells #[.int .i64 k, .string nd, .string sv, .int .i64 a, .int .i64 b] 23)).frozen? ⟨w.heap.size, 2, none⟩ = false := by go_simp
    have cx3 : (w.alloc (.cells #[.int .i64 k, .string nd, .string sv, .int .i64 a, .int .i64 b] 23)).cell? ⟨w.heap.size, 3, none⟩ = some (.int .i64 a) := by go_simp
    have cxf3 : (w.alloc (.cells #[.int .i64 k, .string nd, .string sv, .int .i64 a, .int .i64 b] 23)).frozen? ⟨w.heap.size, 3, none⟩ = false := by go_simp
    have cx4 : (w.alloc (.cells #[.int .i64 k, .string nd, .string sv, .int .i64 a, .int .i64 b] 23)).cell? ⟨w.heap.size, 4, none⟩ = some (.int .i64 b) := by go_simp
    have cxf4 : (w.alloc (.cells #[.int .i64 k, .string nd, .string sv, .int .i64 a, .int .i64 b] 23)).frozen? ⟨w.heap.size, 4, none⟩ = false := by go_simp
    have HB := Lib.hid (show Below w.heap.size w (w.alloc (.cells #[.int .i64 k, .string nd, .string sv, .int .i64 a, .int .i64 b] 23)) from below_alloc_l (Below.refl _ _))
    generalize hh1 : (w.alloc (.cells #[.int .i64 k, .string nd, .string sv, .int .i64 a, .int .i64 b] 23)) = v1 at *
    clear hh1
    refine (shown_any _ (HE.out.below HB.out)).mono ?_
    rintro e w1 ⟨rfl, hb⟩
    replace cxf0 := (hb.frozen (World.block_lt_of_cell? _ _ cx0)).trans cxf0
    replace cx0 := (hb.cell (World.block_lt_of_cell? _ _ cx0)).trans cx0
    replace cxf1 := (hb.frozen (World.block_lt_of_cell? _ _ cx1)).trans cxf1
    replace cx1 := (hb.cell (World.block_lt_of_cell? _ _ cx1)).trans cx1
    replace cxf2 := (hb.frozen (World.block_lt_of_cell? _ _ cx2)).trans cxf2
    replace cx2 := (hb.cell (World.block_lt_of_cell? _ _ cx2)).trans cx2
    replace cxf3 := (hb.frozen (World.block_lt_of_cell? _ _ cx3)).trans cxf3
    replace cx3 := (hb.cell (World.block_lt_of_cell? _ _ cx3)).trans cx3
    replace cxf4 := (hb.frozen (World.block_lt_of_cell? _ _ cx4)).trans cxf4
    replace cx4 := (hb.cell (World.block_lt_of_cell? _ _ cx4)).trans cx4
    replace HB := Lib.hid (HB.out.trans (hb.mono HB.out.size))
    clear hb
    go_wp2_with fail
    refine (HCUT.out _).mono ?_
    rintro e w2 ⟨rfl, hb⟩
    replace cxf0 := (hb.frozen (World.block_lt_of_cell? _ _ cx0)).trans cxf0
    replace cx0 := (hb.cell (World.block_lt_of_cell? _ _ cx0)).trans cx0
    replace cxf1 := (hb.frozen (World.block_lt_of_cell? _ _ cx1)).trans cxf1
    replace cx1 := (hb.cell (World.block_lt_of_cell? _ _ cx1)).trans cx1
    replace cxf2 := (hb.frozen (World.block_lt_of_cell? _ _ cx2)).trans cxf2
    replace cx2 := (hb.cell (World.block_lt_of_cell? _ _ cx2)).trans cx2
    replace cxf3 := (hb.frozen (World.block_lt_of_cell? _ _ cx3)).trans cxf3
    replace cx3 := (hb.cell (World.block_lt_of_cell? _ _ cx3)).trans cx3
    replace cxf4 := (hb.frozen (World.block_lt_of_cell? _ _ cx4)).trans cxf4
    replace cx4 := (hb.cell (World.block_lt_of_cell? _ _ cx4)).trans cx4
    replace HB := Lib.hid (HB.out.trans (hb.mono HB.out.size))
    clear hb
    go_wp2_with fail
    have k5 := set5 (v0 := .int .i64 k) (v1 := .string x1) (v2 := .string x2) (v3 := .int .i64 a) (v4 := .int .i64 b) cx0 cx1 cx2 cx3 cx4
    replace cxf0 : (((((w2.setCell ⟨w.heap.size, 0, none⟩ (.int .i64 k)).setCell ⟨w.heap.size, 1, none⟩ (.string x1)).setCell ⟨w.heap.size, 2, none⟩ (.string x2)).setCell ⟨w.heap.size, 3, none⟩ (.int .i64 a)).setCell ⟨w.heap.size, 4, none⟩ (.int .i64 b)).frozen? ⟨w.heap.size, 0, none⟩ = false := frozen_set5 cxf0
    replace cxf1 : (((((w2.setCell ⟨w.heap.size, 0, none⟩ (.int .i64 k)).setCell ⟨w.heap.size, 1, none⟩ (.string x1)).setCell ⟨w.heap.size, 2, none⟩ (.string x2)).setCell ⟨w.heap.size, 3, none⟩ (.int .i64 a)).setCell ⟨w.heap.size, 4, none⟩ (.int .i64 b)).frozen? ⟨w.heap.size, 1, none⟩ = false := frozen_set5 cxf1
    replace cxf2 : (((((w2.setCell ⟨w.heap.size, 0, none⟩ (.int .i64 k)).setCell ⟨w.heap.size, 1, none⟩ (.string x1)).setCell ⟨w.heap.size, 2, none⟩ (.string x2)).setCell ⟨w.heap.size, 3, none⟩ (.int .i64 a)).setCell ⟨w.heap.size, 4, none⟩ (.int .i64 b)).frozen? ⟨w.heap.size, 2, none⟩ = false := frozen_set5 cxf2
    replace cxf3 : (((((w2.setCell ⟨w.heap.size, 0, none⟩ (.int .i64 k)).setCell ⟨w.heap.size, 1, none⟩ (.string x1)).setCell ⟨w.heap.size, 2, none⟩ (.string x2)).setCell ⟨w.heap.size, 3, none⟩ (.int .i64 a)).setCell ⟨w.heap.size, 4, none⟩ (.int .i64 b)).frozen? ⟨w.heap.size, 3, none⟩ = false := frozen_set5 cxf3
    replace cxf4 : (((((w2.setCell ⟨w.heap.size, 0, none⟩ (.int .i64 k)).setCell ⟨w.heap.size, 1, none⟩ (.string x1)).setCell ⟨w.heap.size, 2, none⟩ (.string x2)).setCell ⟨w.heap.size, 3, none⟩ (.int .i64 a)).setCell ⟨w.heap.size, 4, none⟩ (.int .i64 b)).frozen? ⟨w.heap.size, 4, none⟩ = false := frozen_set5 cxf4
    clear cx0 cx1 cx2 cx3 cx4
    obtain ⟨cx0, cx1, cx2, cx3, cx4⟩ := k5
    have hge : w.heap.size ≤ w.heap.size := by omega
    replace HB := Lib.hid (show Below w.heap.size w (((((w2.setCell ⟨w.heap.size, 0, none⟩ (.int .i64 k)).setCell ⟨w.heap.size, 1, none⟩ (.string x1)).setCell ⟨w.heap.size, 2, none⟩ (.string x2)).setCell ⟨w.heap.size, 3, none⟩ (.int .i64 a)).setCell ⟨w.heap.size, 4, none⟩ (.int .i64 b)) from below_set5 (R := w.heap.size) (v0 := .int .i64 k) (v1 := .string x1) (v2 := .string x2) (v3 := .int .i64 a) (v4 := .int .i64 b) HB.out hge)
    generalize hh2 : (((((w2.setCell ⟨w.heap.size, 0, none⟩ (.int .i64 k)).setCell ⟨w.heap.size, 1, none⟩ (.string x1)).setCell ⟨w.heap.size, 2, none⟩ (.string x2)).setCell ⟨w.heap.size, 3, none⟩ (.int .i64 a)).setCell ⟨w.heap.size, 4, none⟩ (.int .i64 b)) = v2 at *
    clear hh2
    clear hge
    refine (HHV.out _ (HE.out.below HB.out)).mono ?_
    rintro e w3 ⟨rfl, hb⟩
    replace cxf0 := (hb.frozen (World.block_lt_of_cell? _ _ cx0)).trans cxf0
    replace cx0 := (hb.cell (World.block_lt_of_cell? _ _ cx0)).trans cx0
    replace cxf1 := (hb.frozen (World.block_lt_of_cell? _ _ cx1)).trans cxf1
    replace cx1 := (hb.cell (World.block_lt_of_cell? _ _ cx1)).trans cx1
    replace cxf2 := (hb.frozen (World.block_lt_of_cell? _ _ cx2)).trans cxf2
    replace cx2 := (hb.cell (World.block_lt_of_cell? _ _ cx2)).trans cx2
    replace cxf3 := (hb.frozen (World.block_lt_of_cell? _ _ cx3)).trans cxf3
    replace cx3 := (hb.cell (World.block_lt_of_cell? _ _ cx3)).trans cx3
    replace cxf4 := (hb.frozen (World.block_lt_of_cell? _ _ cx4)).trans cxf4
    replace cx4 := (hb.cell (World.block_lt_of_cell? _ _ cx4)).trans cx4
    replace HB := Lib.hid (HB.out.trans (hb.mono HB.out.size))
    clear hb
    go_wp2_with fail
    refine (HPR.out _ (HE.out.below HB.out)).mono ?_
    rintro e w4 ⟨rfl, hb⟩
    replace cxf0 := (hb.frozen (World.block_lt_of_cell? _ _ cx0)).trans cxf0
    replace cx0 := (hb.cell (World.block_lt_of_cell? _ _ cx0)).trans cx0
    replace cxf1 := (hb.frozen (World.block_lt_of_cell? _ _ cx1)).trans cxf1
    replace cx1 := (hb.cell (World.block_lt_of_cell? _ _ cx1)).trans cx1
    replace cxf2 := (hb.frozen (World.block_lt_of_cell? _ _ cx2)).trans cxf2
    replace cx2 := (hb.cell (World.block_lt_of_cell? _ _ cx2)).trans cx2
    replace cxf3 := (hb.frozen (World.block_lt_of_cell? _ _ cx3)).trans cxf3
    replace cx3 := (hb.cell (World.block_lt_of_cell? _ _ cx3)).trans cx3
    replace cxf4 := (hb.frozen (World.block_lt_of_cell? _ _ cx4)).trans cxf4
    replace cx4 := (hb.cell (World.block_lt_of_cell? _ _ cx4)).trans cx4
    replace HB := Lib.hid (HB.out.trans (hb.mono HB.out.size))
    clear hb
    clear HCUT HHV HPR HE
    go_wp2_with fail
    go_ret
    exact ⟨rfl, HB.out⟩
  | true =>
    obtain ⟨p, q, g1, g2, g3, g4, g5, g6⟩ := hp rfl
    clear hp h1 h2
    simp only [if_true] at HHV HPR
    go_enter Tryd.func7, Tryd.ntmps7
    go_wp2_with fail
    have cx0 : (w.alloc (.cells #[.int .i64 k, .string nd, .string sv, .int .i64 a, .int .i64 b] 23)).cell? ⟨w.heap.size, 0, none⟩ = some (.int .i64 k) := by go_simp
    have cxf0 : (w.alloc (.cells #[.int .i64 k, .string nd, .string sv, .int .i64 a, .int .i64 b] 23)).frozen? ⟨w.heap.size, 0, none⟩ = false := by go_simp
    have cx1 : (w.alloc (.cells #[.int .i64 k, .string nd, .string sv, .int .i64 a, .int .i64 b] 23)).cell? ⟨w.heap.size, 1, none⟩ = some (.string nd) := by go_simp
    have cxf1 : (w.alloc (.cells #[.int .i64 k, .string nd, .string sv, .int .i64 a, .int .i64 b] 23)).frozen? ⟨w.heap.size, 1, none⟩ = false := by go_simp
    have cx2 : (w.alloc (.cells #[.int .i64 k, .string nd, .string sv, .int .i64 a, .int .i64 b] 23)).cell? ⟨w.heap.size, 2, none⟩ = some (.string sv) := by go_simp
    have cxf2 : (w.alloc (.cells #[.int .i64 k, .string nd, .string sv, .int .i64 a, .int .i64 b] 23)).frozen? ⟨w.heap.size, 2, none⟩ = false := by go_simp
    have cx3 : (w.alloc (.cells #[.int .i64 k, .string nd, .string sv, .int .i64 a, .int .i64 b] 23)).cell? ⟨w.heap.size, 3, none⟩ = some (.int .i64 a) := by go_simp
    have cxf3 : (w.alloc (.cells #[.int .i64 k, .string nd, .string sv, .int .i64 a, .int .i64 b] 23)).frozen? ⟨w.heap.size, 3, none⟩ = false := by go_simp
    have cx4 : (w.alloc (.cells #[.int .i64 k, .string nd, .string sv, .int .i64 a, .int .i64 b] 23)).cell? ⟨w.heap.size, 4, none⟩ = some (.int .i64 b) := by go_simp
    have cxf4 : (w.alloc (.cells #[.int .i64 k, .string nd, .string sv, .int .i64 a, .int .i64 b] 23)).frozen? ⟨w.heap.size, 4, none⟩ = false := by go_simp
    have HB := Lib.hid (show Below w.heap.size w (w.alloc (.cells #[.int .i64 k, .string nd, .string sv, .int .i64 a, .int .i64 b] 23)) from below_alloc_l (Below.refl _ _))
    generalize hh1 : (w.alloc (.cells #[.int .i64 k, .string nd, .string sv, .int .i64 a, .int .i64 b] 23)) = v1 at *
    clear hh1
    refine (shown_any _ (HE.out.below HB.out)).mono ?_
    rintro e w1 ⟨rfl, hb⟩
    replace cxf0 := (hb.frozen (World.block_lt_of_cell? _ _ cx0)).trans cxf0
    replace cx0 := (hb.cell (World.block_lt_of_cell? _ _ cx0)).trans cx0
    replace cxf1 := (hb.frozen (World.block_lt_of_cell? _ _ cx1)).trans cxf1
    replace cx1 := (hb.cell (World.block_lt_of_cell? _ _ cx1)).trans cx1
    replace cxf2 := (hb.frozen (World.block_lt_of_cell? _ _ cx2)).trans cxf2
    replace cx2 := (hb.cell (World.block_lt_of_cell? _ _ cx2)).trans cx2
    replace cxf3 := (hb.frozen (World.block_lt_of_cell? _ _ cx3)).trans cxf3
    replace cx3 := (hb.cell (World.block_lt_of_cell? _ _ cx3)).trans cx3
    replace cxf4 := (hb.frozen (World.block_lt_of_cell? _ _ cx4)).trans cxf4
    replace cx4 := (hb.cell (World.block_lt_of_cell? _ _ cx4)).trans cx4
    replace HB := Lib.hid (HB.out.trans (hb.mono HB.out.size))
    clear hb
    go_wp2_with fail
    refine (HCUT.out _).mono ?_
    rintro e w2 ⟨rfl, hb⟩
    replace cxf0 := (hb.frozen (World.block_lt_of_cell? _ _ cx0)).trans cxf0
    replace cx0 := (hb.cell (World.block_lt_of_cell? _ _ cx0)).trans cx0
    replace cxf1 := (hb.frozen (World.block_lt_of_cell? _ _ cx1)).trans cxf1
    replace cx1 := (hb.cell (World.block_lt_of_cell? _ _ cx1)).trans cx1
    replace cxf2 := (hb.frozen (World.block_lt_of_cell? _ _ cx2)).trans cxf2
    replace cx2 := (hb.cell (World.block_lt_of_cell? _ _ cx2)).trans cx2
    replace cxf3 := (hb.frozen (World.block_lt_of_cell? _ _ cx3)).trans cxf3
    replace cx3 := (hb.cell (World.block_lt_of_cell? _ _ cx3)).trans cx3
    replace cxf4 := (hb.frozen (World.block_lt_of_cell? _ _ cx4)).trans cxf4
    replace cx4 := (hb.cell (World.block_lt_of_cell? _ _ cx4)).trans cx4
    replace HB := Lib.hid (HB.out.trans (hb.mono HB.out.size))
    clear hb
    go_wp2_with fail
    have k5 := set5 (v0 := .int .i64 k) (v1 := .string x1) (v2 := .string x2) (v3 := .int .i64 a) (v4 := .int .i64 b) cx0 cx1 cx2 cx3 cx4
    replace cxf0 : (((((w2.setCell ⟨w.heap.size, 0, none⟩ (.int .i64 k)).setCell ⟨w.heap.size, 1, none⟩ (.string x1)).setCell ⟨w.heap.size, 2, none⟩ (.string x2)).setCell ⟨w.heap.size, 3, none⟩ (.int .i64 a)).setCell ⟨w.heap.size, 4, none⟩ (.int .i64 b)).frozen? ⟨w.heap.size, 0, none⟩ = false := frozen_set5 cxf0
    replace cxf1 : (((((w2.setCell ⟨w.heap.size, 0, none⟩ (.int .i64 k)).setCell ⟨w.heap.size, 1, none⟩ (.string x1)).setCell ⟨w.heap.size, 2, none⟩ (.string x2)).setCell ⟨w.heap.size, 3, none⟩ (.int .i64 a)).setCell ⟨w.heap.size, 4, none⟩ (.int .i64 b)).frozen? ⟨w.heap.size, 1, none⟩ = false := frozen_set5 cxf1
    replace cxf2 : (((((w2.setCell ⟨w.heap.size, 0, none⟩ (.int .i64 k)).setCell ⟨w.heap.size, 1, none⟩ (.string x1)).setCell ⟨w.heap.size, 2, none⟩ (.string x2)).setCell ⟨w.heap.size, 3, none⟩ (.int .i64 a)).setCell ⟨w.heap.size, 4, none⟩ (.int .i64 b)).frozen? ⟨w.heap.size, 2, none⟩ = false := frozen_set5 cxf2
    replace cxf3 : (((((w2.setCell ⟨w.heap.size, 0, none⟩ (.int .i64 k)).setCell ⟨w.heap.size, 1, none⟩ (.string x1)).setCell ⟨w.heap.size, 2, none⟩ (.string x2)).setCell ⟨w.heap.size, 3, none⟩ (.int .i64 a)).setCell ⟨w.heap.size, 4, none⟩ (.int .i64 b)).frozen? ⟨w.heap.size, 3, none⟩ = false := frozen_set5 cxf3
    replace cxf4 : (((((w2.setCell ⟨w.heap.size, 0, none⟩ (.int .i64 k)).setCell ⟨w.heap.size, 1, none⟩ (.string x1)).setCell ⟨w.heap.size, 2, none⟩ (.string x2)).setCell ⟨w.heap.size, 3, none⟩ (.int .i64 a)).setCell ⟨w.heap.size, 4, none⟩ (.int .i64 b)).frozen? ⟨w.heap.size, 4, none⟩ = false := frozen_set5 cxf4
    clear cx0 cx1 cx2 cx3 cx4
    obtain ⟨cx0, cx1, cx2, cx3, cx4⟩ := k5
    have hge : w.heap.size ≤ w.heap.size := by omega
    replace HB := Lib.hid (show Below w.heap.size w (((((w2.setCell ⟨w.heap.size, 0, none⟩ (.int .i64 k)).setCell ⟨w.heap.size, 1, none⟩ (.string x1)).setCell ⟨w.heap.size, 2, none⟩ (.string x2)).setCell ⟨w.heap.size, 3, none⟩ (.int .i64 a)).setCell ⟨w.heap.size, 4, none⟩ (.int .i64 b)) from below_set5 (R := w.heap.size) (v0 := .int .i64 k) (v1 := .string x1) (v2 := .string x2) (v3 := .int .i64 a) (v4 := .int .i64 b) HB.out hge)
    generalize hh2 : (((((w2.setCell ⟨w.heap.size, 0, none⟩ (.int .i64 k)).setCell ⟨w.heap.size, 1, none⟩ (.string x1)).setCell ⟨w.heap.size, 2, none⟩ (.string x2)).setCell ⟨w.heap.size, 3, none⟩ (.int .i64 a)).setCell ⟨w.heap.size, 4, none⟩ (.int .i64 b)) = v2 at *
    clear hh2
    clear hge
    refine (HHV.out _ (HE.out.below HB.out)).mono ?_
    rintro e w3 ⟨rfl, hb⟩
    replace cxf0 := (hb.frozen (World.block_lt_of_cell? _ _ cx0)).trans cxf0
    replace cx0 := (hb.cell (World.block_lt_of_cell? _ _ cx0)).trans cx0
    replace cxf1 := (hb.frozen (World.block_lt_of_cell? _ _ cx1)).trans cxf1
    replace cx1 := (hb.cell (World.block_lt_of_cell? _ _ cx1)).trans cx1
    replace cxf2 := (hb.frozen (World.block_lt_of_cell? _ _ cx2)).trans cxf2
    replace cx2 := (hb.cell (World.block_lt_of_cell? _ _ cx2)).trans cx2
    replace cxf3 := (hb.frozen (World.block_lt_of_cell? _ _ cx3)).trans cxf3
    replace cx3 := (hb.cell (World.block_lt_of_cell? _ _ cx3)).trans cx3
    replace cxf4 := (hb.frozen (World.block_lt_of_cell? _ _ cx4)).trans cxf4
    replace cx4 := (hb.cell (World.block_lt_of_cell? _ _ cx4)).trans cx4
    replace HB := Lib.hid (HB.out.trans (hb.mono HB.out.size))
    clear hb
    go_wp2_with fail
    refine (HPR.out _ (HE.out.below HB.out)).mono ?_
    rintro e w4 ⟨rfl, hb⟩
    replace cxf0 := (hb.frozen (World.block_lt_of_cell? _ _ cx0)).trans cxf0
    replace cx0 := (hb.cell (World.block_lt_of_cell? _ _ cx0)).trans cx0
    replace cxf1 := (hb.frozen (World.block_lt_of_cell? _ _ cx1)).trans cxf1
    replace cx1 := (hb.cell (World.block_lt_of_cell? _ _ cx1)).trans cx1
    replace cxf2 := (hb.frozen (World.block_lt_of_cell? _ _ cx2)).trans cxf2
    replace cx2 := (hb.cell (World.block_lt_of_cell? _ _ cx2)).trans cx2
    replace cxf3 := (hb.frozen (World.block_lt_of_cell? _ _ cx3)).trans cxf3
    replace cx3 := (hb.cell (World.block_lt_of_cell? _ _ cx3)).trans cx3
    replace cxf4 := (hb.frozen (World.block_lt_of_cell? _ _ cx4)).trans cxf4
    replace cx4 := (hb.cell (World.block_lt_of_cell? _ _ cx4)).trans cx4
    replace HB := Lib.hid (HB.out.trans (hb.mono HB.out.size))
    clear hb
    clear HCUT HHV HPR HE
    have g7 : (u.size : Int) ≤ 47 := by omega
    cases p <;> cases q
    all_goals
      simp only [Bool.not_true, Bool.not_false] at g3
      go_wp2_with fail
      go_ret
      exact ⟨rfl, HB.out⟩
end Go.Proofs.YtmpokhdljlnllaaDoor
