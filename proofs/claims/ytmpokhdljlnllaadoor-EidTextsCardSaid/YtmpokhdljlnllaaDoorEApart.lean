/- The walk of EidApart. -/
import Derived.Test.YtmpokhdljlnllaaDoorEWords
set_option linter.unusedVariables false
set_option linter.unusedSimpArgs false
namespace Go.Proofs.YtmpokhdljlnllaaDoor
open Go.RowKit


theorem tx_list {o : Nm} (h : nmR o = true) : (txS o).data.toList = txtN o := by
  unfold txS hfS rsS txtN
  rw [if_pos h, if_pos h, if_pos h]
  simp
theorem tx_none {o : Nm} (h : nmR o = false) : txS o = ⟨#[]⟩ := by
  unfold txS
  rw [h]
  rfl
theorem nmO_inj {k : Int} {nd sv : ByteArray} {a b k' : Int} {nd' sv' : ByteArray} {a' b' : Int} : nmO k nd sv a b = nmO k' nd' sv' a' b' ↔ k = k' ∧ nd = nd' ∧ sv = sv' ∧ a = a' ∧ b = b' := by
  constructor
  · intro h
    unfold nmO at h
    simp only [Nm.mk.injEq] at h
    exact ⟨h.1, ba_ext h.2.1, ba_ext h.2.2.1, h.2.2.2.1, h.2.2.2.2⟩
  · rintro ⟨rfl, rfl, rfl, rfl, rfl⟩
    rfl
theorem nmE_dec {k : Int} {nd sv : ByteArray} {a b k' : Int} {nd' sv' : ByteArray} {a' b' : Int} : nmE k nd sv a b k' nd' sv' a' b' = decide (nmO k nd sv a b = nmO k' nd' sv' a' b') := by
  have h : nmE k nd sv a b k' nd' sv' a' b' = true ↔ nmO k nd sv a b = nmO k' nd' sv' a' b' := nmE_iff.trans nmO_inj.symm
  cases he : nmE k nd sv a b k' nd' sv' a' b' with
  | true => exact (decide_eq_true (h.1 he)).symm
  | false => exact (decide_eq_false (fun e => by rw [h.2 e] at he; exact Bool.noConfusion he)).symm
theorem apart_pure {o p : Nm} (ho : nmR o = true) (hp : nmR p = true) : ((txS o).toList == (txS p).toList) = decide (o = p) := by
  rw [str_eqb]
  by_cases h : o = p
  · rw [h]; simp
  · rw [decide_eq_false h, decide_eq_false]
    intro e
    refine h (txtN_inj ho hp ?_)
    rw [← tx_list ho, ← tx_list hp, e]

set_option maxRecDepth 100000 in
set_option maxHeartbeats 4000000 in
theorem apart_walk (k : Int) (nd sv : ByteArray) (a b : Int) (k' : Int) (nd' sv' : ByteArray) (a' b' : Int) (w : World) (hE : EnvN w) (ha : I64 a) (hb : I64 b) (hn : nd.size ≤ maxLen) (hs : sv.size ≤ maxLen) (ha' : I64 a') (hb' : I64 b') (hn' : nd'.size ≤ maxLen) (hs' : sv'.size ≤ maxLen) :
    Calls Tryd.prog 5 #[nmV k nd sv a b, nmV k' nd' sv' a' b'] w fun e w' => e = .returned (.bool true) ∧ Below w.heap.size w w' := by
  have HE := Lib.hid hE
  have HCUT := Lib.hid (fun W => lCut_any k nd sv a b W hn hs)
  have HCUT2 := Lib.hid (fun W => lCut_any k' nd' sv' a' b' W hn' hs')
  clear hE hn hs hn' hs'
  generalize c21 nd = x1 at *
  generalize c21 sv = x2 at *
  generalize c21 nd' = y1 at *
  generalize c21 sv' = y2 at *
  have HPR := Lib.hid (fun W hW => print_any k x1 x2 a b W hW ha hb)
  have HPR2 := Lib.hid (fun W hW => print_any k' y1 y2 a' b' W hW ha' hb')
  clear ha hb ha' hb'
  have heq := Lib.hid (fun W => nm_eql k x1 x2 a b k' y1 y2 a' b' W)
  rw [nmE_dec] at heq
  unfold erS at *
  have hp := @apart_pure (nmO k x1 x2 a b) (nmO k' y1 y2 a' b')
  have h1 := @tx_none (nmO k x1 x2 a b)
  have h2 := @tx_none (nmO k' y1 y2 a' b')
  unfold nmV at *
  generalize nmO k x1 x2 a b = o at *
  generalize nmO k' y1 y2 a' b' = p at *
  generalize txS o = s at *
  generalize txS p = t at *
  generalize nmR o = r at *
  generalize nmR p = r' at *
  generalize hq : decide (o = p) = q at *
  clear hq o p
  cases r with
  | false =>
    obtain rfl := h1 rfl
    clear hp heq h1
    simp only [Bool.false_eq_true, if_false] at HPR
    cases r' with
    | false =>
      obtain rfl := h2 rfl
      clear h2
      simp only [Bool.false_eq_true, if_false] at HPR2
      go_enter Tryd.func5, Tryd.ntmps5
      go_wp2_with fail
      have cx0 : ((w.alloc (.cells #[.int .i64 k, .string nd, .string sv, .int .i64 a, .int .i64 b] 23)).alloc (.cells #[.int .i64 k', .string nd', .string sv', .int .i64 a', .int .i64 b'] 23)).cell? ⟨w.heap.size, 0, none⟩ = some (.int .i64 k) := by go_simp
      have cxf0 : ((w.alloc (.cells #[.int .i64 k, .string nd, .string sv, .int .i64 a, .int .i64 b] 23)).alloc (.cells #[.int .i64 k', .string nd', .string sv', .int .i64 a', .int .i64 b'] 23)).frozen? ⟨w.heap.size, 0, none⟩ = false := by go_simp
      have cx1 : ((w.alloc (.cells #[.int .i64 k, .string nd, .string sv, .int .i64 a, .int .i64 b] 23)).alloc (.cells #[.int .i64 k', .string nd', .string sv', .int .i64 a', .int .i64 b'] 23)).cell? ⟨w.heap.size, 1, none⟩ = some (.string nd) := by go_simp
      have cxf1 : ((w.alloc (.cells #[.int .i64 k, .string nd, .string sv, .int .i64 a, .int .i64 b] 23)).alloc (.cells #[.int .i64 k', .string nd', .string sv', .int .i64 a', .int .i64 b'] 23)).frozen? ⟨w.heap.size, 1, none⟩ = false := by go_simp
      have cx2 : ((w.alloc (.cells #[.int .i64 k, .string nd, .string sv, .int .i64 a, .int .i64 b] 23)).alloc (.cells #[.int .i64 k', .string nd', .string sv', .int .i64 a', .int .i64 b'] 23)).cell? ⟨w.heap.size, 2, none⟩ = some (.string sv) := by go_simp
      have cxf2 : ((w.alloc (.cells #[.int .i64 k, .string nd, .string sv, .int .i64 a, .int .i64 b] 23)).alloc (.cells #[.int .i64 k', .string nd', .string sv', .int .i64 a', .int .i64 b'] 23)).frozen? ⟨w.heap.size, 2, none⟩ = false := by go_simp
      have cx3 : ((w.alloc (.cells #[.int .i64 k, .string nd, .string sv, .int .i64 a, .int .i64 b] 23)).alloc (.cells #[.int .i64 k', .string nd', .string sv', .int .i64 a', .int .i64 b'] 23)).cell? ⟨w.heap.size, 3, none⟩ = some (.int .i64 a) := by go_simp
      have cxf3 : ((w.alloc (.cells #[.int .i64 k, .string nd, .string sv, .int .i64 a, .int .i64 b] 23)).alloc (.cells #[.int .i64 k', .string nd', .string sv', .int .i64 a', .int .i64 b'] 23)).frozen? ⟨w.heap.size, 3, none⟩ = false := by go_simp
      have cx4 : ((w.alloc (.cells #[.int .i64 k, .string nd, .string sv, .int .i64 a, .int .i64 b] 23)).alloc (.cells #[.int .i64 k', .string nd', .string sv', .int .i64 a', .int .i64 b'] 23)).cell? ⟨w.heap.size, 4, none⟩ = some (.int .i64 b) := by go_simp
      have cxf4 : ((w.alloc (.cells #[.int .i64 k, .string nd, .string sv, .int .i64 a, .int .i64 b] 23)).alloc (.cells #[.int .i64 k', .string nd', .string sv', .int .i64 a', .int .i64 b'] 23)).frozen? ⟨w.heap.size, 4, none⟩ = false := by go_simp
      have cy0 : ((w.alloc (.cells #[.int .i64 k, .string nd, .string sv, .int .i64 a, .int .i64 b] 23)).alloc (.cells #[.int .i64 k', .string nd', .string sv', .int .i64 a', .int .i64 b'] 23)).cell? ⟨w.heap.size + 1, 0, none⟩ = some (.int .i64 k') := by go_simp
      have cyf0 : ((w.alloc (.cells #[.int .i64 k, .string nd, .string sv, .int .i64 a, .int .i64 b] 23)).alloc (.cells #[.int .i64 k', .string nd', .string sv', .int .i64 a', .int .i64 b'] 23)).frozen? ⟨w.heap.size + 1, 0, none⟩ = false := by go_simp
      have cy1 : ((w.alloc (.cells #[.int .i64 k, .string nd, .string sv, .int .i64 a, .int .i64 b] 23)).alloc (.cells #[.int .i64 k', .string nd', .string sv', .int .i64 a', .int .i64 b'] 23)).cell? ⟨w.heap.size + 1, 1, none⟩ = some (.string nd') := by go_simp
      have cyf1 : ((w.alloc (.cells #[.int .i64 k, .string nd, .string sv, .int .i64 a, .int .i64 b] 23)).alloc (.cells #[.int .i64 k', .string nd', .string sv', .int .i64 a', .int .i64 b'] 23)).frozen? ⟨w.heap.size + 1, 1, none⟩ = false := by go_simp
      have cy2 : ((w.alloc (.cells #[.int .i64 k, .string nd, .string sv, .int .i64 a, .int .i64 b] 23)).alloc (.cells #[.int .i64 k', .string nd', .string sv', .int .i64 a', .int .i64 b'] 23)).cell? ⟨w.heap.size + 1, 2, none⟩ = some (.string sv') := by go_simp
      have cyf2 : ((w.alloc (.cells #[.int .i64 k, .string nd, .string sv, .int .i64 a, .int .i64 b] 23)).alloc (.cells #[.int .i64 k', .string nd', .string sv', .int .i64 a', .int .i64 b'] 23)).frozen? ⟨w.heap.size + 1, 2, none⟩ = false := by go_simp
      have cy3 : ((w.alloc (.cells #[.int .i64 k, .string nd, .string sv, .int .i64 a, .int .i64 b] 23)).alloc (.cells #[.int .i64 k', .string nd', .string sv', .int .i64 a', .int .i64 b'] 23)).cell? ⟨w.heap.size + 1, 3, none⟩ = some (.int .i64 a') := by go_simp
      have cyf3 : ((w.alloc (.cells #[.int .i64 k, .string nd, .string sv, .int .i64 a, .int .i64 b] 23)).alloc (.cells #[.int .i64 k', .string nd', .string sv', .int .i64 a', .int .i64 b'] 23)).frozen? ⟨w.heap.size + 1, 3, none⟩ = false := by go_simp
      have cy4 : ((w.alloc (.cells #[.int .i64 k, .string nd, .string sv, .int .i64 a, .int .i64 b] 23)).alloc (.cells #[.int .i64 k', .string nd', .string sv', .int .i64 a', .int .i64 b'] 23)).cell? ⟨w.heap.size + 1, 4, none⟩ = some (.int .i64 b') := by go_simp
      have cyf4 : ((w.alloc (.cells #[.int .i64 k, .string nd, .string sv, .int .i64 a, .int .i64 b] 23)).alloc (.cells #[.int .i64 k', .string nd', .string sv', .int .i64 a', .int .i64 b'] 23)).frozen? ⟨w.heap.size + 1, 4, none⟩ = false := by go_simp
      have HB := Lib.hid (show Below w.heap.size w ((w.alloc (.cells #[.int .i64 k, .string nd, .string sv, .int .i64 a, .int .i64 b] 23)).alloc (.cells #[.int .i64 k', .string nd', .string sv', .int .i64 a', .int .i64 b'] 23)) from below_alloc_l (below_alloc_l (Below.refl _ _)))
      generalize hh1 : ((w.alloc (.cells #[.int .i64 k, .string nd, .string sv, .int .i64 a, .int .i64 b] 23)).alloc (.cells #[.int .i64 k', .string nd', .string sv', .int .i64 a', .int .i64 b'] 23)) = v1 at *
      clear hh1
      refine (shown_any _ (HE.out.below HB.out)).mono ?_
      rintro e w1 ⟨rfl, hb⟩
      replace cxf0 := (hb.frozen (World.block_lt_of_cell? _ _ cx0)).trans cxf0
      replace cx0 := (hb.cell (World.block_lt_of_cell? _ _ cx0)).trans cx0
      replace cxf1 := (hb.frozen (World.block_lt_of_cell? _ _ cx1)).trans cxf1
      replace cx1 := (hb.cell (World.block_lt_of_cell? _ _ cx1)).trans cx1
      replace cxf2 := (hb.frozen (World.block_lt_of_cell? _ _ cx2)).trans cxf2
      replace cx2 := (hb.cell (World.block_lt_of_cell? _ _ cx2)).trans cx2
      replace cxf3 := (hb.frozen (World.block_lt_of_cell? _ _ cx3)).trans cxf3
      replace cx3 := (hb.cell (World.block_lt_of_cell? _ _ cx3)).trans cx3
      replace cxf4 := (hb.frozen (World.block_lt_of_cell? _ _ cx4)).trans cxf4
      replace cx4 := (hb.cell (World.block_lt_of_cell? _ _ cx4)).trans cx4
      replace cyf0 := (hb.frozen (World.block_lt_of_cell? _ _ cy0)).trans cyf0
      replace cy0 := (hb.cell (World.block_lt_of_cell? _ _ cy0)).trans cy0
      replace cyf1 := (hb.frozen (World.block_lt_of_cell? _ _ cy1)).trans cyf1
      replace cy1 := (hb.cell (World.block_lt_of_cell? _ _ cy1)).trans cy1
      replace cyf2 := (hb.frozen (World.block_lt_of_cell? _ _ cy2)).trans cyf2
      replace cy2 := (hb.cell (World.block_lt_of_cell? _ _ cy2)).trans cy2
      replace cyf3 := (hb.frozen (World.block_lt_of_cell? _ _ cy3)).trans cyf3
      replace cy3 := (hb.cell (World.block_lt_of_cell? _ _ cy3)).trans cy3
      replace cyf4 := (hb.frozen (World.block_lt_of_cell? _ _ cy4)).trans cyf4
      replace cy4 := (hb.cell (World.block_lt_of_cell? _ _ cy4)).trans cy4
      replace HB := Lib.hid (HB.out.trans (hb.mono HB.out.size))
      clear hb
      go_wp2_with fail
      refine (HCUT.out _).mono ?_
      rintro e w2 ⟨rfl, hb⟩
      replace cxf0 := (hb.frozen (World.block_lt_of_cell? _ _ cx0)).trans cxf0
      replace cx0 := (hb.cell (World.block_lt_of_cell? _ _ cx0)).trans cx0
      replace cxf1 := (hb.frozen (World.block_lt_of_cell? _ _ cx1)).trans cxf1
      replace cx1 := (hb.cell (World.block_lt_of_cell? _ _ cx1)).trans cx1
      replace cxf2 := (hb.frozen (World.block_lt_of_cell? _ _ cx2)).trans cxf2
      replace cx2 := (hb.cell (World.block_lt_of_cell? _ _ cx2)).trans cx2
      replace cxf3 := (hb.frozen (World.block_lt_of_cell? _ _ cx3)).trans cxf3
      replace cx3 := (hb.cell (World.block_lt_of_cell? _ _ cx3)).trans cx3
      replace cxf4 := (hb.frozen (World.block_lt_of_cell? _ _ cx4)).trans cxf4
      replace cx4 := (hb.cell (World.block_lt_of_cell? _ _ cx4)).trans cx4
      replace cyf0 := (hb.frozen (World.block_lt_of_cell? _ _ cy0)).trans cyf0
      replace cy0 := (hb.cell (World.block_lt_of_cell? _ _ cy0)).trans cy0
      replace cyf1 := (hb.frozen (World.block_lt_of_cell? _ _ cy1)).trans cyf1
      replace cy1 := (hb.cell (World.block_lt_of_cell? _ _ cy1)).trans cy1
      replace cyf2 := (hb.frozen (World.block_lt_of_cell? _ _ cy2)).trans cyf2
      replace cy2 := (hb.cell (World.block_lt_of_cell? _ _ cy2)).trans cy2
      replace cyf3 := (hb.frozen (World.block_lt_of_cell? _ _ cy3)).trans cyf3
      replace cy3 := (hb.cell (World.block_lt_of_cell? _ _ cy3)).trans cy3
      replace cyf4 := (hb.frozen (World.block_lt_of_cell? _ _ cy4)).trans cyf4
      replace cy4 := (hb.cell (World.block_lt_of_cell? _ _ cy4)).trans cy4
      replace HB := Lib.hid (HB.out.trans (hb.mono HB.out.size))
      clear hb
      go_wp2_with fail
      replace cy0 : (((((w2.setCell ⟨w.heap.size, 0, none⟩ (.int .i64 k)).setCell ⟨w.heap.size, 1, none⟩ (.string x1)).setCell ⟨w.heap.size, 2, none⟩ (.string x2)).setCell ⟨w.heap.size, 3, none⟩ (.int .i64 a)).setCell ⟨w.heap.size, 4, none⟩ (.int .i64 b)).cell? ⟨w.heap.size + 1, 0, none⟩ = some (.int .i64 k') := cell_set5 (by omega) cy0
      replace cyf0 : (((((w2.setCell ⟨w.heap.size, 0, none⟩ (.int .i64 k)).setCell ⟨w.heap.size, 1, none⟩ (.string x1)).setCell ⟨w.heap.size, 2, none⟩ (.string x2)).setCell ⟨w.heap.size, 3, none⟩ (.int .i64 a)).setCell ⟨w.heap.size, 4, none⟩ (.int .i64 b)).frozen? ⟨w.heap.size + 1, 0, none⟩ = false := frozen_set5 cyf0
      replace cy1 : (((((w2.setCell ⟨w.heap.size, 0, none⟩ (.int .i64 k)).setCell ⟨w.heap.size, 1, none⟩ (.string x1)).setCell ⟨w.heap.size, 2, none⟩ (.string x2)).setCell ⟨w.heap.size, 3, none⟩ (.int .i64 a)).setCell ⟨w.heap.size, 4, none⟩ (.int .i64 b)).cell? ⟨w.heap.size + 1, 1, none⟩ = some (.string nd') := cell_set5 (by omega) cy1
      replace cyf1 : (((((w2.setCell ⟨w.heap.size, 0, none⟩ (.int .i64 k)).setCell ⟨w.heap.size, 1, none⟩ (.string x1)).setCell ⟨w.heap.size, 2, none⟩ (.string x2)).setCell ⟨w.heap.size, 3, none⟩ (.int .i64 a)).setCell ⟨w.heap.size, 4, none⟩ (.int .i64 b)).frozen? ⟨w.heap.size + 1, 1, none⟩ = false := frozen_set5 cyf1
      replace cy2 : (((((w2.setCell ⟨w.heap.size, 0, none⟩ (.int .i64 k)).setCell ⟨w.heap.size, 1, none⟩ (.string x1)).setCell ⟨w.heap.size, 2, none⟩ (.string x2)).setCell ⟨w.heap.size, 3, none⟩ (.int .i64 a)).setCell ⟨w.heap.size, 4, none⟩ (.int .i64 b)).cell? ⟨w.heap.size + 1, 2, none⟩ = some (.string sv') := cell_set5 (by omega) cy2
      replace cyf2 : (((((w2.setCell ⟨w.heap.size, 0, none⟩ (.int .i64 k)).setCell ⟨w.heap.size, 1, none⟩ (.string x1)).setCell ⟨w.heap.size, 2, none⟩ (.string x2)).setCell ⟨w.heap.size, 3, none⟩ (.int .i64 a)).setCell ⟨w.heap.size, 4, none⟩ (.int .i64 b)).frozen? ⟨w.heap.size + 1, 2, none⟩ = false := frozen_set5 cyf2
      replace cy3 : (((((w2.setCell ⟨w.heap.size, 0, none⟩ (.int .i64 k)).setCell ⟨w.heap.size, 1, none⟩ (.string x1)).setCell ⟨w.heap.size, 2, none⟩ (.string x2)).setCell ⟨w.heap.size, 3, none⟩ (.int .i64 a)).setCell ⟨w.heap.size, 4, none⟩ (.int .i64 b)).cell? ⟨w.heap.size + 1, 3, none⟩ = some (.int .i64 a') := cell_set5 (by omega) cy3
      replace cyf3 : (((((w2.setCell ⟨w.heap.size, 0, none⟩ (.int .i64 k)).setCell ⟨w.heap.size, 1, none⟩ (.string x1)).setCell ⟨w.heap.size, 2, none⟩ (.string x2)).setCell ⟨w.heap.size, 3, none⟩ (.int .i64 a)).setCell ⟨w.heap.size, 4, none⟩ (.int .i64 b)).frozen? ⟨w.heap.size + 1, 3, none⟩ = false := frozen_set5 cyf3
      replace cy4 : (((((w2.setCell ⟨w.heap.size, 0, none⟩ (.int .i64 k)).setCell ⟨w.heap.size, 1, none⟩ (.string x1)).setCell ⟨w.heap.size, 2, none⟩ (.string x2)).setCell ⟨w.heap.size, 3, none⟩ (.int .i64 a)).setCell ⟨w.heap.size, 4, none⟩ (.int .i64 b)).cell? ⟨w.heap.size + 1, 4, none⟩ = some (.int .i64 b') := cell_set5 (by omega) cy4
      replace cyf4 : (((((w2.setCell ⟨w.heap.size, 0, none⟩ (.int .i64 k)).setCell ⟨w.heap.size, 1, none⟩ (.string x1)).setCell ⟨w.heap.size, 2, none⟩ (.string x2)).setCell ⟨w.heap.size, 3, none⟩ (.int .i64 a)).setCell ⟨w.heap.size, 4, none⟩ (.int .i64 b)).frozen? ⟨w.heap.size + 1, 4, none⟩ = false := frozen_set5 cyf4
      have k5 := set5 (v0 := .int .i64 k) (v1 := .string x1) (v2 := .string x2) (v3 := .int .i64 a) (v4 := .int .i64 b) cx0 cx1 cx2 cx3 cx4
      replace cxf0 : (((((w2.setCell ⟨w.heap.size, 0, none⟩ (.int .i64 k)).setCell ⟨w.heap.size, 1, none⟩ (.string x1)).setCell ⟨w.heap.size, 2, none⟩ (.string x2)).setCell ⟨w.heap.size, 3, none⟩ (.int .i64 a)).setCell ⟨w.heap.size, 4, none⟩ (.int .i64 b)).frozen? ⟨w.heap.size, 0, none⟩ = false := frozen_set5 cxf0
      replace cxf1 : (((((w2.setCell ⟨w.heap.size, 0, none⟩ (.int .i64 k)).setCell ⟨w.heap.size, 1, none⟩ (.string x1)).setCell ⟨w.heap.size, 2, none⟩ (.string x2)).setCell ⟨w.heap.size, 3, none⟩ (.int .i64 a)).setCell ⟨w.heap.size, 4, none⟩ (.int .i64 b)).frozen? ⟨w.heap.size, 1, none⟩ = false := frozen_set5 cxf1
      replace cxf2 : (((((w2.setCell ⟨w.heap.size, 0, none⟩ (.int .i64 k)).setCell ⟨w.heap.size, 1, none⟩ (.string x1)).setCell ⟨w.heap.size, 2, none⟩ (.string x2)).setCell ⟨w.heap.size, 3, none⟩ (.int .i64 a)).setCell ⟨w.heap.size, 4, none⟩ (.int .i64 b)).frozen? ⟨w.heap.size, 2, none⟩ = false := frozen_set5 cxf2
      replace cxf3 : (((((w2.setCell ⟨w.heap.size, 0, none⟩ (.int .i64 k)).setCell ⟨w.heap.size, 1, none⟩ (.string x1)).setCell ⟨w.heap.size, 2, none⟩ (.string x2)).setCell ⟨w.heap.size, 3, none⟩ (.int .i64 a)).setCell ⟨w.heap.size, 4, none⟩ (.int .i64 b)).frozen? ⟨w.heap.size, 3, none⟩ = false := frozen_set5 cxf3
      replace cxf4 : (((((w2.setCell ⟨w.heap.size, 0, none⟩ (.int .i64 k)).setCell ⟨w.heap.size, 1, none⟩ (.string x1)).setCell ⟨w.heap.size, 2, none⟩ (.string x2)).setCell ⟨w.heap.size, 3, none⟩ (.int .i64 a)).setCell ⟨w.heap.size, 4, none⟩ (.int .i64 b)).frozen? ⟨w.heap.size, 4, none⟩ = false := frozen_set5 cxf4
      clear cx0 cx1 cx2 cx3 cx4
      obtain ⟨cx0, cx1, cx2, cx3, cx4⟩ := k5
      have hge : w.heap.size ≤ w.heap.size := by omega
      replace HB := Lib.hid (show Below w.heap.size w (((((w2.setCell ⟨w.heap.size, 0, none⟩ (.int .i64 k)).setCell ⟨w.heap.size, 1, none⟩ (.string x1)).setCell ⟨w.heap.size, 2, none⟩ (.string x2)).setCell ⟨w.heap.size, 3, none⟩ (.int .i64 a)).setCell ⟨w.heap.size, 4, none⟩ (.int .i64 b)) from below_set5 (R := w.heap.size) (v0 := .int .i64 k) (v1 := .string x1) (v2 := .string x2) (v3 := .int .i64 a) (v4 := .int .i64 b) HB.out hge)
      generalize hh2 : (((((w2.setCell ⟨w.heap.size, 0, none⟩ (.int .i64 k)).setCell ⟨w.heap.size, 1, none⟩ (.string x1)).setCell ⟨w.heap.size, 2, none⟩ (.string x2)).setCell ⟨w.heap.size, 3, none⟩ (.int .i64 a)).setCell ⟨w.heap.size, 4, none⟩ (.int .i64 b)) = v2 at *
      clear hh2
      clear hge
      refine (HCUT2.out _).mono ?_
      rintro e w3 ⟨rfl, hb⟩
      replace cxf0 := (hb.frozen (World.block_lt_of_cell? _ _ cx0)).trans cxf0
      replace cx0 := (hb.cell (World.block_lt_of_cell? _ _ cx0)).trans cx0
      replace cxf1 := (hb.frozen (World.block_lt_of_cell? _ _ cx1)).trans cxf1
      replace cx1 := (hb.cell (World.block_lt_of_cell? _ _ cx1)).trans cx1
      replace cxf2 := (hb.frozen (World.block_lt_of_cell? _ _ cx2)).trans cxf2
      replace cx2 := (hb.cell (World.block_lt_of_cell? _ _ cx2)).trans cx2
      replace cxf3 := (hb.frozen (World.block_lt_of_cell? _ _ cx3)).trans cxf3
      replace cx3 := (hb.cell (World.block_lt_of_cell? _ _ cx3)).trans cx3
      replace cxf4 := (hb.frozen (World.block_lt_of_cell? _ _ cx4)).trans cxf4
      replace cx4 := (hb.cell (World.block_lt_of_cell? _ _ cx4)).trans cx4
      replace cyf0 := (hb.frozen (World.block_lt_of_cell? _ _ cy0)).trans cyf0
      replace cy0 := (hb.cell (World.block_lt_of_cell? _ _ cy0)).trans cy0
      replace cyf1 := (hb.frozen (World.block_lt_of_cell? _ _ cy1)).trans cyf1
      replace cy1 := (hb.cell (World.block_lt_of_cell? _ _ cy1)).trans cy1
      replace cyf2 := (hb.frozen (World.block_lt_of_cell? _ _ cy2)).trans cyf2
      replace cy2 := (hb.cell (World.block_lt_of_cell? _ _ cy2)).trans cy2
      replace cyf3 := (hb.frozen (World.block_lt_of_cell? _ _ cy3)).trans cyf3
      replace cy3 := (hb.cell (World.block_lt_of_cell? _ _ cy3)).trans cy3
      replace cyf4 := (hb.frozen (World.block_lt_of_cell? _ _ cy4)).trans cyf4
      replace cy4 := (hb.cell (World.block_lt_of_cell? _ _ cy4)).trans cy4
      replace HB := Lib.hid (HB.out.trans (hb.mono HB.out.size))
      clear hb
      go_wp2_with fail
      replace cx0 : (((((w3.setCell ⟨w.heap.size + 1, 0, none⟩ (.int .i64 k')).setCell ⟨w.heap.size + 1, 1, none⟩ (.string y1)).setCell ⟨w.heap.size + 1, 2, none⟩ (.string y2)).setCell ⟨w.heap.size + 1, 3, none⟩ (.int .i64 a')).setCell ⟨w.heap.size + 1, 4, none⟩ (.int .i64 b')).cell? ⟨w.heap.size, 0, none⟩ = some (.int .i64 k) := cell_set5 (by omega) cx0
      replace cxf0 : (((((w3.setCell ⟨w.heap.size + 1, 0, none⟩ (.int .i64 k')).setCell ⟨w.heap.size + 1, 1, none⟩ (.string y1)).setCell ⟨w.heap.size + 1, 2, none⟩ (.string y2)).setCell ⟨w.heap.size + 1, 3, none⟩ (.int .i64 a')).setCell ⟨w.heap.size + 1, 4, none⟩ (.int .i64 b')).frozen? ⟨w.heap.size, 0, none⟩ = false := frozen_set5 cxf0
      replace cx1 : (((((w3.setCell ⟨w.heap.size + 1, 0, none⟩ (.int .i64 k')).setCell ⟨w.heap.size + 1, 1, none⟩ (.string y1)).setCell ⟨w.heap.size + 1, 2, none⟩ (.string y2)).setCell ⟨w.heap.size + 1, 3, none⟩ (.int .i64 a')).setCell ⟨w.heap.size + 1, 4, none⟩ (.int .i64 b')).cell? ⟨w.heap.size, 1, none⟩ = some (.string x1) := cell_set5 (by omega) cx1
      replace cxf1 : (((((w3.setCell ⟨w.heap.size + 1, 0, none⟩ (.int .i64 k')).setCell ⟨w.heap.size + 1, 1, none⟩ (.string y1)).setCell ⟨w.heap.size + 1, 2, none⟩ (.string y2)).setCell ⟨w.heap.size + 1, 3, none⟩ (.int .i64 a')).setCell ⟨w.heap.size + 1, 4, none⟩ (.int .i64 b')).frozen? ⟨w.heap.size, 1, none⟩ = false := frozen_set5 cxf1
      replace cx2 : (((((w3.setCell ⟨w.heap.size + 1, 0, none⟩ (.int .i64 k')).setCell ⟨w.heap.size + 1, 1, none⟩ (.string y1)).setCell ⟨w.heap.size + 1, 2, none⟩ (.string y2)).setCell ⟨w.heap.size + 1, 3, none⟩ (.int .i64 a')).setCell ⟨w.heap.size + 1, 4, none⟩ (.int .i64 b')).cell? ⟨w.heap.size, 2, none⟩ = some (.string x2) := cell_set5 (by omega) cx2
      replace cxf2 : (((((w3.setCell ⟨w.heap.size + 1, 0, none⟩ (.int .i64 k')).setCell ⟨w.heap.size + 1, 1, none⟩ (.string y1)).setCell ⟨w.heap.size + 1, 2, none⟩ (.string y2)).setCell ⟨w.heap.size + 1, 3, none⟩ (.int .i64 a')).setCell ⟨w.heap.size + 1, 4, none⟩ (.int .i64 b')).frozen? ⟨w.heap.size, 2, none⟩ = false := frozen_set5 cxf2
      replace cx3 : (((((w3.setCell ⟨w.heap.size + 1, 0, none⟩ (.int .i64 k')).setCell ⟨w.heap.size + 1, 1, none⟩ (.string y1)).setCell ⟨w.heap.size + 1, 2, none⟩ (.string y2)).setCell ⟨w.heap.size + 1, 3, none⟩ (.int .i64 a')).setCell ⟨w.heap.size + 1, 4, none⟩ (.int .i64 b')).cell? ⟨w.heap.size, 3, none⟩ = some (.int .i64 a) := cell_set5 (by omega) cx3
      replace cxf3 : (((((w3.setCell ⟨w.heap.size + 1, 0, none⟩ (.int .i64 k')).setCell ⟨w.heap.size + 1, 1, none⟩ (.string y1)).setCell ⟨w.heap.size + 1, 2, none⟩ (.string y2)).setCell ⟨w.heap.size + 1, 3, none⟩ (.int .i64 a')).setCell ⟨w.heap.size + 1, 4, none⟩ (.int .i64 b')).frozen? ⟨w.heap.size, 3, none⟩ = false := frozen_set5 cxf3
      replace cx4 : (((((w3.setCell ⟨w.heap.size + 1, 0, none⟩ (.int .i64 k')).setCell ⟨w.heap.size + 1, 1, none⟩ (.string y1)).setCell ⟨w.heap.size + 1, 2, none⟩ (.string y2)).setCell ⟨w.heap.size + 1, 3, none⟩ (.int .i64 a')).setCell ⟨w.heap.size + 1, 4, none⟩ (.int .i64 b')).cell? ⟨w.heap.size, 4, none⟩ = some (.int .i64 b) := cell_set5 (by omega) cx4
      replace cxf4 : (((((w3.setCell ⟨w.heap.size + 1, 0, none⟩ (.int .i64 k')).setCell ⟨w.heap.size + 1, 1, none⟩ (.string y1)).setCell ⟨w.heap.size + 1, 2, none⟩ (.string y2)).setCell ⟨w.heap.size + 1, 3, none⟩ (.int .i64 a')).setCell ⟨w.heap.size + 1, 4, none⟩ (.int .i64 b')).frozen? ⟨w.heap.size, 4, none⟩ = false := frozen_set5 cxf4
      have k5 := set5 (v0 := .int .i64 k') (v1 := .string y1) (v2 := .string y2) (v3 := .int .i64 a') (v4 := .int .i64 b') cy0 cy1 cy2 cy3 cy4
      replace cyf0 : (((((w3.setCell ⟨w.heap.size + 1, 0, none⟩ (.int .i64 k')).setCell ⟨w.heap.size + 1, 1, none⟩ (.string y1)).setCell ⟨w.heap.size + 1, 2, none⟩ (.string y2)).setCell ⟨w.heap.size + 1, 3, none⟩ (.int .i64 a')).setCell ⟨w.heap.size + 1, 4, none⟩ (.int .i64 b')).frozen? ⟨w.heap.size + 1, 0, none⟩ = false := frozen_set5 cyf0
      replace cyf1 : (((((w3.setCell ⟨w.heap.size + 1, 0, none⟩ (.int .i64 k')).setCell ⟨w.heap.size + 1, 1, none⟩ (.string y1)).setCell ⟨w.heap.size + 1, 2, none⟩ (.string y2)).setCell ⟨w.heap.size + 1, 3, none⟩ (.int .i64 a')).setCell ⟨w.heap.size + 1, 4, none⟩ (.int .i64 b')).frozen? ⟨w.heap.size + 1, 1, none⟩ = false := frozen_set5 cyf1
      replace cyf2 : (((((w3.setCell ⟨w.heap.size + 1, 0, none⟩ (.int .i64 k')).setCell ⟨w.heap.size + 1, 1, none⟩ (.string y1)).setCell ⟨w.heap.size + 1, 2, none⟩ (.string y2)).setCell ⟨w.heap.size + 1, 3, none⟩ (.int .i64 a')).setCell ⟨w.heap.size + 1, 4, none⟩ (.int .i64 b')).frozen? ⟨w.heap.size + 1, 2, none⟩ = false := frozen_set5 cyf2
      replace cyf3 : (((((w3.setCell ⟨w.heap.size + 1, 0, none⟩ (.int .i64 k')).setCell ⟨w.heap.size + 1, 1, none⟩ (.string y1)).setCell ⟨w.heap.size + 1, 2, none⟩ (.string y2)).setCell ⟨w.heap.size + 1, 3, none⟩ (.int .i64 a')).setCell ⟨w.heap.size + 1, 4, none⟩ (.int .i64 b')).frozen? ⟨w.heap.size + 1, 3, none⟩ = false := frozen_set5 cyf3
      replace cyf4 : (((((w3.setCell ⟨w.heap.size + 1, 0, none⟩ (.int .i64 k')).setCell ⟨w.heap.size + 1, 1, none⟩ (.string y1)).setCell ⟨w.heap.size + 1, 2, none⟩ (.string y2)).setCell ⟨w.heap.size + 1, 3, none⟩ (.int .i64 a')).setCell ⟨w.heap.size + 1, 4, none⟩ (.int .i64 b')).frozen? ⟨w.heap.size + 1, 4, none⟩ = false := frozen_set5 cyf4
      clear cy0 cy1 cy2 cy3 cy4
      obtain ⟨cy0, cy1, cy2, cy3, cy4⟩ := k5
      have hge : w.heap.size ≤ w.heap.size + 1 := by omega
      replace HB := Lib.hid (show Below w.heap.size w (((((w3.setCell ⟨w.heap.size + 1, 0, none⟩ (.int .i64 k')).setCell ⟨w.heap.size + 1, 1, none⟩ (.string y1)).setCell ⟨w.heap.size + 1, 2, none⟩ (.string y2)).setCell ⟨w.heap.size + 1, 3, none⟩ (.int .i64 a')).setCell ⟨w.heap.size + 1, 4, none⟩ (.int .i64 b')) from below_set5 (R := w.heap.size + 1) (v0 := .int .i64 k') (v1 := .string y1) (v2 := .string y2) (v3 := .int .i64 a') (v4 := .int .i64 b') HB.out hge)
      generalize hh3 : (((((w3.setCell ⟨w.heap.size + 1, 0, none⟩ (.int .i64 k')).setCell ⟨w.heap.size + 1, 1, none⟩ (.string y1)).setCell ⟨w.heap.size + 1, 2, none⟩ (.string y2)).setCell ⟨w.heap.size + 1, 3, none⟩ (.int .i64 a')).setCell ⟨w.heap.size + 1, 4, none⟩ (.int .i64 b')) = v3 at *
      clear hh3
      clear hge
      refine (HPR.out _ (HE.out.below HB.out)).mono ?_
      rintro e w4 ⟨rfl, hb⟩
      replace cxf0 := (hb.frozen (World.block_lt_of_cell? _ _ cx0)).trans cxf0
      replace cx0 := (hb.cell (World.block_lt_of_cell? _ _ cx0)).trans cx0
      replace cxf1 := (hb.frozen (World.block_lt_of_cell? _ _ cx1)).trans cxf1
      replace cx1 := (hb.cell (World.block_lt_of_cell? _ _ cx1)).trans cx1
      replace cxf2 := (hb.frozen (World.block_lt_of_cell? _ _ cx2)).trans cxf2
      replace cx2 := (hb.cell (World.block_lt_of_cell? _ _ cx2)).trans cx2
      replace cxf3 := (hb.frozen (World.block_lt_of_cell? _ _ cx3)).trans cxf3
      replace cx3 := (hb.cell (World.block_lt_of_cell? _ _ cx3)).trans cx3
      replace cxf4 := (hb.frozen (World.block_lt_of_cell? _ _ cx4)).trans cxf4
      replace cx4 := (hb.cell (World.block_lt_of_cell? _ _ cx4)).trans cx4
      replace cyf0 := (hb.frozen (World.block_lt_of_cell? _ _ cy0)).trans cyf0
      replace cy0 := (hb.cell (World.block_lt_of_cell? _ _ cy0)).trans cy0
      replace cyf1 := (hb.frozen (World.block_lt_of_cell? _ _ cy1)).trans cyf1
      replace cy1 := (hb.cell (World.block_lt_of_cell? _ _ cy1)).trans cy1
      replace cyf2 := (hb.frozen (World.block_lt_of_cell? _ _ cy2)).trans cyf2
      replace cy2 := (hb.cell (World.block_lt_of_cell? _ _ cy2)).trans cy2
      replace cyf3 := (hb.frozen (World.block_lt_of_cell? _ _ cy3)).trans cyf3
      replace cy3 := (hb.cell (World.block_lt_of_cell? _ _ cy3)).trans cy3
      replace cyf4 := (hb.frozen (World.block_lt_of_cell? _ _ cy4)).trans cyf4
      replace cy4 := (hb.cell (World.block_lt_of_cell? _ _ cy4)).trans cy4
      replace HB := Lib.hid (HB.out.trans (hb.mono HB.out.size))
      clear hb
      go_wp2_with fail
      refine (HPR2.out _ (HE.out.below HB.out)).mono ?_
      rintro e w5 ⟨rfl, hb⟩
      replace cxf0 := (hb.frozen (World.block_lt_of_cell? _ _ cx0)).trans cxf0
      replace cx0 := (hb.cell (World.block_lt_of_cell? _ _ cx0)).trans cx0
      replace cxf1 := (hb.frozen (World.block_lt_of_cell? _ _ cx1)).trans cxf1
      replace cx1 := (hb.cell (World.block_lt_of_cell? _ _ cx1)).trans cx1
      replace cxf2 := (hb.frozen (World.block_lt_of_cell? _ _ cx2)).trans cxf2
      replace cx2 := (hb.cell (World.block_lt_of_cell? _ _ cx2)).trans cx2
      replace cxf3 := (hb.frozen (World.block_lt_of_cell? _ _ cx3)).trans cxf3
      replace cx3 := (hb.cell (World.block_lt_of_cell? _ _ cx3)).trans cx3
      replace cxf4 := (hb.frozen (World.block_lt_of_cell? _ _ cx4)).trans cxf4
      replace cx4 := (hb.cell (World.block_lt_of_cell? _ _ cx4)).trans cx4
      replace cyf0 := (hb.frozen (World.block_lt_of_cell? _ _ cy0)).trans cyf0
      replace cy0 := (hb.cell (World.block_lt_of_cell? _ _ cy0)).trans cy0
      replace cyf1 := (hb.frozen (World.block_lt_of_cell? _ _ cy1)).trans cyf1
      replace cy1 := (hb.cell (World.block_lt_of_cell? _ _ cy1)).trans cy1
      replace cyf2 := (hb.frozen (World.block_lt_of_cell? _ _ cy2)).trans cyf2
      replace cy2 := (hb.cell (World.block_lt_of_cell? _ _ cy2)).trans cy2
      replace cyf3 := (hb.frozen (World.block_lt_of_cell? _ _ cy3)).trans cyf3
      replace cy3 := (hb.cell (World.block_lt_of_cell? _ _ cy3)).trans cy3
      replace cyf4 := (hb.frozen (World.block_lt_of_cell? _ _ cy4)).trans cyf4
      replace cy4 := (hb.cell (World.block_lt_of_cell? _ _ cy4)).trans cy4
      replace HB := Lib.hid (HB.out.trans (hb.mono HB.out.size))
      clear hb
      clear HCUT HCUT2 HPR HPR2 HE
      go_wp2_with fail
      go_ret
      exact ⟨rfl, HB.out⟩
    | true =>
      clear h2
      simp only [if_true] at HPR2
      go_enter Tryd.func5, Tryd.ntmps5
      go_wp2_with fail
      have cx0 : ((w.alloc (.cells #[.int .i64 k, .string nd, .string sv, .int .i64 a, .int .i64 b] 23)).alloc (.cells #[.int .i64 k', .string nd', .string sv', .int .i64 a', .int .i64 b'] 23)).cell? ⟨w.heap.size, 0, none⟩ = some (.int .i64 k) := by go_simp
      have cxf0 : ((w.alloc (.cells #[.int .i64 k, .string nd, .string sv, .int .i64 a, .int .i64 b] 23)).alloc (.cells #[.int .i64 k', .string nd', .string sv', .int .i64 a', .int .i64 b'] 23)).frozen? ⟨w.heap.size, 0, none⟩ = false := by go_simp
      have cx1 : ((w.alloc (.cells #[.int .i64 k, .string nd, .string sv, .int .i64 a, .int .i64 b] 23)).alloc (.cells #[.int .i64 k', .string nd', .string sv', .int .i64 a', .int .i64 b'] 23)).cell? ⟨w.heap.size, 1, none⟩ = some (.string nd) := by go_simp
      have cxf1 : ((w.alloc (.cells #[.int .i64 k, .string nd, .string sv, .int .i64 a, .int .i64 b] 23)).alloc (.cells #[.int .i64 k', .string nd', .string sv', .int .i64 a', .int .i64 b'] 23)).frozen? ⟨w.heap.size, 1, none⟩ = false := by go_simp
      have cx2 : ((w.alloc (.cells #[.int .i64 k, .string nd, .string sv, .int .i64 a, .int .i64 b] 23)).alloc (.cells #[.int .i64 k', .string nd', .string sv', .int .i64 a', .int .i64 b'] 23)).cell? ⟨w.heap.size, 2, none⟩ = some (.string sv) := by go_simp
      have cxf2 : ((w.alloc (.cells #[.int .i64 k, .string nd, .string sv, .int .i64 a, .int .i64 b] 23)).alloc (.cells #[.int .i64 k', .string nd', .string sv', .int .i64 a', .int .i64 b'] 23)).frozen? ⟨w.heap.size, 2, none⟩ = false := by go_simp
      have cx3 : ((w.alloc (.cells #[.int .i64 k, .string nd, .string sv, .int .i64 a, .int .i64 b] 23)).alloc (.cells #[.int .i64 k', .string nd', .string sv', .int .i64 a', .int .i64 b'] 23)).cell? ⟨w.heap.size, 3, none⟩ = some (.int .i64 a) := by go_simp
      have cxf3 : ((w.alloc (.cells #[.int .i64 k, .string nd, .string sv, .int .i64 a, .int .i64 b] 23)).alloc (.cells #[.int .i64 k', .string nd', .string sv', .int .i64 a', .int .i64 b'] 23)).frozen? ⟨w.heap.size, 3, none⟩ = false := by go_simp
      have cx4 : ((w.alloc (.cells #[.int .i64 k, .string nd, .string sv, .int .i64 a, .int .i64 b] 23)).alloc (.cells #[.int .i64 k', .string nd', .string sv', .int .i64 a', .int .i64 b'] 23)).cell? ⟨w.heap.size, 4, none⟩ = some (.int .i64 b) := by go_simp
      have cxf4 : ((w.alloc (.cells #[.int .i64 k, .string nd, .string sv, .int .i64 a, .int .i64 b] 23)).alloc (.cells #[.int .i64 k', .string nd', .string sv', .int .i64 a', .int .i64 b'] 23)).frozen? ⟨w.heap.size, 4, none⟩ = false := by go_simp
      have cy0 : ((w.alloc (.cells #[.int .i64 k, .string nd, .string sv, .int .i64 a, .int .i64 b] 23)).alloc (.cells #[.int .i64 k', .string nd', .string sv', .int .i64 a', .int .i64 b'] 23)).cell? ⟨w.heap.size + 1, 0, none⟩ = some (.int .i64 k') := by go_simp
      have cyf0 : ((w.alloc (.cells #[.int .i64 k, .string nd, .string sv, .int .i64 a, .int .i64 b] 23)).alloc (.cells #[.int .i64 k', .string nd', .string sv', .int .i64 a', .int .i64 b'] 23)).frozen? ⟨w.heap.size + 1, 0, none⟩ = false := by go_simp
      have cy1 : ((w.alloc (.cells #[.int .i64 k, .string nd, .string sv, .int .i64 a, .int .i64 b] 23)).alloc (.cells #[.int .i64 k', .string nd', .string sv', .int .i64 a', .int .i64 b'] 23)).cell? ⟨w.heap.size + 1, 1, none⟩ = some (.string nd') := by go_simp
      have cyf1 : ((w.alloc (.cells #[.int .i64 k, .string nd, .string sv, .int .i64 a, .int .i64 b] 23)).alloc (.cells #[.int .i64 k', .string nd', .string sv', .int .i64 a', .int .i64 b'] 23)).frozen? ⟨w.heap.size + 1, 1, none⟩ = false := by go_simp
      have cy2 : ((w.alloc (.cells #[.int .i64 k, .string nd, .string sv, .int .i64 a, .int .i64 b] 23)).alloc (.cells #[.int .i64 k', .string nd', .string sv', .int .i64 a', .int .i64 b'] 23)).cell? ⟨w.heap.size + 1, 2, none⟩ = some (.string sv') := by go_simp
      have cyf2 : ((w.alloc (.cells #[.int .i64 k, .string nd, .string sv, .int .i64 a, .int .i64 b] 23)).alloc (.cells #[.int .i64 k', .string nd', .string sv', .int .i64 a', .int .i64 b'] 23)).frozen? ⟨w.heap.size + 1, 2, none⟩ = false := by go_simp
      have cy3 : ((w.alloc (.cells #[.int .i64 k, .string nd, .string sv, .int .i64 a, .int .i64 b] 23)).alloc (.cells #[.int .i64 k', .string nd', .string sv', .int .i64 a', .int .i64 b'] 23)).cell? ⟨w.heap.size + 1, 3, none⟩ = some (.int .i64 a') := by go_simp
      have cyf3 : ((w.alloc (.cells #[.int .i64 k, .string nd, .string sv, .int .i64 a, .int .i64 b] 23)).alloc (.cells #[.int .i64 k', .string nd', .string sv', .int .i64 a', .int .i64 b'] 23)).frozen? ⟨w.heap.size + 1, 3, none⟩ = false := by go_simp
      have cy4 : ((w.alloc (.cells #[.int .i64 k, .string nd, .string sv, .int .i64 a, .int .i64 b] 23)).alloc (.cells #[.int .i64 k', .string nd', .string sv', .int .i64 a', .int .i64 b'] 23)).cell? ⟨w.heap.size + 1, 4, none⟩ = some (.int .i64 b') := by go_simp
      have cyf4 : ((w.alloc (.cells #[.int .i64 k, .string nd, .string sv, .int .i64 a, .int .i64 b] 23)).alloc (.cells #[.int .i64 k', .string nd', .string sv', .int .i64 a', .int .i64 b'] 23)).frozen? ⟨w.heap.size + 1, 4, none⟩ = false := by go_simp
      have HB := Lib.hid (show Below w.heap.size w ((w.alloc (.cells #[.int .i64 k, .string nd, .string sv, .int .i64 a, .int .i64 b] 23)).alloc (.cells #[.int .i64 k', .string nd', .string sv', .int .i64 a', .int .i64 b'] 23)) from below_alloc_l (below_alloc_l (Below.refl _ _)))
      generalize hh1 : ((w.alloc (.cells #[.int .i64 k, .string nd, .string sv, .int .i64 a, .int .i64 b] 23)).alloc (.cells #[.int .i64 k', .string nd', .string sv', .int .i64 a', .int .i64 b'] 23)) = v1 at *
      clear hh1
      refine (shown_any _ (HE.out.below HB.out)).mono ?_
      rintro e w1 ⟨rfl, hb⟩
      replace cxf0 := (hb.frozen (World.block_lt_of_cell? _ _ cx0)).trans cxf0
      replace cx0 := (hb.cell (World.block_lt_of_cell? _ _ cx0)).trans cx0
      replace cxf1 := (hb.frozen (World.block_lt_of_cell? _ _ cx1)).trans cxf1
      replace cx1 := (hb.cell (World.block_lt_of_cell? _ _ cx1)).trans cx1
      replace cxf2 := (hb.frozen (World.block_lt_of_cell? _ _ cx2)).trans cxf2
      replace cx2 := (hb.cell (World.block_lt_of_cell? _ _ cx2)).trans cx2
      replace cxf3 := (hb.frozen (World.block_lt_of_cell? _ _ cx3)).trans cxf3
      replace cx3 := (hb.cell (World.block_lt_of_cell? _ _ cx3)).trans cx3
      replace cxf4 := (hb.frozen (World.block_lt_of_cell? _ _ cx4)).trans cxf4
      replace cx4 := (hb.cell (World.block_lt_of_cell? _ _ cx4)).trans cx4
      replace cyf0 := (hb.frozen (World.block_lt_of_cell? _ _ cy0)).trans cyf0
      replace cy0 := (hb.cell (World.block_lt_of_cell? _ _ cy0)).trans cy0
      replace cyf1 := (hb.frozen (World.block_lt_of_cell? _ _ cy1)).trans cyf1
      replace cy1 := (hb.cell (World.block_lt_of_cell? _ _ cy1)).trans cy1
      replace cyf2 := (hb.frozen (World.block_lt_of_cell? _ _ cy2)).trans cyf2
      replace cy2 := (hb.cell (World.block_lt_of_cell? _ _ cy2)).trans cy2
      replace cyf3 := (hb.frozen (World.block_lt_of_cell? _ _ cy3)).trans cyf3
      replace cy3 := (hb.cell (World.block_lt_of_cell? _ _ cy3)).trans cy3
      replace cyf4 := (hb.frozen (World.block_lt_of_cell? _ _ cy4)).trans cyf4
      replace cy4 := (hb.cell (World.block_lt_of_cell? _ _ cy4)).trans cy4
      replace HB := Lib.hid (HB.out.trans (hb.mono HB.out.size))
      clear hb
      go_wp2_with fail
      refine (HCUT.out _).mono ?_
      rintro e w2 ⟨rfl, hb⟩
      replace cxf0 := (hb.frozen (World.block_lt_of_cell? _ _ cx0)).trans cxf0
      replace cx0 := (hb.cell (World.block_lt_of_cell? _ _ cx0)).trans cx0
      replace cxf1 := (hb.frozen (World.block_lt_of_cell? _ _ cx1)).trans cxf1
      replace cx1 := (hb.cell (World.block_lt_of_cell? _ _ cx1)).trans cx1
      replace cxf2 := (hb.frozen (World.block_lt_of_cell? _ _ cx2)).trans cxf2
      replace cx2 := (hb.cell (World.block_lt_of_cell? _ _ cx2)).trans cx2
      replace cxf3 := (hb.frozen (World.block_lt_of_cell? _ _ cx3)).trans cxf3
      replace cx3 := (hb.cell (World.block_lt_of_cell? _ _ cx3)).trans cx3
      replace cxf4 := (hb.frozen (World.block_lt_of_cell? _ _ cx4)).trans cxf4
      replace cx4 := (hb.cell (World.block_lt_of_cell? _ _ cx4)).trans cx4
      replace cyf0 := (hb.frozen (World.block_lt_of_cell? _ _ cy0)).trans cyf0
      replace cy0 := (hb.cell (World.block_lt_of_cell? _ _ cy0)).trans cy0
      replace cyf1 := (hb.frozen (World.block_lt_of_cell? _ _ cy1)).trans cyf1
      replace cy1 := (hb.cell (World.block_lt_of_cell? _ _ cy1)).trans cy1
      replace cyf2 := (hb.frozen (World.block_lt_of_cell? _ _ cy2)).trans cyf2
      replace cy2 := (hb.cell (World.block_lt_of_cell? _ _ cy2)).trans cy2
      replace cyf3 := (hb.frozen (World.block_lt_of_cell? _ _ cy3)).trans cyf3
      replace cy3 := (hb.cell (World.block_lt_of_cell? _ _ cy3)).trans cy3
      replace cyf4 := (hb.frozen (World.block_lt_of_cell? _ _ cy4)).trans cyf4
      replace cy4 := (hb.cell (World.block_lt_of_cell? _ _ cy4)).trans cy4
      replace HB := Lib.hid (HB.out.trans (hb.mono HB.out.size))
      clear hb
      go_wp2_with fail
      replace cy0 : (((((w2.setCell ⟨w.heap.size, 0, none⟩ (.int .i64 k)).setCell ⟨w.heap.size, 1, none⟩ (.string x1)).setCell ⟨w.heap.size, 2, none⟩ (.string x2)).setCell ⟨w.heap.size, 3, none⟩ (.int .i64 a)).setCell ⟨w.heap.size, 4, none⟩ (.int .i64 b)).cell? ⟨w.heap.size + 1, 0, none⟩ = some (.int .i64 k') := cell_set5 (by omega) cy0
      replace cyf0 : (((((w2.setCell ⟨w.heap.size, 0, none⟩ (.int .i64 k)).setCell ⟨w.heap.size, 1, none⟩ (.string x1)).setCell ⟨w.heap.size, 2, none⟩ (.string x2)).setCell ⟨w.heap.size, 3, none⟩ (.int .i64 a)).setCell ⟨w.heap.size, 4, none⟩ (.int .i64 b)).frozen? ⟨w.heap.size + 1, 0, none⟩ = false := frozen_set5 cyf0
      replace cy1 : (((((w2.setCell ⟨w.heap.size, 0, none⟩ (.int .i64 k)).setCell ⟨w.heap.size, 1, none⟩ (.string x1)).setCell ⟨w.heap.size, 2, none⟩ (.string x2)).setCell ⟨w.heap.size, 3, none⟩ (.int .i64 a)).setCell ⟨w.heap.size, 4, none⟩ (.int .i64 b)).cell? ⟨w.heap.size + 1, 1, none⟩ = some (.string nd') := cell_set5 (by omega) cy1
      replace cyf1 : (((((w2.setCell ⟨w.heap.size, 0, none⟩ (.int .i64 k)).setCell ⟨w.heap.size, 1, none⟩ (.string x1)).setCell ⟨w.heap.size, 2, none⟩ (.string x2)).setCell ⟨w.heap.size, 3, none⟩ (.int .i64 a)).setCell ⟨w.heap.size, 4, none⟩ (.int .i64 b)).frozen? ⟨w.heap.size + 1, 1, none⟩ = false := frozen_set5 cyf1
      replace cy2 : (((((w2.setCell ⟨w.heap.size, 0, none⟩ (.int .i64 k)).setCell ⟨w.heap.size, 1, none⟩ (.string x1)).setCell ⟨w.heap.size, 2, none⟩ (.string x2)).setCell ⟨w.heap.size, 3, none⟩ (.int .i64 a)).setCell ⟨w.heap.size, 4, none⟩ (.int .i64 b)).cell? ⟨w.heap.size + 1, 2, none⟩ = some (.string sv') := cell_set5 (by omega) cy2
      replace cyf2 : (((((w2.setCell ⟨w.heap.size, 0, none⟩ (.int .i64 k)).setCell ⟨w.heap.size, 1, none⟩ (.string x1)).setCell ⟨w.heap.size, 2, none⟩ (.string x2)).setCell ⟨w.heap.size, 3, none⟩ (.int .i64 a)).setCell ⟨w.heap.size, 4, none⟩ (.int .i64 b)).frozen? ⟨w.heap.size + 1, 2, none⟩ = false := frozen_set5 cyf2
      replace cy3 : (((((w2.setCell ⟨w.heap.size, 0, none⟩ (.int .i64 k)).setCell ⟨w.heap.size, 1, none⟩ (.string x1)).setCell ⟨w.heap.size, 2, none⟩ (.string x2)).setCell ⟨w.heap.size, 3, none⟩ (.int .i64 a)).setCell ⟨w.heap.size, 4, none⟩ (.int .i64 b)).cell? ⟨w.heap.size + 1, 3, none⟩ = some (.int .i64 a') := cell_set5 (by omega) cy3
      replace cyf3 : (((((w2.setCell ⟨w.heap.size, 0, none⟩ (.int .i64 k)).setCell ⟨w.heap.size, 1, none⟩ (.string x1)).setCell ⟨w.heap.size, 2, none⟩ (.string x2)).setCell ⟨w.heap.size, 3, none⟩ (.int .i64 a)).setCell ⟨w.heap.size, 4, none⟩ (.int .i64 b)).frozen? ⟨w.heap.size + 1, 3, none⟩ = false := frozen_set5 cyf3
      replace cy4 : (((((w2.setCell ⟨w.heap.size, 0, none⟩ (.int .i64 k)).setCell ⟨w.heap.size, 1, none⟩ (.string x1)).setCell ⟨w.heap.size, 2, none⟩ (.string x2)).setCell ⟨w.heap.size, 3, none⟩ (.int .i64 a)).setCell ⟨w.heap.size, 4, none⟩ (.int .i64 b)).cell? ⟨w.heap.size + 1, 4, none⟩ = some (.int .i64 b') := cell_set5 (by omega) cy4
      replace cyf4 : (((((w2.setCell ⟨w.heap.size, 0, none⟩ (.int .i64 k)).setCell ⟨w.heap.size, 1, none⟩ (.string x1)).setCell ⟨w.heap.size, 2, none⟩ (.string x2)).setCell ⟨w.heap.size, 3, none⟩ (.int .i64 a)).setCell ⟨w.heap.size, 4, none⟩ (.int .i64 b)).frozen? ⟨w.heap.size + 1, 4, none⟩ = false := frozen_set5 cyf4
      have k5 := set5 (v0 := .int .i64 k) (v1 := .string x1) (v2 := .string x2) (v3 := .int .i64 a) (v4 := .int .i64 b) cx0 cx1 cx2 cx3 cx4
      replace cxf0 : (((((w2.setCell ⟨w.heap.size, 0, none⟩ (.int .i64 k)).setCell ⟨w.heap.size, 1, none⟩ (.string x1)).setCell ⟨w.heap.size, 2, none⟩ (.string x2)).setCell ⟨w.heap.size, 3, none⟩ (.int .i64 a)).setCell ⟨w.heap.size, 4, none⟩ (.int .i64 b)).frozen? ⟨w.heap.size, 0, none⟩ = false := frozen_set5 cxf0
      replace cxf1 : (((((w2.setCell ⟨w.heap.size, 0, none⟩ (.int .i64 k)).setCell ⟨w.heap.size, 1, none⟩ (.string x1)).setCell ⟨w.heap.size, 2, none⟩ (.string x2)).setCell ⟨w.heap.size, 3, none⟩ (.int .i64 a)).setCell ⟨w.heap.size, 4, none⟩ (.int .i64 b)).frozen? ⟨w.heap.size, 1, none⟩ = false := frozen_set5 cxf1
      replace cxf2 : (((((w2.setCell ⟨w.heap.size, 0, none⟩ (.int .i64 k)).setCell ⟨w.heap.size, 1, none⟩ (.string x1)).setCell ⟨w.heap.size, 2, none⟩ (.string x2)).setCell ⟨w.heap.size, 3, none⟩ (.int .i64 a)).setCell ⟨w.heap.size, 4, none⟩ (.int .i64 b)).frozen? ⟨w.heap.size, 2, none⟩ = false := frozen_set5 cxf2
      replace cxf3 : (((((w2.setCell ⟨w.heap.size, 0, none⟩ (.int .i64 k)).setCell ⟨w.heap.size, 1, none⟩ (.string x1)).setCell ⟨w.heap.size, 2, none⟩ (.string x2)).setCell ⟨w.heap.size, 3, none⟩ (.int .i64 a)).setCell ⟨w.heap.size, 4, none⟩ (.int .i64 b)).frozen? ⟨w.heap.size, 3, none⟩ = false := frozen_set5 cxf3
      replace cxf4 : (((((w2.setCell ⟨w.heap.size, 0, none⟩ (.int .i64 k)).setCell ⟨w.heap.size, 1, none⟩ (.string x1)).setCell ⟨w.heap.size, 2, none⟩ (.string x2)).setCell ⟨w.heap.size, 3, none⟩ (.int .i64 a)).setCell ⟨w.heap.size, 4, none⟩ (.int .i64 b)).frozen? ⟨w.heap.size, 4, none⟩ = false := frozen_set5 cxf4
      clear cx0 cx1 cx2 cx3 cx4
      obtain ⟨cx0, cx1, cx2, cx3, cx4⟩ := k5
      have hge : w.heap.size ≤ w.heap.size := by omega
      replace HB := Lib.hid (show Below w.heap.size w (((((w2.setCell ⟨w.heap.size, 0, none⟩ (.int .i64 k)).setCell ⟨w.heap.size, 1, none⟩ (.string x1)).setCell ⟨w.heap.size, 2, none⟩ (.string x2)).setCell ⟨w.heap.size, 3, none⟩ (.int .i64 a)).setCell ⟨w.heap.size, 4, none⟩ (.int .i64 b)) from below_set5 (R := w.heap.size) (v0 := .int .i64 k) (v1 := .string x1) (v2 := .string x2) (v3 := .int .i64 a) (v4 := .int .i64 b) HB.out hge)
      generalize hh2 : (((((w2.setCell ⟨w.heap.size, 0, none⟩ (.int .i64 k)).setCell ⟨w.heap.size, 1, none⟩ (.string x1)).setCell ⟨w.heap.size, 2, none⟩ (.string x2)).setCell ⟨w.heap.size, 3, none⟩ (.int .i64 a)).setCell ⟨w.heap.size, 4, none⟩ (.int .i64 b)) = v2 at *
      clear hh2
      clear hge
      refine (HCUT2.out _).mono ?_
      rintro e w3 ⟨rfl, hb⟩
      replace cxf0 := (hb.frozen (World.block_lt_of_cell? _ _ cx0)).trans cxf0
      replace cx0 := (hb.cell (World.block_lt_of_cell? _ _ cx0)).trans cx0
      replace cxf1 := (hb.frozen (World.block_lt_of_cell? _ _ cx1)).trans cxf1
      replace cx1 := (hb.cell (World.block_lt_of_cell? _ _ cx1)).trans cx1
      replace cxf2 := (hb.frozen (World.block_lt_of_cell? _ _ cx2)).trans cxf2
      replace cx2 := (hb.cell (World.block_lt_of_cell? _ _ cx2)).trans cx2
      replace cxf3 := (hb.frozen (World.block_lt_of_cell? _ _ cx3)).trans cxf3
      replace cx3 := (hb.cell (World.block_lt_of_cell? _ _ cx3)).trans cx3
      replace cxf4 := (hb.frozen (World.block_lt_of_cell? _ _ cx4)).trans cxf4
      replace cx4 := (hb.cell (World.block_lt_of_cell? _ _ cx4)).trans cx4
      replace cyf0 := (hb.frozen (World.block_lt_of_cell? _ _ cy0)).trans cyf0
      replace cy0 := (hb.cell (World.block_lt_of_cell? _ _ cy0)).trans cy0
      replace cyf1 := (hb.frozen (World.block_lt_of_cell? _ _ cy1)).trans cyf1
      replace cy1 := (hb.cell (World.block_lt_of_cell? _ _ cy1)).trans cy1
      replace cyf2 := (hb.frozen (World.block_lt_of_cell? _ _ cy2)).trans cyf2
      replace cy2 := (hb.cell (World.block_lt_of_cell? _ _ cy2)).trans cy2
      replace cyf3 := (hb.frozen (World.block_lt_of_cell? _ _ cy3)).trans cyf3
      replace cy3 := (hb.cell (World.block_lt_of_cell? _ _ cy3)).trans cy3
      replace cyf4 := (hb.frozen (World.block_lt_of_cell? _ _ cy4)).trans cyf4
      replace cy4 := (hb.cell (World.block_lt_of_cell? _ _ cy4)).trans cy4
      replace HB := Lib.hid (HB.out.trans (hb.mono HB.out.size))
      clear hb
      go_wp2_with fail
      replace cx0 : (((((w3.setCell ⟨w.heap.size + 1, 0, none⟩ (.int .i64 k')).setCell ⟨w.heap.size + 1, 1, none⟩ (.string y1)).setCell ⟨w.heap.size + 1, 2, none⟩ (.string y2)).setCell ⟨w.heap.size + 1, 3, none⟩ (.int .i64 a')).setCell ⟨w.heap.size + 1, 4, none⟩ (.int .i64 b')).cell? ⟨w.heap.size, 0, none⟩ = some (.int .i64 k) := cell_set5 (by omega) cx0
      replace cxf0 : (((((w3.setCell ⟨w.heap.size + 1, 0, none⟩ (.int .i64 k')).setCell ⟨w.heap.size + 1, 1, none⟩ (.string y1)).setCell ⟨w.heap.size + 1, 2, none⟩ (.string y2)).setCell ⟨w.heap.size + 1, 3, none⟩ (.int .i64 a')).setCell ⟨w.heap.size + 1, 4, none⟩ (.int .i64 b')).frozen? ⟨w.heap.size, 0, none⟩ = false := frozen_set5 cxf0
      replace cx1 : (((((w3.setCell ⟨w.heap.size + 1, 0, none⟩ (.int .i64 k')).setCell ⟨w.heap.size + 1, 1, none⟩ (.string y1)).setCell ⟨w.heap.size + 1, 2, none⟩ (.string y2)).setCell ⟨w.heap.size + 1, 3, none⟩ (.int .i64 a')).setCell ⟨w.heap.size + 1, 4, none⟩ (.int .i64 b')).cell? ⟨w.heap.size, 1, none⟩ = some (.string x1) := cell_set5 (by omega) cx1
      replace cxf1 : (((((w3.setCell ⟨w.heap.size + 1, 0, none⟩ (.int .i64 k')).setCell ⟨w.heap.size + 1, 1, none⟩ (.string y1)).setCell ⟨w.heap.size + 1, 2, none⟩ (.string y2)).setCell ⟨w.heap.size + 1, 3, none⟩ (.int .i64 a')).setCell ⟨w.heap.size + 1, 4, none⟩ (.int .i64 b')).frozen? ⟨w.heap.size, 1, none⟩ = false := frozen_set5 cxf1
      replace cx2 : (((((w3.setCell ⟨w.heap.size + 1, 0, none⟩ (.int .i64 k')).setCell ⟨w.heap.size + 1, 1, none⟩ (.string y1)).setCell ⟨w.heap.size + 1, 2, none⟩ (.string y2)).setCell ⟨w.heap.size + 1, 3, none⟩ (.int .i64 a')).setCell ⟨w.heap.size + 1, 4, none⟩ (.int .i64 b')).cell? ⟨w.heap.size, 2, none⟩ = some (.string x2) := cell_set5 (by omega) cx2
      replace cxf2 : (((((w3.setCell ⟨w.heap.size + 1, 0, none⟩ (.int .i64 k')).setCell ⟨w.heap.size + 1, 1, none⟩ (.string y1)).setCell ⟨w.heap.size + 1, 2, none⟩ (.string y2)).setCell ⟨w.heap.size + 1, 3, none⟩ (.int .i64 a')).setCell ⟨w.heap.size + 1, 4, none⟩ (.int .i64 b')).frozen? ⟨w.heap.size, 2, none⟩ = false := frozen_set5 cxf2
      replace cx3 : (((((w3.setCell ⟨w.heap.size + 1, 0, none⟩ (.int .i64 k')).setCell ⟨w.heap.size + 1, 1, none⟩ (.string y1)).setCell ⟨w.heap.size + 1, 2, none⟩ (.string y2)).setCell ⟨w.heap.size + 1, 3, none⟩ (.int .i64 a')).setCell ⟨w.heap.size + 1, 4, none⟩ (.int .i64 b')).cell? ⟨w.heap.size, 3, none⟩ = some (.int .i64 a) := cell_set5 (by omega) cx3
      replace cxf3 : (((((w3.setCell ⟨w.heap.size + 1, 0, none⟩ (.int .i64 k')).setCell ⟨w.heap.size + 1, 1, none⟩ (.string y1)).setCell ⟨w.heap.size + 1, 2, none⟩ (.string y2)).setCell ⟨w.heap.size + 1, 3, none⟩ (.int .i64 a')).setCell ⟨w.heap.size + 1, 4, none⟩ (.int .i64 b')).frozen? ⟨w.heap.size, 3, none⟩ = false := frozen_set5 cxf3
      replace cx4 : (((((w3.setCell ⟨w.heap.size + 1, 0, none⟩ (.int .i64 k')).setCell ⟨w.heap.size + 1, 1, none⟩ (.string y1)).setCell ⟨w.heap.size + 1, 2, none⟩ (.string y2)).setCell ⟨w.heap.size + 1, 3, none⟩ (.int .i64 a')).setCell ⟨w.heap.size + 1, 4, none⟩ (.int .i64 b')).cell? ⟨w.heap.size, 4, none⟩ = some (.int .i64 b) := cell_set5 (by omega) cx4
      replace cxf4 : (((((w3.setCell ⟨w.heap.size + 1, 0, none⟩ (.int .i64 k')).setCell ⟨w.heap.size + 1, 1, none⟩ (.string y1)).setCell ⟨w.heap.size + 1, 2, none⟩ (.string y2)).setCell ⟨w.heap.size + 1, 3, none⟩ (.int .i64 a')).setCell ⟨w.heap.size + 1, 4, none⟩ (.int .i64 b')).frozen? ⟨w.heap.size, 4, none⟩ = false := frozen_set5 cxf4
      have k5 := set5 (v0 := .int .i64 k') (v1 := .string y1) (v2 := .string y2) (v3 := .int .i64 a') (v4 := .int .i64 b') cy0 cy1 cy2 cy3 cy4
      replace cyf0 : (((((w3.setCell ⟨w.heap.size + 1, 0, none⟩ (.int .i64 k')).setCell ⟨w.heap.size + 1, 1, none⟩ (.string y1)).setCell ⟨w.heap.size + 1, 2, none⟩ (.string y2)).setCell ⟨w.heap.size + 1, 3, none⟩ (.int .i64 a')).setCell ⟨w.heap.size + 1, 4, none⟩ (.int .i64 b')).frozen? ⟨w.heap.size + 1, 0, none⟩ = false := frozen_set5 cyf0
      replace cyf1 : (((((w3.setCell ⟨w.heap.size + 1, 0, none⟩ (.int .i64 k')).setCell ⟨w.heap.size + 1, 1, none⟩ (.string y1)).setCell ⟨w.heap.size + 1, 2, none⟩ (.string y2)).setCell ⟨w.heap.size + 1, 3, none⟩ (.int .i64 a')).setCell ⟨w.heap.size + 1, 4, none⟩ (.int .i64 b')).frozen? ⟨w.heap.size + 1, 1, none⟩ = false := frozen_set5 cyf1
      replace cyf2 : (((((w3.setCell ⟨w.heap.size + 1, 0, none⟩ (.int .i64 k')).setCell ⟨w.heap.size + 1, 1, none⟩ (.string y1)).setCell ⟨w.heap.size + 1, 2, none⟩ (.string y2)).setCell ⟨w.heap.size + 1, 3, none⟩ (.int .i64 a')).setCell ⟨w.heap.size + 1, 4, none⟩ (.int .i64 b')).frozen? ⟨w.heap.size + 1, 2, none⟩ = false := frozen_set5 cyf2
      replace cyf3 : (((((w3.setCell ⟨w.heap.size + 1, 0, none⟩ (.int .i64 k')).setCell ⟨w.heap.size + 1, 1, none⟩ (.string y1)).setCell ⟨w.heap.size + 1, 2, none⟩ (.string y2)).setCell ⟨w.heap.size + 1, 3, none⟩ (.int .i64 a')).setCell ⟨w.heap.size + 1, 4, none⟩ (.int .i64 b')).frozen? ⟨w.heap.size + 1, 3, none⟩ = false := frozen_set5 cyf3
      replace cyf4 : (((((w3.setCell ⟨w.heap.size + 1, 0, none⟩ (.int .i64 k')).setCell ⟨w.heap.size + 1, 1, none⟩ (.string y1)).setCell ⟨w.heap.size + 1, 2, none⟩ (.string y2)).setCell ⟨w.heap.size + 1, 3, none⟩ (.int .i64 a')).setCell ⟨w.heap.size + 1, 4, none⟩ (.int .i64 b')).frozen? ⟨w.heap.size + 1, 4, none⟩ = false := frozen_set5 cyf4
      clear cy0 cy1 cy2 cy3 cy4
      obtain ⟨cy0, cy1, cy2, cy3, cy4⟩ := k5
      have hge : w.heap.size ≤ w.heap.size + 1 := by omega
      replace HB := Lib.hid (show Below w.heap.size w (((((w3.setCell ⟨w.heap.size + 1, 0, none⟩ (.int .i64 k')).setCell ⟨w.heap.size + 1, 1, none⟩ (.string y1)).setCell ⟨w.heap.size + 1, 2, none⟩ (.string y2)).setCell ⟨w.heap.size + 1, 3, none⟩ (.int .i64 a')).setCell ⟨w.heap.size + 1, 4, none⟩ (.int .i64 b')) from below_set5 (R := w.heap.size + 1) (v0 := .int .i64 k') (v1 := .string y1) (v2 := .string y2) (v3 := .int .i64 a') (v4 := .int .i64 b') HB.out hge)
      generalize hh3 : (((((w3.setCell ⟨w.heap.size + 1, 0, none⟩ (.int .i64 k')).setCell ⟨w.heap.size + 1, 1, none⟩ (.string y1)).setCell ⟨w.heap.size + 1, 2, none⟩ (.string y2)).setCell ⟨w.heap.size + 1, 3, none⟩ (.int .i64 a')).setCell ⟨w.heap.size + 1, 4, none⟩ (.int .i64 b')) = v3 at *
      clear hh3
      clear hge
      refine (HPR.out _ (HE.out.below HB.out)).mono ?_
      rintro e w4 ⟨rfl, hb⟩
      replace cxf0 := (hb.frozen (World.block_lt_of_cell? _ _ cx0)).trans cxf0
      replace cx0 := (hb.cell (World.block_lt_of_cell? _ _ cx0)).trans cx0
      replace cxf1 := (hb.frozen (World.block_lt_of_cell? _ _ cx1)).trans cxf1
      replace cx1 := (hb.cell (World.block_lt_of_cell? _ _ cx1)).trans cx1
      replace cxf2 := (hb.frozen (World.block_lt_of_cell? _ _ cx2)).trans cxf2
      replace cx2 := (hb.cell (World.block_lt_of_cell? _ _ cx2)).trans cx2
      replace cxf3 := (hb.frozen (World.block_lt_of_cell? _ _ cx3)).trans cxf3
      replace cx3 := (hb.cell (World.block_lt_of_cell? _ _ cx3)).trans cx3
      replace cxf4 := (hb.frozen (World.block_lt_of_cell? _ _ cx4)).trans cxf4
      replace cx4 := (hb.cell (World.block_lt_of_cell? _ _ cx4)).trans cx4
      replace cyf0 := (hb.frozen (World.block_lt_of_cell? _ _ cy0)).trans cyf0
      replace cy0 := (hb.cell (World.block_lt_of_cell? _ _ cy0)).trans cy0
      replace cyf1 := (hb.frozen (World.block_lt_of_cell? _ _ cy1)).trans cyf1
      replace cy1 := (hb.cell (World.block_lt_of_cell? _ _ cy1)).trans cy1
      replace cyf2 := (hb.frozen (World.block_lt_of_cell? _ _ cy2)).trans cyf2
      replace cy2 := (hb.cell (World.block_lt_of_cell? _ _ cy2)).trans cy2
      replace cyf3 := (hb.frozen (World.block_lt_of_cell? _ _ cy3)).trans cyf3
      replace cy3 := (hb.cell (World.block_lt_of_cell? _ _ cy3)).trans cy3
      replace cyf4 := (hb.frozen (World.block_lt_of_cell? _ _ cy4)).trans cyf4
      replace cy4 := (hb.cell (World.block_lt_of_cell? _ _ cy4)).trans cy4
      replace HB := Lib.hid (HB.out.trans (hb.mono HB.out.size))
      clear hb
      go_wp2_with fail
      refine (HPR2.out _ (HE.out.below HB.out)).mono ?_
      rintro e w5 ⟨rfl, hb⟩
      replace cxf0 := (hb.frozen (World.block_lt_of_cell? _ _ cx0)).trans cxf0
      replace cx0 := (hb.cell (World.block_lt_of_cell? _ _ cx0)).trans cx0
      replace cxf1 := (hb.frozen (World.block_lt_of_cell? _ _ cx1)).trans cxf1
      replace cx1 := (hb.cell (World.block_lt_of_cell? _ _ cx1)).trans cx1
      replace cxf2 := (hb.frozen (World.block_lt_of_cell? _ _ cx2)).trans cxf2
      replace cx2 := (hb.cell (World.block_lt_of_cell? _ _ cx2)).trans cx2
      replace cxf3 := (hb.frozen (World.block_lt_of_cell? _ _ cx3)).trans cxf3
      replace cx3 := (hb.cell (World.block_lt_of_cell? _ _ cx3)).trans cx3
      replace cxf4 := (hb.frozen (World.block_lt_of_cell? _ _ cx4)).trans cxf4
      replace cx4 := (hb.cell (World.block_lt_of_cell? _ _ cx4)).trans cx4
      replace cyf0 := (hb.frozen (World.block_lt_of_cell? _ _ cy0)).trans cyf0
      replace cy0 := (hb.cell (World.block_lt_of_cell? _ _ cy0)).trans cy0
      replace cyf1 := (hb.frozen (World.block_lt_of_cell? _ _ cy1)).trans cyf1
      replace cy1 := (hb.cell (World.block_lt_of_cell? _ _ cy1)).trans cy1
      replace cyf2 := (hb.frozen (World.block_lt_of_cell? _ _ cy2)).trans cyf2
      replace cy2 := (hb.cell (World.block_lt_of_cell? _ _ cy2)).trans cy2
      replace cyf3 := (hb.frozen (World.block_lt_of_cell? _ _ cy3)).trans cyf3
      replace cy3 := (hb.cell (World.block_lt_of_cell? _ _ cy3)).trans cy3
      replace cyf4 := (hb.frozen (World.block_lt_of_cell? _ _ cy4)).trans cyf4
      replace cy4 := (hb.cell (World.block_lt_of_cell? _ _ cy4)).trans cy4
      replace HB := Lib.hid (HB.out.trans (hb.mono HB.out.size))
      clear hb
      clear HCUT HCUT2 HPR HPR2 HE
      go_wp2_with fail
      go_ret
      exact ⟨rfl, HB.out⟩
  | true =>
    clear h1
    simp only [if_true] at HPR
    cases r' with
    | false =>
      obtain rfl := h2 rfl
      clear h2 hp heq
      simp only [Bool.false_eq_true, if_false] at HPR2
      go_enter Tryd.func5, Tryd.ntmps5
      go_wp2_with fail
      have cx0 : ((w.alloc (.cells #[.int .i64 k, .string nd, .string sv, .int .i64 a, .int .i64 b] 23)).alloc (.cells #[.int .i64 k', .string nd', .string sv', .int .i64 a', .int .i64 b'] 23)).cell? ⟨w.heap.size, 0, none⟩ = some (.int .i64 k) := by go_simp
      have cxf0 : ((w.alloc (.cells #[.int .i64 k, .string nd, .string sv, .int .i64 a, .int .i64 b] 23)).alloc (.cells #[.int .i64 k', .string nd', .string sv', .int .i64 a', .int .i64 b'] 23)).frozen? ⟨w.heap.size, 0, none⟩ = false := by go_simp
      have cx1 : ((w.alloc (.cells #[.int .i64 k, .string nd, .string sv, .int .i64 a, .int .i64 b] 23)).alloc (.cells #[.int .i64 k', .string nd', .string sv', .int .i64 a', .int .i64 b'] 23)).cell? ⟨w.heap.size, 1, none⟩ = some (.string nd) := by go_simp
      have cxf1 : ((w.alloc (.cells #[.int .i64 k, .string nd, .string sv, .int .i64 a, .int .i64 b] 23)).alloc (.cells #[.int .i64 k', .string nd', .string sv', .int .i64 a', .int .i64 b'] 23)).frozen? ⟨w.heap.size, 1, none⟩ = false := by go_simp
      have cx2 : ((w.alloc (.cells #[.int .i64 k, .string nd, .string sv, .int .i64 a, .int .i64 b] 23)).alloc (.cells #[.int .i64 k', .string nd', .string sv', .int .i64 a', .int .i64 b'] 23)).cell? ⟨w.heap.size, 2, none⟩ = some (.string sv) := by go_simp
      have cxf2 : ((w.alloc (.cells #[.int .i64 k, .string nd, .string sv, .int .i64 a, .int .i64 b] 23)).alloc (.cells #[.int .i64 k', .string nd', .string sv', .int .i64 a', .int .i64 b'] 23)).frozen? ⟨w.heap.size, 2, none⟩ = false := by go_simp
      have cx3 : ((w.alloc (.cells #[.int .i64 k, .string nd, .string sv, .int .i64 a, .int .i64 b] 23)).alloc (.cells #[.int .i64 k', .string nd', .string sv', .int .i64 a', .int .i64 b'] 23)).cell? ⟨w.heap.size, 3, none⟩ = some (.int .i64 a) := by go_simp
      have cxf3 : ((w.alloc (.cells #[.int .i64 k, .string nd, .string sv, .int .i64 a, .int .i64 b] 23)).alloc (.cells #[.int .i64 k', .string nd', .string sv', .int .i64 a', .int .i64 b'] 23)).frozen? ⟨w.heap.size, 3, none⟩ = false := by go_simp
      have cx4 : ((w.alloc (.cells #[.int .i64 k, .string nd, .string sv, .int .i64 a, .int .i64 b] 23)).alloc (.cells #[.int .i64 k', .string nd', .string sv', .int .i64 a', .int .i64 b'] 23)).cell? ⟨w.heap.size, 4, none⟩ = some (.int .i64 b) := by go_simp
      have cxf4 : ((w.alloc (.cells #[.int .i64 k, .string nd, .string sv, .int .i64 a, .int .i64 b] 23)).alloc (.cells #[.int .i64 k', .string nd', .string sv', .int .i64 a', .int .i64 b'] 23)).frozen? ⟨w.heap.size, 4, none⟩ = false := by go_simp
      have cy0 : ((w.alloc (.cells #[.int .i64 k, .string nd, .string sv, .int .i64 a, .int .i64 b] 23)).alloc (.cells #[.int .i64 k', .string nd', .string sv', .int .i64 a', .int .i64 b'] 23)).cell? ⟨w.heap.size + 1, 0, none⟩ = some (.int .i64 k') := by go_simp
      have cyf0 : ((w.alloc (.cells #[.int .i64 k, .string nd, .string sv, .int .i64 a, .int .i64 b] 23)).alloc (.cells #[.int .i64 k', .string nd', .string sv', .int .i64 a', .int .i64 b'] 23)).frozen? ⟨w.heap.size + 1, 0, none⟩ = false := by go_simp
      have cy1 : ((w.alloc (.cells #[.int .i64 k, .string nd, .string sv, .int .i64 a, .int .i64 b] 23)).alloc (.cells #[.int .i64 k', .string nd', .string sv', .int .i64 a', .int .i64 b'] 23)).cell? ⟨w.heap.size + 1, 1, none⟩ = some (.string nd') := by go_simp
      have cyf1 : ((w.alloc (.cells #[.int .i64 k, .string nd, .string sv, .int .i64 a, .int .i64 b] 23)).alloc (.cells #[.int .i64 k', .string nd', .string sv', .int .i64 a', .int .i64 b'] 23)).frozen? ⟨w.heap.size + 1, 1, none⟩ = false := by go_simp
      have cy2 : ((w.alloc (.cells #[.int .i64 k, .string nd, .string sv, .int .i64 a, .int .i64 b] 23)).alloc (.cells #[.int .i64 k', .string nd', .string sv', .int .i64 a', .int .i64 b'] 23)).cell? ⟨w.heap.size + 1, 2, none⟩ = some (.string sv') := by go_simp
      have cyf2 : ((w.alloc (.cells #[.int .i64 k, .string nd, .string sv, .int .i64 a, .int .i64 b] 23)).alloc (.cells #[.int .i64 k', .string nd', .string sv', .int .i64 a', .int .i64 b'] 23)).frozen? ⟨w.heap.size + 1, 2, none⟩ = false := by go_simp
      have cy3 : ((w.alloc (.cells #[.int .i64 k, .string nd, .string sv, .int .i64 a, .int .i64 b] 23)).alloc (.cells #[.int .i64 k', .string nd', .string sv', .int .i64 a', .int .i64 b'] 23)).cell? ⟨w.heap.size + 1, 3, none⟩ = some (.int .i64 a') := by go_simp
      have cyf3 : ((w.alloc (.cells #[.int .i64 k, .string nd, .string sv, .int .i64 a, .int .i64 b] 23)).alloc (.cells #[.int .i64 k', .string nd', .string sv', .int .i64 a', .int .i64 b'] 23)).frozen? ⟨w.heap.size + 1, 3, none⟩ = false := by go_simp
      have cy4 : ((w.alloc (.cells #[.int .i64 k, .string nd, .string sv, .int .i64 a, .int .i64 b] 23)).alloc (.cells #[.int .i64 k', .string nd', .string sv', .int .i64 a', .int .i64 b'] 23)).cell? ⟨w.heap.size + 1, 4, none⟩ = some (.int .i64 b') := by go_simp
      have cyf4 : ((w.alloc (.cells #[.int .i64 k, .string nd, .string sv, .int .i64 a, .int .i64 b] 23)).alloc (.cells #[.int .i64 k', .string nd', .string sv', .int .i64 a', .int .i64 b'] 23)).frozen? ⟨w.heap.size + 1, 4, none⟩ = false := by go_simp
      have HB := Lib.hid (show Below w.heap.size w ((w.alloc (.cells #[.int .i64 k, .string nd, .string sv, .int .i64 a, .int .i64 b] 23)).alloc (.cells #[.int .i64 k', .string nd', .string sv', .int .i64 a', .int .i64 b'] 23)) from below_alloc_l (below_alloc_l (Below.refl _ _)))
      generalize hh1 : ((w.alloc (.cells #[.int .i64 k, .string nd, .string sv, .int .i64 a, .int .i64 b] 23)).alloc (.cells #[.int .i64 k', .string nd', .string sv', .int .i64 a', .int .i64 b'] 23)) = v1 at *
      clear hh1
      refine (shown_any _ (HE.out.below HB.out)).mono ?_
      rintro e w1 ⟨rfl, hb⟩
      replace cxf0 := (hb.frozen (World.block_lt_of_cell? _ _ cx0)).trans cxf0
      replace cx0 := (hb.cell (World.block_lt_of_cell? _ _ cx0)).trans cx0
      replace cxf1 := (hb.frozen (World.block_lt_of_cell? _ _ cx1)).trans cxf1
      replace cx1 := (hb.cell (World.block_lt_of_cell? _ _ cx1)).trans cx1
      replace cxf2 := (hb.frozen (World.block_lt_of_cell? _ _ cx2)).trans cxf2
      replace cx2 := (hb.cell (World.block_lt_of_cell? _ _ cx2)).trans cx2
      replace cxf3 := (hb.frozen (World.block_lt_of_cell? _ _ cx3)).trans cxf3
      replace cx3 := (hb.cell (World.block_lt_of_cell? _ _ cx3)).trans cx3
      replace cxf4 := (hb.frozen (World.block_lt_of_cell? _ _ cx4)).trans cxf4
      replace cx4 := (hb.cell (World.block_lt_of_cell? _ _ cx4)).trans cx4
      replace cyf0 := (hb.frozen (World.block_lt_of_cell? _ _ cy0)).trans cyf0
      replace cy0 := (hb.cell (World.block_lt_of_cell? _ _ cy0)).trans cy0
      replace cyf1 := (hb.frozen (World.block_lt_of_cell? _ _ cy1)).trans cyf1
      replace cy1 := (hb.cell (World.block_lt_of_cell? _ _ cy1)).trans cy1
      replace cyf2 := (hb.frozen (World.block_lt_of_cell? _ _ cy2)).trans cyf2
      replace cy2 := (hb.cell (World.block_lt_of_cell? _ _ cy2)).trans cy2
      replace cyf3 := (hb.frozen (World.block_lt_of_cell? _ _ cy3)).trans cyf3
      replace cy3 := (hb.cell (World.block_lt_of_cell? _ _ cy3)).trans cy3
      replace cyf4 := (hb.frozen (World.block_lt_of_cell? _ _ cy4)).trans cyf4
      replace cy4 := (hb.cell (World.block_lt_of_cell? _ _ cy4)).trans cy4
      replace HB := Lib.hid (HB.out.trans (hb.mono HB.out.size))
      clear hb
      go_wp2_with fail
      refine (HCUT.out _).mono ?_
      rintro e w2 ⟨rfl, hb⟩
      replace cxf0 := (hb.frozen (World.block_lt_of_cell? _ _ cx0)).trans cxf0
      replace cx0 := (hb.cell (World.block_lt_of_cell? _ _ cx0)).trans cx0
      replace cxf1 := (hb.frozen (World.block_lt_of_cell? _ _ cx1)).trans cxf1
      replace cx1 := (hb.cell (World.block_lt_of_cell? _ _ cx1)).trans cx1
      replace cxf2 := (hb.frozen (World.block_lt_of_cell? _ _ cx2)).trans cxf2
      replace cx2 := (hb.cell (World.block_lt_of_cell? _ _ cx2)).trans cx2
      replace cxf3 := (hb.frozen (World.block_lt_of_cell? _ _ cx3)).trans cxf3
      replace cx3 := (hb.cell (World.block_lt_of_cell? _ _ cx3)).trans cx3
      replace cxf4 := (hb.frozen (World.block_lt_of_cell? _ _ cx4)).trans cxf4
      replace cx4 := (hb.cell (World.block_lt_of_cell? _ _ cx4)).trans cx4
      replace cyf0 := (hb.frozen (World.block_lt_of_cell? _ _ cy0)).trans cyf0
      replace cy0 := (hb.cell (World.block_lt_of_cell? _ _ cy0)).trans cy0
      replace cyf1 := (hb.frozen (World.block_lt_of_cell? _ _ cy1)).trans cyf1
      replace cy1 := (hb.cell (World.block_lt_of_cell? _ _ cy1)).trans cy1
      replace cyf2 := (hb.frozen (World.block_lt_of_cell? _ _ cy2)).trans cyf2
      replace cy2 := (hb.cell (World.block_lt_of_cell? _ _ cy2)).trans cy2
      replace cyf3 := (hb.frozen (World.block_lt_of_cell? _ _ cy3)).trans cyf3
      replace cy3 := (hb.cell (World.block_lt_of_cell? _ _ cy3)).trans cy3
      replace cyf4 := (hb.frozen (World.block_lt_of_cell? _ _ cy4)).trans cyf4
      replace cy4 := (hb.cell (World.block_lt_of_cell? _ _ cy4)).trans cy4
      replace HB := Lib.hid (HB.out.trans (hb.mono HB.out.size))
      clear hb
      go_wp2_with fail
      replace cy0 : (((((w2.setCell ⟨w.heap.size, 0, none⟩ (.int .i64 k)).setCell ⟨w.heap.size, 1, none⟩ (.string x1)).setCell ⟨w.heap.size, 2, none⟩ (.string x2)).setCell ⟨w.heap.size, 3, none⟩ (.int .i64 a)).setCell ⟨w.heap.size, 4, none⟩ (.int .i64 b)).cell? ⟨w.heap.size + 1, 0, none⟩ = some (.int .i64 k') := cell_set5 (by omega) cy0
      replace cyf0 : (((((w2.setCell ⟨w.heap.size, 0, none⟩ (.int .i64 k)).setCell ⟨w.heap.size, 1, none⟩ (.string x1)).setCell ⟨w.heap.size, 2, none⟩ (.string x2)).setCell ⟨w.heap.size, 3, none⟩ (.int .i64 a)).setCell ⟨w.heap.size, 4, none⟩ (.int .i64 b)).frozen? ⟨w.heap.size + 1, 0, none⟩ = false := frozen_set5 cyf0
      replace cy1 : (((((w2.setCell ⟨w.heap.size, 0, none⟩ (.int .i64 k)).setCell ⟨w.heap.size, 1, none⟩ (.string x1)).setCell ⟨w.heap.size, 2, none⟩ (.string x2)).setCell ⟨w.heap.size, 3, none⟩ (.int .i64 a)).setCell ⟨w.heap.size, 4, none⟩ (.int .i64 b)).cell? ⟨w.heap.size + 1, 1, none⟩ = some (.string nd') := cell_set5 (by omega) cy1
      replace cyf1 : (((((w2.setCell ⟨w.heap.size, 0, none⟩ (.int .i64 k)).setCell ⟨w.heap.size, 1, none⟩ (.string x1)).setCell ⟨w.heap.size, 2, none⟩ (.string x2)).setCell ⟨w.heap.size, 3, none⟩ (.int .i64 a)).setCell ⟨w.heap.size, 4, none⟩ (.int .i64 b)).frozen? ⟨w.heap.size + 1, 1, none⟩ = false := frozen_set5 cyf1
      replace cy2 : (((((w2.setCell ⟨w.heap.size, 0, none⟩ (.int .i64 k)).setCell ⟨w.heap.size, 1, none⟩ (.string x1)).setCell ⟨w.heap.size, 2, none⟩ (.string x2)).setCell ⟨w.heap.size, 3, none⟩ (.int .i64 a)).setCell ⟨w.heap.size, 4, none⟩ (.int .i64 b)).cell? ⟨w.heap.size + 1, 2, none⟩ = some (.string sv') := cell_set5 (by omega) cy2
      replace cyf2 : (((((w2.setCell ⟨w.heap.size, 0, none⟩ (.int .i64 k)).setCell ⟨w.heap.size, 1, none⟩ (.string x1)).setCell ⟨w.heap.size, 2, none⟩ (.string x2)).setCell ⟨w.heap.size, 3, none⟩ (.int .i64 a)).setCell ⟨w.heap.size, 4, none⟩ (.int .i64 b)).frozen? ⟨w.heap.size + 1, 2, none⟩ = false := frozen_set5 cyf2
      replace cy3 : (((((w2.setCell ⟨w.heap.size, 0, none⟩ (.int .i64 k)).setCell ⟨w.heap.size, 1, none⟩ (.string x1)).setCell ⟨w.heap.size, 2, none⟩ (.string x2)).setCell ⟨w.heap.size, 3, none⟩ (.int .i64 a)).setCell ⟨w.heap.size, 4, none⟩ (.int .i64 b)).cell? ⟨w.heap.size + 1, 3, none⟩ = some (.int .i64 a') := cell_set5 (by omega) cy3
      replace cyf3 : (((((w2.setCell ⟨w.heap.size, 0, none⟩ (.int .i64 k)).setCell ⟨w.heap.size, 1, none⟩ (.string x1)).setCell ⟨w.heap.size, 2, none⟩ (.string x2)).setCell ⟨w.heap.size, 3, none⟩ (.int .i64 a)).setCell ⟨w.heap.size, 4, none⟩ (.int .i64 b)).frozen? ⟨w.heap.size + 1, 3, none⟩ = false := frozen_set5 cyf3
      replace cy4 : (((((w2.setCell ⟨w.heap.size, 0, none⟩ (.int .i64 k)).setCell ⟨w.heap.size, 1, none⟩ (.string x1)).setCell ⟨w.heap.size, 2, none⟩ (.string x2)).setCell ⟨w.heap.size, 3, none⟩ (.int .i64 a)).setCell ⟨w.heap.size, 4, none⟩ (.int .i64 b)).cell? ⟨w.heap.size + 1, 4, none⟩ = some (.int .i64 b') := cell_set5 (by omega) cy4
      replace cyf4 : (((((w2.setCell ⟨w.heap.size, 0, none⟩ (.int .i64 k)).setCell ⟨w.heap.size, 1, none⟩ (.string x1)).setCell ⟨w.heap.size, 2, none⟩ (.string x2)).setCell ⟨w.heap.size, 3, none⟩ (.int .i64 a)).setCell ⟨w.heap.size, 4, none⟩ (.int .i64 b)).frozen? ⟨w.heap.size + 1, 4, none⟩ = false := frozen_set5 cyf4
      have k5 := set5 (v0 := .int .i64 k) (v1 := .string x1) (v2 := .string x2) (v3 := .int .i64 a) (v4 := .int .i64 b) cx0 cx1 cx2 cx3 cx4
      replace cxf0 : (((((w2.setCell ⟨w.heap.size, 0, none⟩ (.int .i64 k)).setCell ⟨w.heap.size, 1, none⟩ (.string x1)).setCell ⟨w.heap.size, 2, none⟩ (.string x2)).setCell ⟨w.heap.size, 3, none⟩ (.int .i64 a)).setCell ⟨w.heap.size, 4, none⟩ (.int .i64 b)).frozen? ⟨w.heap.size, 0, none⟩ = false := frozen_set5 cxf0
      replace cxf1 : (((((w2.setCell ⟨w.heap.size, 0, none⟩ (.int .i64 k)).setCell ⟨w.heap.size, 1, none⟩ (.string x1)).setCell ⟨w.heap.size, 2, none⟩ (.string x2)).setCell ⟨w.heap.size, 3, none⟩ (.int .i64 a)).setCell ⟨w.heap.size, 4, none⟩ (.int .i64 b)).frozen? ⟨w.heap.size, 1, none⟩ = false := frozen_set5 cxf1
      replace cxf2 : (((((w2.setCell ⟨w.heap.size, 0, none⟩ (.int .i64 k)).setCell ⟨w.heap.size, 1, none⟩ (.string x1)).setCell ⟨w.heap.size, 2, none⟩ (.string x2)).setCell ⟨w.heap.size, 3, none⟩ (.int .i64 a)).setCell ⟨w.heap.size, 4, none⟩ (.int .i64 b)).frozen? ⟨w.heap.size, 2, none⟩ = false := frozen_set5 cxf2
      replace cxf3 : (((((w2.setCell ⟨w.heap.size, 0, none⟩ (.int .i64 k)).setCell ⟨w.heap.size, 1, none⟩ (.string x1)).setCell ⟨w.heap.size, 2, none⟩ (.string x2)).setCell ⟨w.heap.size, 3, none⟩ (.int .i64 a)).setCell ⟨w.heap.size, 4, none⟩ (.int .i64 b)).frozen? ⟨w.heap.size, 3, none⟩ = false := frozen_set5 cxf3
      replace cxf4 : (((((w2.setCell ⟨w.heap.size, 0, none⟩ (.int .i64 k)).setCell ⟨w.heap.size, 1, none⟩ (.string x1)).setCell ⟨w.heap.size, 2, none⟩ (.string x2)).setCell ⟨w.heap.size, 3, none⟩ (.int .i64 a)).setCell ⟨w.heap.size, 4, none⟩ (.int .i64 b)).frozen? ⟨w.heap.size, 4, none⟩ = false := frozen_set5 cxf4
      clear cx0 cx1 cx2 cx3 cx4
      obtain ⟨cx0, cx1, cx2, cx3, cx4⟩ := k5
      have hge : w.heap.size ≤ w.heap.size := by omega
      replace HB := Lib.hid (show Below w.heap.size w (((((w2.setCell ⟨w.heap.size, 0, none⟩ (.int .i64 k)).setCell ⟨w.heap.size, 1, none⟩ (.string x1)).setCell ⟨w.heap.size, 2, none⟩ (.string x2)).setCell ⟨w.heap.size, 3, none⟩ (.int .i64 a)).setCell ⟨w.heap.size, 4, none⟩ (.int .i64 b)) from below_set5 (R := w.heap.size) (v0 := .int .i64 k) (v1 := .string x1) (v2 := .string x2) (v3 := .int .i64 a) (v4 := .int .i64 b) HB.out hge)
      generalize hh2 : (((((w2.setCell ⟨w.heap.size, 0, none⟩ (.int .i64 k)).setCell ⟨w.heap.size, 1, none⟩ (.string x1)).setCell ⟨w.heap.size, 2, none⟩ (.string x2)).setCell ⟨w.heap.size, 3, none⟩ (.int .i64 a)).setCell ⟨w.heap.size, 4, none⟩ (.int .i64 b)) = v2 at *
      clear hh2
      clear hge
      refine (HCUT2.out _).mono ?_
      rintro e w3 ⟨rfl, hb⟩
      replace cxf0 := (hb.frozen (World.block_lt_of_cell? _ _ cx0)).trans cxf0
      replace cx0 := (hb.cell (World.block_lt_of_cell? _ _ cx0)).trans cx0
      replace cxf1 := (hb.frozen (World.block_lt_of_cell? _ _ cx1)).trans cxf1
      replace cx1 := (hb.cell (World.block_lt_of_cell? _ _ cx1)).trans cx1
      replace cxf2 := (hb.frozen (World.block_lt_of_cell? _ _ cx2)).trans cxf2
      replace cx2 := (hb.cell (World.block_lt_of_cell? _ _ cx2)).trans cx2
      replace cxf3 := (hb.frozen (World.block_lt_of_cell? _ _ cx3)).trans cxf3
      replace cx3 := (hb.cell (World.block_lt_of_cell? _ _ cx3)).trans cx3
      replace cxf4 := (hb.frozen (World.block_lt_of_cell? _ _ cx4)).trans cxf4
      replace cx4 := (hb.cell (World.block_lt_of_cell? _ _ cx4)).trans cx4
      replace cyf0 := (hb.frozen (World.block_lt_of_cell? _ _ cy0)).trans cyf0
      replace cy0 := (hb.cell (World.block_lt_of_cell? _ _ cy0)).trans cy0
      replace cyf1 := (hb.frozen (World.block_lt_of_cell? _ _ cy1)).trans cyf1
      replace cy1 := (hb.cell (World.block_lt_of_cell? _ _ cy1)).trans cy1
      replace cyf2 := (hb.frozen (World.block_lt_of_cell? _ _ cy2)).trans cyf2
      replace cy2 := (hb.cell (World.block_lt_of_cell? _ _ cy2)).trans cy2
      replace cyf3 := (hb.frozen (World.block_lt_of_cell? _ _ cy3)).trans cyf3
      replace cy3 := (hb.cell (World.block_lt_of_cell? _ _ cy3)).trans cy3
      replace cyf4 := (hb.frozen (World.block_lt_of_cell? _ _ cy4)).trans cyf4
      replace cy4 := (hb.cell (World.block_lt_of_cell? _ _ cy4)).trans cy4
      replace HB := Lib.hid (HB.out.trans (hb.mono HB.out.size))
      clear hb
      go_wp2_with fail
      replace cx0 : (((((w3.setCell ⟨w.heap.size + 1, 0, none⟩ (.int .i64 k')).setCell ⟨w.heap.size + 1, 1, none⟩ (.string y1)).setCell ⟨w.heap.size + 1, 2, none⟩ (.string y2)).setCell ⟨w.heap.size + 1, 3, none⟩ (.int .i64 a')).setCell ⟨w.heap.size + 1, 4, none⟩ (.int .i64 b')).cell? ⟨w.heap.size, 0, none⟩ = some (.int .i64 k) := cell_set5 (by omega) cx0
      replace cxf0 : (((((w3.setCell ⟨w.heap.size + 1, 0, none⟩ (.int .i64 k')).setCell ⟨w.heap.size + 1, 1, none⟩ (.string y1)).setCell ⟨w.heap.size + 1, 2, none⟩ (.string y2)).setCell ⟨w.heap.size + 1, 3, none⟩ (.int .i64 a')).setCell ⟨w.heap.size + 1, 4, none⟩ (.int .i64 b')).frozen? ⟨w.heap.size, 0, none⟩ = false := frozen_set5 cxf0
      replace cx1 : (((((w3.setCell ⟨w.heap.size + 1, 0, none⟩ (.int .i64 k')).setCell ⟨w.heap.size + 1, 1, none⟩ (.string y1)).setCell ⟨w.heap.size + 1, 2, none⟩ (.string y2)).setCell ⟨w.heap.size + 1, 3, none⟩ (.int .i64 a')).setCell ⟨w.heap.size + 1, 4, none⟩ (.int .i64 b')).cell? ⟨w.heap.size, 1, none⟩ = some (.string x1) := cell_set5 (by omega) cx1
      replace cxf1 : (((((w3.setCell ⟨w.heap.size + 1, 0, none⟩ (.int .i64 k')).setCell ⟨w.heap.size + 1, 1, none⟩ (.string y1)).setCell ⟨w.heap.size + 1, 2, none⟩ (.string y2)).setCell ⟨w.heap.size + 1, 3, none⟩ (.int .i64 a')).setCell ⟨w.heap.size + 1, 4, none⟩ (.int .i64 b')).frozen? ⟨w.heap.size, 1, none⟩ = false := frozen_set5 cxf1
      replace cx2 : (((((w3.setCell ⟨w.heap.size + 1, 0, none⟩ (.int .i64 k')).setCell ⟨w.heap.size + 1, 1, none⟩ (.string y1)).setCell ⟨w.heap.size + 1, 2, none⟩ (.string y2)).setCell ⟨w.heap.size + 1, 3, none⟩ (.int .i64 a')).setCell ⟨w.heap.size + 1, 4, none⟩ (.int .i64 b')).cell? ⟨w.heap.size, 2, none⟩ = some (.string x2) := cell_set5 (by omega) cx2
      replace cxf2 : (((((w3.setCell ⟨w.heap.size + 1, 0, none⟩ (.int .i64 k')).setCell ⟨w.heap.size + 1, 1, none⟩ (.string y1)).setCell ⟨w.heap.size + 1, 2, none⟩ (.string y2)).setCell ⟨w.heap.size + 1, 3, none⟩ (.int .i64 a')).setCell ⟨w.heap.size + 1, 4, none⟩ (.int .i64 b')).frozen? ⟨w.heap.size, 2, none⟩ = false := frozen_set5 cxf2
      replace cx3 : (((((w3.setCell ⟨w.heap.size + 1, 0, none⟩ (.int .i64 k')).setCell ⟨w.heap.size + 1, 1, none⟩ (.string y1)).setCell ⟨w.heap.size + 1, 2, none⟩ (.string y2)).setCell ⟨w.heap.size + 1, 3, none⟩ (.int .i64 a')).setCell ⟨w.heap.size + 1, 4, none⟩ (.int .i64 b')).cell? ⟨w.heap.size, 3, none⟩ = some (.int .i64 a) := cell_set5 (by omega) cx3
      replace cxf3 : (((((w3.setCell ⟨w.heap.size + 1, 0, none⟩ (.int .i64 k')).setCell ⟨w.heap.size + 1, 1, none⟩ (.string y1)).setCell ⟨w.heap.size + 1, 2, none⟩ (.string y2)).setCell ⟨w.heap.size + 1, 3, none⟩ (.int .i64 a')).setCell ⟨w.heap.size + 1, 4, none⟩ (.int .i64 b')).frozen? ⟨w.heap.size, 3, none⟩ = false := frozen_set5 cxf3
      replace cx4 : (((((w3.setCell ⟨w.heap.size + 1, 0, none⟩ (.int .i64 k')).setCell ⟨w.heap.size + 1, 1, none⟩ (.string y1)).setCell ⟨w.heap.size + 1, 2, none⟩ (.string y2)).setCell ⟨w.heap.size + 1, 3, none⟩ (.int .i64 a')).setCell ⟨w.heap.size + 1, 4, none⟩ (.int .i64 b')).cell? ⟨w.heap.size, 4, none⟩ = some (.int .i64 b) := cell_set5 (by omega) cx4
      replace cxf4 : (((((w3.setCell ⟨w.heap.size + 1, 0, none⟩ (.int .i64 k')).setCell ⟨w.heap.size + 1, 1, none⟩ (.string y1)).setCell ⟨w.heap.size + 1, 2, none⟩ (.string y2)).setCell ⟨w.heap.size + 1, 3, none⟩ (.int .i64 a')).setCell ⟨w.heap.size + 1, 4, none⟩ (.int .i64 b')).frozen? ⟨w.heap.size, 4, none⟩ = false := frozen_set5 cxf4
      have k5 := set5 (v0 := .int .i64 k') (v1 := .string y1) (v2 := .string y2) (v3 := .int .i64 a') (v4 := .int .i64 b') cy0 cy1 cy2 cy3 cy4
      replace cyf0 : (((((w3.setCell ⟨w.heap.size + 1, 0, none⟩ (.int .i64 k')).setCell ⟨w.heap.size + 1, 1, none⟩ (.string y1)).setCell ⟨w.heap.size + 1, 2, none⟩ (.string y2)).setCell ⟨w.heap.size + 1, 3, none⟩ (.int .i64 a')).setCell ⟨w.heap.size + 1, 4, none⟩ (.int .i64 b')).frozen? ⟨w.heap.size + 1, 0, none⟩ = false := frozen_set5 cyf0
      replace cyf1 : (((((w3.setCell ⟨w.heap.size + 1, 0, none⟩ (.int .i64 k')).setCell ⟨w.heap.size + 1, 1, none⟩ (.string y1)).setCell ⟨w.heap.size + 1, 2, none⟩ (.string y2)).setCell ⟨w.heap.size + 1, 3, none⟩ (.int .i64 a')).setCell ⟨w.heap.size + 1, 4, none⟩ (.int .i64 b')).frozen? ⟨w.heap.size + 1, 1, none⟩ = false := frozen_set5 cyf1
      replace cyf2 : (((((w3.setCell ⟨w.heap.size + 1, 0, none⟩ (.int .i64 k')).setCell ⟨w.heap.size + 1, 1, none⟩ (.string y1)).setCell ⟨w.heap.size + 1, 2, none⟩ (.string y2)).setCell ⟨w.heap.size + 1, 3, none⟩ (.int .i64 a')).setCell ⟨w.heap.size + 1, 4, none⟩ (.int .i64 b')).frozen? ⟨w.heap.size + 1, 2, none⟩ = false := frozen_set5 cyf2
      replace cyf3 : (((((w3.setCell ⟨w.heap.size + 1, 0, none⟩ (.int .i64 k')).setCell ⟨w.heap.size + 1, 1, none⟩ (.string y1)).setCell ⟨w.heap.size + 1, 2, none⟩ (.string y2)).setCell ⟨w.heap.size + 1, 3, none⟩ (.int .i64 a')).setCell ⟨w.heap.size + 1, 4, none⟩ (.int .i64 b')).frozen? ⟨w.heap.size + 1, 3, none⟩ = false := frozen_set5 cyf3
      replace cyf4 : (((((w3.setCell ⟨w.heap.size + 1, 0, none⟩ (.int .i64 k')).setCell ⟨w.heap.size + 1, 1, none⟩ (.string y1)).setCell ⟨w.heap.size + 1, 2, none⟩ (.string y2)).setCell ⟨w.heap.size + 1, 3, none⟩ (.int .i64 a')).setCell ⟨w.heap.size + 1, 4, none⟩ (.int .i64 b')).frozen? ⟨w.heap.size + 1, 4, none⟩ = false := frozen_set5 cyf4
      clear cy0 cy1 cy2 cy3 cy4
      obtain ⟨cy0, cy1, cy2, cy3, cy4⟩ := k5
      have hge : w.heap.size ≤ w.heap.size + 1 := by omega
      replace HB := Lib.hid (show Below w.heap.size w (((((w3.setCell ⟨w.heap.size + 1, 0, none⟩ (.int .i64 k')).setCell ⟨w.heap.size + 1, 1, none⟩ (.string y1)).setCell ⟨w.heap.size + 1, 2, none⟩ (.string y2)).setCell ⟨w.heap.size + 1, 3, none⟩ (.int .i64 a')).setCell ⟨w.heap.size + 1, 4, none⟩ (.int .i64 b')) from below_set5 (R := w.heap.size + 1) (v0 := .int .i64 k') (v1 := .string y1) (v2 := .string y2) (v3 := .int .i64 a') (v4 := .int .i64 b') HB.out hge)
      generalize hh3 : (((((w3.setCell ⟨w.heap.size + 1, 0, none⟩ (.int .i64 k')).setCell ⟨w.heap.size + 1, 1, none⟩ (.string y1)).setCell ⟨w.heap.size + 1, 2, none⟩ (.string y2)).setCell ⟨w.heap.size + 1, 3, none⟩ (.int .i64 a')).setCell ⟨w.heap.size + 1, 4, none⟩ (.int .i64 b')) = v3 at *
      clear hh3
      clear hge
      refine (HPR.out _ (HE.out.below HB.out)).mono ?_
      rintro e w4 ⟨rfl, hb⟩
      replace cxf0 := (hb.frozen (World.block_lt_of_cell? _ _ cx0)).trans cxf0
      replace cx0 := (hb.cell (World.block_lt_of_cell? _ _ cx0)).trans cx0
      replace cxf1 := (hb.frozen (World.block_lt_of_cell? _ _ cx1)).trans cxf1
      replace cx1 := (hb.cell (World.block_lt_of_cell? _ _ cx1)).trans cx1
      replace cxf2 := (hb.frozen (World.block_lt_of_cell? _ _ cx2)).trans cxf2
      replace cx2 := (hb.cell (World.block_lt_of_cell? _ _ cx2)).trans cx2
      replace cxf3 := (hb.frozen (World.block_lt_of_cell? _ _ cx3)).trans cxf3
      replace cx3 := (hb.cell (World.block_lt_of_cell? _ _ cx3)).trans cx3
      replace cxf4 := (hb.frozen (World.block_lt_of_cell? _ _ cx4)).trans cxf4
      replace cx4 := (hb.cell (World.block_lt_of_cell? _ _ cx4)).trans cx4
      replace cyf0 := (hb.frozen (World.block_lt_of_cell? _ _ cy0)).trans cyf0
      replace cy0 := (hb.cell (World.block_lt_of_cell? _ _ cy0)).trans cy0
      replace cyf1 := (hb.frozen (World.block_lt_of_cell? _ _ cy1)).trans cyf1
      replace cy1 := (hb.cell (World.block_lt_of_cell? _ _ cy1)).trans cy1
      replace cyf2 := (hb.frozen (World.block_lt_of_cell? _ _ cy2)).trans cyf2
      replace cy2 := (hb.cell (World.block_lt_of_cell? _ _ cy2)).trans cy2
      replace cyf3 := (hb.frozen (World.block_lt_of_cell? _ _ cy3)).trans cyf3
      replace cy3 := (hb.cell (World.block_lt_of_cell? _ _ cy3)).trans cy3
      replace cyf4 := (hb.frozen (World.block_lt_of_cell? _ _ cy4)).trans cyf4
      replace cy4 := (hb.cell (World.block_lt_of_cell? _ _ cy4)).trans cy4
      replace HB := Lib.hid (HB.out.trans (hb.mono HB.out.size))
      clear hb
      go_wp2_with fail
      refine (HPR2.out _ (HE.out.below HB.out)).mono ?_
      rintro e w5 ⟨rfl, hb⟩
      replace cxf0 := (hb.frozen (World.block_lt_of_cell? _ _ cx0)).trans cxf0
      replace cx0 := (hb.cell (World.block_lt_of_cell? _ _ cx0)).trans cx0
      replace cxf1 := (hb.frozen (World.block_lt_of_cell? _ _ cx1)).trans cxf1
      replace cx1 := (hb.cell (World.block_lt_of_cell? _ _ cx1)).trans cx1
      replace cxf2 := (hb.frozen (World.block_lt_of_cell? _ _ cx2)).trans cxf2
      replace cx2 := (hb.cell (World.block_lt_of_cell? _ _ cx2)).trans cx2
      replace cxf3 := (hb.frozen (World.block_lt_of_cell? _ _ cx3)).trans cxf3
      replace cx3 := (hb.cell (World.block_lt_of_cell? _ _ cx3)).trans cx3
      replace cxf4 := (hb.frozen (World.block_lt_of_cell? _ _ cx4)).trans cxf4
      replace cx4 := (hb.cell (World.block_lt_of_cell? _ _ cx4)).trans cx4
      replace cyf0 := (hb.frozen (World.block_lt_of_cell? _ _ cy0)).trans cyf0
      replace cy0 := (hb.cell (World.block_lt_of_cell? _ _ cy0)).trans cy0
      replace cyf1 := (hb.frozen (World.block_lt_of_cell? _ _ cy1)).trans cyf1
      replace cy1 := (hb.cell (World.block_lt_of_cell? _ _ cy1)).trans cy1
      replace cyf2 := (hb.frozen (World.block_lt_of_cell? _ _ cy2)).trans cyf2
      replace cy2 := (hb.cell (World.block_lt_of_cell? _ _ cy2)).trans cy2
      replace cyf3 := (hb.frozen (World.block_lt_of_cell? _ _ cy3)).trans cyf3
      replace cy3 := (hb.cell (World.block_lt_of_cell? _ _ cy3)).trans cy3
      replace cyf4 := (hb.frozen (World.block_lt_of_cell? _ _ cy4)).trans cyf4
      replace cy4 := (hb.cell (World.block_lt_of_cell? _ _ cy4)).trans cy4
      replace HB := Lib.hid (HB.out.trans (hb.mono HB.out.size))
      clear hb
      clear HCUT HCUT2 HPR HPR2 HE
      go_wp2_with fail
      go_ret
      exact ⟨rfl, HB.out⟩
    | true =>
      clear h2
      simp only [if_true] at HPR2
      have hs := hp rfl rfl
      have he := heq.out
      clear hp heq
      go_enter Tryd.func5, Tryd.ntmps5
      go_wp2_with fail
      have cx0 : ((w.alloc (.cells #[.int .i64 k, .string nd, .string sv, .int .i64 a, .int .i64 b] 23)).alloc (.cells #[.int .i64 k', .string nd', .string sv', .int .i64 a', .int .i64 b'] 23)).cell? ⟨w.heap.size, 0, none⟩ = some (.int .i64 k) := by go_simp
      have cxf0 : ((w.alloc (.cells #[.int .i64 k, .string nd, .string sv, .int .i64 a, .int .i64 b] 23)).alloc (.cells #[.int .i64 k', .string nd', .string sv', .int .i64 a', .int .i64 b'] 23)).frozen? ⟨w.heap.size, 0, none⟩ = false := by go_simp
      have cx1 : ((w.alloc (.cells #[.int .i64 k, .string nd, .string sv, .int .i64 a, .int .i64 b] 23)).alloc (.cells #[.int .i64 k', .string nd', .string sv', .int .i64 a', .int .i64 b'] 23)).cell? ⟨w.heap.size, 1, none⟩ = some (.string nd) := by go_simp
      have cxf1 : ((w.alloc (.cells #[.int .i64 k, .string nd, .string sv, .int .i64 a, .int .i64 b] 23)).alloc (.cells #[.int .i64 k', .string nd', .string sv', .int .i64 a', .int .i64 b'] 23)).frozen? ⟨w.heap.size, 1, none⟩ = false := by go_simp
      have cx2 : ((w.alloc (.cells #[.int .i64 k, .string nd, .string sv, .int .i64 a, .int .i64 b] 23)).alloc (.cells #[.int .i64 k', .string nd', .string sv', .int .i64 a', .int .i64 b'] 23)).cell? ⟨w.heap.size, 2, none⟩ = some (.string sv) := by go_simp
      have cxf2 : ((w.alloc (.cells #[.int .i64 k, .string nd, .string sv, .int .i64 a, .int .i64 b] 23)).alloc (.cells #[.int .i64 k', .string nd', .string sv', .int .i64 a', .int .i64 b'] 23)).frozen? ⟨w.heap.size, 2, none⟩ = false := by go_simp
      have cx3 : ((w.alloc (.cells #[.int .i64 k, .string nd, .string sv, .int .i64 a, .int .i64 b] 23)).alloc (.cells #[.int .i64 k', .string nd', .string sv', .int .i64 a', .int .i64 b'] 23)).cell? ⟨w.heap.size, 3, none⟩ = some (.int .i64 a) := by go_simp
      have cxf3 : ((w.alloc (.cells #[.int .i64 k, .string nd, .string sv, .int .i64 a, .int .i64 b] 23)).alloc (.cells #[.int .i64 k', .string nd', .string sv', .int .i64 a', .int .i64 b'] 23)).frozen? ⟨w.heap.size, 3, none⟩ = false := by go_simp
      have cx4 : ((w.alloc (.cells #[.int .i64 k, .string nd, .string sv, .int .i64 a, .int .i64 b] 23)).alloc (.cells #[.int .i64 k', .string nd', .string sv', .int .i64 a', .int .i64 b'] 23)).cell? ⟨w.heap.size, 4, none⟩ = some (.int .i64 b) := by go_simp
      have cxf4 : ((w.alloc (.cells #[.int .i64 k, .string nd, .string sv, .int .i64 a, .int .i64 b] 23)).alloc (.cells #[.int .i64 k', .string nd', .string sv', .int .i64 a', .int .i64 b'] 23)).frozen? ⟨w.heap.size, 4, none⟩ = false := by go_simp
      have cy0 : ((w.alloc (.cells #[.int .i64 k, .string nd, .string sv, .int .i64 a, .int .i64 b] 23)).alloc (.cells #[.int .i64 k', .string nd', .string sv', .int .i64 a', .int .i64 b'] 23)).cell? ⟨w.heap.size + 1, 0, none⟩ = some (.int .i64 k') := by go_simp
      have cyf0 : ((w.alloc (.cells #[.int .i64 k, .string nd, .string sv, .int .i64 a, .int .i64 b] 23)).alloc (.cells #[.int .i64 k', .string nd', .string sv', .int .i64 a', .int .i64 b'] 23)).frozen? ⟨w.heap.size + 1, 0, none⟩ = false := by go_simp
      have cy1 : ((w.alloc (.cells #[.int .i64 k, .string nd, .string sv, .int .i64 a, .int .i64 b] 23)).alloc (.cells #[.int .i64 k', .string nd', .string sv', .int .i64 a', .int .i64 b'] 23)).cell? ⟨w.heap.size + 1, 1, none⟩ = some (.string nd') := by go_simp
      have cyf1 : ((w.alloc (.cells #[.int .i64 k, .string nd, .string sv, .int .i64 a, .int .i64 b] 23)).alloc (.cells #[.int .i64 k', .string nd', .string sv', .int .i64 a', .int .i64 b'] 23)).frozen? ⟨w.heap.size + 1, 1, none⟩ = false := by go_simp
      have cy2 : ((w.alloc (.cells #[.int .i64 k, .string nd, .string sv, .int .i64 a, .int .i64 b] 23)).alloc (.cells #[.int .i64 k', .string nd', .string sv', .int .i64 a', .int .i64 b'] 23)).cell? ⟨w.heap.size + 1, 2, none⟩ = some (.string sv') := by go_simp
      have cyf2 : ((w.alloc (.cells #[.int .i64 k, .string nd, .string sv, .int .i64 a, .int .i64 b] 23)).alloc (.cells #[.int .i64 k', .string nd', .string sv', .int .i64 a', .int .i64 b'] 23)).frozen? ⟨w.heap.size + 1, 2, none⟩ = false := by go_simp
      have cy3 : ((w.alloc (.cells #[.int .i64 k, .string nd, .string sv, .int .i64 a, .int .i64 b] 23)).alloc (.cells #[.int .i64 k', .string nd', .string sv', .int .i64 a', .int .i64 b'] 23)).cell? ⟨w.heap.size + 1, 3, none⟩ = some (.int .i64 a') := by go_simp
      have cyf3 : ((w.alloc (.cells #[.int .i64 k, .string nd, .string sv, .int .i64 a, .int .i64 b] 23)).alloc (.cells #[.int .i64 k', .string nd', .string sv', .int .i64 a', .int .i64 b'] 23)).frozen? ⟨w.heap.size + 1, 3, none⟩ = false := by go_simp
      have cy4 : ((w.alloc (.cells #[.int .i64 k, .string nd, .string sv, .int .i64 a, .int .i64 b] 23)).alloc (.cells #[.int .i64 k', .string nd', .string sv', .int .i64 a', .int .i64 b'] 23)).cell? ⟨w.heap.size + 1, 4, none⟩ = some (.int .i64 b') := by go_simp
      have cyf4 : ((w.alloc (.cells #[.int .i64 k, .string nd, .string sv, .int .i64 a, .int .i64 b] 23)).alloc (.cells #[.int .i64 k', .string nd', .string sv', .int .i64 a', .int .i64 b'] 23)).frozen? ⟨w.heap.size + 1, 4, none⟩ = false := by go_simp
      have HB := Lib.hid (show Below w.heap.size w ((w.alloc (.cells #[.int .i64 k, .string nd, .string sv, .int .i64 a, .int .i64 b] 23)).alloc (.cells #[.int .i64 k', .string nd', .string sv', .int .i64 a', .int .i64 b'] 23)) from below_alloc_l (below_alloc_l (Below.refl _ _)))
      generalize hh1 : ((w.alloc (.cells #[.int .i64 k, .string nd, .string sv, .int .i64 a, .int .i64 b] 23)).alloc (.cells #[.int .i64 k', .string nd', .string sv', .int .i64 a', .int .i64 b'] 23)) = v1 at *
      clear hh1
      refine (shown_any _ (HE.out.below HB.out)).mono ?_
      rintro e w1 ⟨rfl, hb⟩
      replace cxf0 := (hb.frozen (World.block_lt_of_cell? _ _ cx0)).trans cxf0
      replace cx0 := (hb.cell (World.block_lt_of_cell? _ _ cx0)).trans cx0
      replace cxf1 := (hb.frozen (World.block_lt_of_cell? _ _ cx1)).trans cxf1
      replace cx1 := (hb.cell (World.block_lt_of_cell? _ _ cx1)).trans cx1
      replace cxf2 := (hb.frozen (World.block_lt_of_cell? _ _ cx2)).trans cxf2
      replace cx2 := (hb.cell (World.block_lt_of_cell? _ _ cx2)).trans cx2
      replace cxf3 := (hb.frozen (World.block_lt_of_cell? _ _ cx3)).trans cxf3
      replace cx3 := (hb.cell (World.block_lt_of_cell? _ _ cx3)).trans cx3
      replace cxf4 := (hb.frozen (World.block_lt_of_cell? _ _ cx4)).trans cxf4
      replace cx4 := (hb.cell (World.block_lt_of_cell? _ _ cx4)).trans cx4
      replace cyf0 := (hb.frozen (World.block_lt_of_cell? _ _ cy0)).trans cyf0
      replace cy0 := (hb.cell (World.block_lt_of_cell? _ _ cy0)).trans cy0
      replace cyf1 := (hb.frozen (World.block_lt_of_cell? _ _ cy1)).trans cyf1
      replace cy1 := (hb.cell (World.block_lt_of_cell? _ _ cy1)).trans cy1
      replace cyf2 := (hb.frozen (World.block_lt_of_cell? _ _ cy2)).trans cyf2
      replace cy2 := (hb.cell (World.block_lt_of_cell? _ _ cy2)).trans cy2
      replace cyf3 := (hb.frozen (World.block_lt_of_cell? _ _ cy3)).trans cyf3
      replace cy3 := (hb.cell (World.block_lt_of_cell? _ _ cy3)).trans cy3
      replace cyf4 := (hb.frozen (World.block_lt_of_cell? _ _ cy4)).trans cyf4
      replace cy4 := (hb.cell (World.block_lt_of_cell? _ _ cy4)).trans cy4
      replace HB := Lib.hid (HB.out.trans (hb.mono HB.out.size))
      clear hb
      go_wp2_with fail
      refine (HCUT.out _).mono ?_
      rintro e w2 ⟨rfl, hb⟩
      replace cxf0 := (hb.frozen (World.block_lt_of_cell? _ _ cx0)).trans cxf0
      replace cx0 := (hb.cell (World.block_lt_of_cell? _ _ cx0)).trans cx0
      replace cxf1 := (hb.frozen (World.block_lt_of_cell? _ _ cx1)).trans cxf1
      replace cx1 := (hb.cell (World.block_lt_of_cell? _ _ cx1)).trans cx1
      replace cxf2 := (hb.frozen (World.block_lt_of_cell? _ _ cx2)).trans cxf2
      replace cx2 := (hb.cell (World.block_lt_of_cell? _ _ cx2)).trans cx2
      replace cxf3 := (hb.frozen (World.block_lt_of_cell? _ _ cx3)).trans cxf3
      replace cx3 := (hb.cell (World.block_lt_of_cell? _ _ cx3)).trans cx3
      replace cxf4 := (hb.frozen (World.block_lt_of_cell? _ _ cx4)).trans cxf4
      replace cx4 := (hb.cell (World.block_lt_of_cell? _ _ cx4)).trans cx4
      replace cyf0 := (hb.frozen (World.block_lt_of_cell? _ _ cy0)).trans cyf0
      replace cy0 := (hb.cell (World.block_lt_of_cell? _ _ cy0)).trans cy0
      replace cyf1 := (hb.frozen (World.block_lt_of_cell? _ _ cy1)).trans cyf1
      replace cy1 := (hb.cell (World.block_lt_of_cell? _ _ cy1)).trans cy1
      replace cyf2 := (hb.frozen (World.block_lt_of_cell? _ _ cy2)).trans cyf2
      replace cy2 := (hb.cell (World.block_lt_of_cell? _ _ cy2)).trans cy2
      replace cyf3 := (hb.frozen (World.block_lt_of_cell? _ _ cy3)).trans cyf3
      replace cy3 := (hb.cell (World.block_lt_of_cell? _ _ cy3)).trans cy3
      replace cyf4 := (hb.frozen (World.block_lt_of_cell? _ _ cy4)).trans cyf4
      replace cy4 := (hb.cell (World.block_lt_of_cell? _ _ cy4)).trans cy4
      replace HB := Lib.hid (HB.out.trans (hb.mono HB.out.size))
      clear hb
      go_wp2_with fail
      replace cy0 : (((((w2.setCell ⟨w.heap.size, 0, none⟩ (.int .i64 k)).setCell ⟨w.heap.size, 1, none⟩ (.string x1)).setCell ⟨w.heap.size, 2, none⟩ (.string x2)).setCell ⟨w.heap.size, 3, none⟩ (.int .i64 a)).setCell ⟨w.heap.size, 4, none⟩ (.int .i64 b)).cell? ⟨w.heap.size + 1, 0, none⟩ = some (.int .i64 k') := cell_set5 (by omega) cy0
      replace cyf0 : (((((w2.setCell ⟨w.heap.size, 0, none⟩ (.int .i64 k)).setCell ⟨w.heap.size, 1, none⟩ (.string x1)).setCell ⟨w.heap.size, 2, none⟩ (.string x2)).setCell ⟨w.heap.size, 3, none⟩ (.int .i64 a)).setCell ⟨w.heap.size, 4, none⟩ (.int .i64 b)).frozen? ⟨w.heap.size + 1, 0, none⟩ = false := frozen_set5 cyf0
      replace cy1 : (((((w2.setCell ⟨w.heap.size, 0, none⟩ (.int .i64 k)).setCell ⟨w.heap.size, 1, none⟩ (.string x1)).setCell ⟨w.heap.size, 2, none⟩ (.string x2)).setCell ⟨w.heap.size, 3, none⟩ (.int .i64 a)).setCell ⟨w.heap.size, 4, none⟩ (.int .i64 b)).cell? ⟨w.heap.size + 1, 1, none⟩ = some (.string nd') := cell_set5 (by omega) cy1
      replace cyf1 : (((((w2.setCell ⟨w.heap.size, 0, none⟩ (.int .i64 k)).setCell ⟨w.heap.size, 1, none⟩ (.string x1)).setCell ⟨w.heap.size, 2, none⟩ (.string x2)).setCell ⟨w.heap.size, 3, none⟩ (.int .i64 a)).setCell ⟨w.heap.size, 4, none⟩ (.int .i64 b)).frozen? ⟨w.heap.size + 1, 1, none⟩ = false := frozen_set5 cyf1
      replace cy2 : (((((w2.setCell ⟨w.heap.size, 0, none⟩ (.int .i64 k)).setCell ⟨w.heap.size, 1, none⟩ (.string x1)).setCell ⟨w.heap.size, 2, none⟩ (.string x2)).setCell ⟨w.heap.size, 3, none⟩ (.int .i64 a)).setCell ⟨w.heap.size, 4, none⟩ (.int .i64 b)).cell? ⟨w.heap.size + 1, 2, none⟩ = some (.string sv') := cell_set5 (by omega) cy2
      replace cyf2 : (((((w2.setCell ⟨w.heap.size, 0, none⟩ (.int .i64 k)).setCell ⟨w.heap.size, 1, none⟩ (.string x1)).setCell ⟨w.heap.size, 2, none⟩ (.string x2)).setCell ⟨w.heap.size, 3, none⟩ (.int .i64 a)).setCell ⟨w.heap.size, 4, none⟩ (.int .i64 b)).frozen? ⟨w.heap.size + 1, 2, none⟩ = false := frozen_set5 cyf2
      replace cy3 : (((((w2.setCell ⟨w.heap.size, 0, none⟩ (.int .i64 k)).setCell ⟨w.heap.size, 1, none⟩ (.string x1)).setCell ⟨w.heap.size, 2, none⟩ (.string x2)).setCell ⟨w.heap.size, 3, none⟩ (.int .i64 a)).setCell ⟨w.heap.size, 4, none⟩ (.int .i64 b)).cell? ⟨w.heap.size + 1, 3, none⟩ = some (.int .i64 a') := cell_set5 (by omega) cy3
      replace cyf3 : (((((w2.setCell ⟨w.heap.size, 0, none⟩ (.int .i64 k)).setCell ⟨w.heap.size, 1, none⟩ (.string x1)).setCell ⟨w.heap.size, 2, none⟩ (.string x2)).setCell ⟨w.heap.size, 3, none⟩ (.int .i64 a)).setCell ⟨w.heap.size, 4, none⟩ (.int .i64 b)).frozen? ⟨w.heap.size + 1, 3, none⟩ = false := frozen_set5 cyf3
      replace cy4 : (((((w2.setCell ⟨w.heap.size, 0, none⟩ (.int .i64 k)).setCell ⟨w.heap.size, 1, none⟩ (.string x1)).setCell ⟨w.heap.size, 2, none⟩ (.string x2)).setCell ⟨w.heap.size, 3, none⟩ (.int .i64 a)).setCell ⟨w.heap.size, 4, none⟩ (.int .i64 b)).cell? ⟨w.heap.size + 1, 4, none⟩ = some (.int .i64 b') := cell_set5 (by omega) cy4
      replace cyf4 : (((((w2.setCell ⟨w.heap.size, 0, none⟩ (.int .i64 k)).setCell ⟨w.heap.size, 1, none⟩ (.string x1)).setCell ⟨w.heap.size, 2, none⟩ (.string x2)).setCell ⟨w.heap.size, 3, none⟩ (.int .i64 a)).setCell ⟨w.heap.size, 4, none⟩ (.int .i64 b)).frozen? ⟨w.heap.size + 1, 4, none⟩ = false := frozen_set5 cyf4
      have k5 := set5 (v0 := .int .i64 k) (v1 := .string x1) (v2 := .string x2) (v3 := .int .i64 a) (v4 := .int .i64 b) cx0 cx1 cx2 cx3 cx4
      replace cxf0 : (((((w2.setCell ⟨w.heap.size, 0, none⟩ (.int .i64 k)).setCell ⟨w.heap.size, 1, none⟩ (.string x1)).setCell ⟨w.heap.size, 2, none⟩ (.string x2)).setCell ⟨w.heap.size, 3, none⟩ (.int .i64 a)).setCell ⟨w.heap.size, 4, none⟩ (.int .i64 b)).frozen? ⟨w.heap.size, 0, none⟩ = false := frozen_set5 cxf0
      replace cxf1 : (((((w2.setCell ⟨w.heap.size, 0, none⟩ (.int .i64 k)).setCell ⟨w.heap.size, 1, none⟩ (.string x1)).setCell ⟨w.heap.size, 2, none⟩ (.string x2)).setCell ⟨w.heap.size, 3, none⟩ (.int .i64 a)).setCell ⟨w.heap.size, 4, none⟩ (.int .i64 b)).frozen? ⟨w.heap.size, 1, none⟩ = false := frozen_set5 cxf1
      replace cxf2 : (((((w2.setCell ⟨w.heap.size, 0, none⟩ (.int .i64 k)).setCell ⟨w.heap.size, 1, none⟩ (.string x1)).setCell ⟨w.heap.size, 2, none⟩ (.string x2)).setCell ⟨w.heap.size, 3, none⟩ (.int .i64 a)).setCell ⟨w.heap.size, 4, none⟩ (.int .i64 b)).frozen? ⟨w.heap.size, 2, none⟩ = false := frozen_set5 cxf2
      replace cxf3 : (((((w2.setCell ⟨w.heap.size, 0, none⟩ (.int .i64 k)).setCell ⟨w.heap.size, 1, none⟩ (.string x1)).setCell ⟨w.heap.size, 2, none⟩ (.string x2)).setCell ⟨w.heap.size, 3, none⟩ (.int .i64 a)).setCell ⟨w.heap.size, 4, none⟩ (.int .i64 b)).frozen? ⟨w.heap.size, 3, none⟩ = false := frozen_set5 cxf3
      replace cxf4 : (((((w2.setCell ⟨w.heap.size, 0, none⟩ (.int .i64 k)).setCell ⟨w.heap.size, 1, none⟩ (.string x1)).setCell ⟨w.heap.size, 2, none⟩ (.string x2)).setCell ⟨w.heap.size, 3, none⟩ (.int .i64 a)).setCell ⟨w.heap.size, 4, none⟩ (.int .i64 b)).frozen? ⟨w.heap.size, 4, none⟩ = false := frozen_set5 cxf4
      clear cx0 cx1 cx2 cx3 cx4
      obtain ⟨cx0, cx1, cx2, cx3, cx4⟩ := k5
      have hge : w.heap.size ≤ w.heap.size := by omega
      replace HB := Lib.hid (show Below w.heap.size w (((((w2.setCell ⟨w.heap.size, 0, none⟩ (.int .i64 k)).setCell ⟨w.heap.size, 1, none⟩ (.string x1)).setCell ⟨w.heap.size, 2, none⟩ (.string x2)).setCell ⟨w.heap.size, 3, none⟩ (.int .i64 a)).setCell ⟨w.heap.size, 4, none⟩ (.int .i64 b)) from below_set5 (R := w.heap.size) (v0 := .int .i64 k) (v1 := .string x1) (v2 := .string x2) (v3 := .int .i64 a) (v4 := .int .i64 b) HB.out hge)
      generalize hh2 : (((((w2.setCell ⟨w.heap.size, 0, none⟩ (.int .i64 k)).setCell ⟨w.heap.size, 1, none⟩ (.string x1)).setCell ⟨w.heap.size, 2, none⟩ (.string x2)).setCell ⟨w.heap.size, 3, none⟩ (.int .i64 a)).setCell ⟨w.heap.size, 4, none⟩ (.int .i64 b)) = v2 at *
      clear hh2
      clear hge
      refine (HCUT2.out _).mono ?_
      rintro e w3 ⟨rfl, hb⟩
      replace cxf0 := (hb.frozen (World.block_lt_of_cell? _ _ cx0)).trans cxf0
      replace cx0 := (hb.cell (World.block_lt_of_cell? _ _ cx0)).trans cx0
      replace cxf1 := (hb.frozen (World.block_lt_of_cell? _ _ cx1)).trans cxf1
      replace cx1 := (hb.cell (World.block_lt_of_cell? _ _ cx1)).trans cx1
      replace cxf2 := (hb.frozen (World.block_lt_of_cell? _ _ cx2)).trans cxf2
      replace cx2 := (hb.cell (World.block_lt_of_cell? _ _ cx2)).trans cx2
      replace cxf3 := (hb.frozen (World.block_lt_of_cell? _ _ cx3)).trans cxf3
      replace cx3 := (hb.cell (World.block_lt_of_cell? _ _ cx3)).trans cx3
      replace cxf4 := (hb.frozen (World.block_lt_of_cell? _ _ cx4)).trans cxf4
      replace cx4 := (hb.cell (World.block_lt_of_cell? _ _ cx4)).trans cx4
      replace cyf0 := (hb.frozen (World.block_lt_of_cell? _ _ cy0)).trans cyf0
      replace cy0 := (hb.cell (World.block_lt_of_cell? _ _ cy0)).trans cy0
      replace cyf1 := (hb.frozen (World.block_lt_of_cell? _ _ cy1)).trans cyf1
      replace cy1 := (hb.cell (World.block_lt_of_cell? _ _ cy1)).trans cy1
      replace cyf2 := (hb.frozen (World.block_lt_of_cell? _ _ cy2)).trans cyf2
      replace cy2 := (hb.cell (World.block_lt_of_cell? _ _ cy2)).trans cy2
      replace cyf3 := (hb.frozen (World.block_lt_of_cell? _ _ cy3)).trans cyf3
      replace cy3 := (hb.cell (World.block_lt_of_cell? _ _ cy3)).trans cy3
      replace cyf4 := (hb.frozen (World.block_lt_of_cell? _ _ cy4)).trans cyf4
      replace cy4 := (hb.cell (World.block_lt_of_cell? _ _ cy4)).trans cy4
      replace HB := Lib.hid (HB.out.trans (hb.mono HB.out.size))
      clear hb
      go_wp2_with fail
      replace cx0 : (((((w3.setCell ⟨w.heap.size + 1, 0, none⟩ (.int .i64 k')).setCell ⟨w.heap.size + 1, 1, none⟩ (.string y1)).setCell ⟨w.heap.size + 1, 2, none⟩ (.string y2)).setCell ⟨w.heap.size + 1, 3, none⟩ (.int .i64 a')).setCell ⟨w.heap.size + 1, 4, none⟩ (.int .i64 b')).cell? ⟨w.heap.size, 0, none⟩ = some (.int .i64 k) := cell_set5 (by omega) cx0
      replace cxf0 : (((((w3.setCell ⟨w.heap.size + 1, 0, none⟩ (.int .i64 k')).setCell ⟨w.heap.size + 1, 1, none⟩ (.string y1)).setCell ⟨w.heap.size + 1, 2, none⟩ (.string y2)).setCell ⟨w.heap.size + 1, 3, none⟩ (.int .i64 a')).setCell ⟨w.heap.size + 1, 4, none⟩ (.int .i64 b')).frozen? ⟨w.heap.size, 0, none⟩ = false := frozen_set5 cxf0
      replace cx1 : (((((w3.setCell ⟨w.heap.size + 1, 0, none⟩ (.int .i64 k')).setCell ⟨w.heap.size + 1, 1, none⟩ (.string y1)).setCell ⟨w.heap.size + 1, 2, none⟩ (.string y2)).setCell ⟨w.heap.size + 1, 3, none⟩ (.int .i64 a')).setCell ⟨w.heap.size + 1, 4, none⟩ (.int .i64 b')).cell? ⟨w.heap.size, 1, none⟩ = some (.string x1) := cell_set5 (by omega) cx1
      replace cxf1 : (((((w3.setCell ⟨w.heap.size + 1, 0, none⟩ (.int .i64 k')).setCell ⟨w.heap.size + 1, 1, none⟩ (.string y1)).setCell ⟨w.heap.size + 1, 2, none⟩ (.string y2)).setCell ⟨w.heap.size + 1, 3, none⟩ (.int .i64 a')).setCell ⟨w.heap.size + 1, 4, none⟩ (.int .i64 b')).frozen? ⟨w.heap.size, 1, none⟩ = false := frozen_set5 cxf1
      replace cx2 : (((((w3.setCell ⟨w.heap.size + 1, 0, none⟩ (.int .i64 k')).setCell ⟨w.heap.size + 1, 1, none⟩ (.string y1)).setCell ⟨w.heap.size + 1, 2, none⟩ (.string y2)).setCell ⟨w.heap.size + 1, 3, none⟩ (.int .i64 a')).setCell ⟨w.heap.size + 1, 4, none⟩ (.int .i64 b')).cell? ⟨w.heap.size, 2, none⟩ = some (.string x2) := cell_set5 (by omega) cx2
      replace cxf2 : (((((w3.setCell ⟨w.heap.size + 1, 0, none⟩ (.int .i64 k')).setCell ⟨w.heap.size + 1, 1, none⟩ (.string y1)).setCell ⟨w.heap.size + 1, 2, none⟩ (.string y2)).setCell ⟨w.heap.size + 1, 3, none⟩ (.int .i64 a')).setCell ⟨w.heap.size + 1, 4, none⟩ (.int .i64 b')).frozen? ⟨w.heap.size, 2, none⟩ = false := frozen_set5 cxf2
      replace cx3 : (((((w3.setCell ⟨w.heap.size + 1, 0, none⟩ (.int .i64 k')).setCell ⟨w.heap.size + 1, 1, none⟩ (.string y1)).setCell ⟨w.heap.size + 1, 2, none⟩ (.string y2)).setCell ⟨w.heap.size + 1, 3, none⟩ (.int .i64 a')).setCell ⟨w.heap.size + 1, 4, none⟩ (.int .i64 b')).cell? ⟨w.heap.size, 3, none⟩ = some (.int .i64 a) := cell_set5 (by omega) cx3
      replace cxf3 : (((((w3.setCell ⟨w.heap.size + 1, 0, none⟩ (.int .i64 k')).setCell ⟨w.heap.size + 1, 1, none⟩ (.string y1)).setCell ⟨w.heap.size + 1, 2, none⟩ (.string y2)).setCell ⟨w.heap.size + 1, 3, none⟩ (.int .i64 a')).setCell ⟨w.heap.size + 1, 4, none⟩ (.int .i64 b')).frozen? ⟨w.heap.size, 3, none⟩ = false := frozen_set5 cxf3
      replace cx4 : (((((w3.setCell ⟨w.heap.size + 1, 0, none⟩ (.int .i64 k')).setCell ⟨w.heap.size + 1, 1, none⟩ (.string y1)).setCell ⟨w.heap.size + 1, 2, none⟩ (.string y2)).setCell ⟨w.heap.size + 1, 3, none⟩ (.int .i64 a')).setCell ⟨w.heap.size + 1, 4, none⟩ (.int .i64 b')).cell? ⟨w.heap.size, 4, none⟩ = some (.int .i64 b) := cell_set5 (by omega) cx4
      replace cxf4 : (((((w3.setCell ⟨w.heap.size + 1, 0, none⟩ (.int .i64 k')).setCell ⟨w.heap.size + 1, 1, none⟩ (.string y1)).setCell ⟨w.heap.size + 1, 2, none⟩ (.string y2)).setCell ⟨w.heap.size + 1, 3, none⟩ (.int .i64 a')).setCell ⟨w.heap.size + 1, 4, none⟩ (.int .i64 b')).frozen? ⟨w.heap.size, 4, none⟩ = false := frozen_set5 cxf4
      have k5 := set5 (v0 := .int .i64 k') (v1 := .string y1) (v2 := .string y2) (v3 := .int .i64 a') (v4 := .int .i64 b') cy0 cy1 cy2 cy3 cy4
      replace cyf0 : (((((w3.setCell ⟨w.heap.size + 1, 0, none⟩ (.int .i64 k')).setCell ⟨w.heap.size + 1, 1, none⟩ (.string y1)).setCell ⟨w.heap.size + 1, 2, none⟩ (.string y2)).setCell ⟨w.heap.size + 1, 3, none⟩ (.int .i64 a')).setCell ⟨w.heap.size + 1, 4, none⟩ (.int .i64 b')).frozen? ⟨w.heap.size + 1, 0, none⟩ = false := frozen_set5 cyf0
      replace cyf1 : (((((w3.setCell ⟨w.heap.size + 1, 0, none⟩ (.int .i64 k')).setCell ⟨w.heap.size + 1, 1, none⟩ (.string y1)).setCell ⟨w.heap.size + 1, 2, none⟩ (.string y2)).setCell ⟨w.heap.size + 1, 3, none⟩ (.int .i64 a')).setCell ⟨w.heap.size + 1, 4, none⟩ (.int .i64 b')).frozen? ⟨w.heap.size + 1, 1, none⟩ = false := frozen_set5 cyf1
      replace cyf2 : (((((w3.setCell ⟨w.heap.size + 1, 0, none⟩ (.int .i64 k')).setCell ⟨w.heap.size + 1, 1, none⟩ (.string y1)).setCell ⟨w.heap.size + 1, 2, none⟩ (.string y2)).setCell ⟨w.heap.size + 1, 3, none⟩ (.int .i64 a')).setCell ⟨w.heap.size + 1, 4, none⟩ (.int .i64 b')).frozen? ⟨w.heap.size + 1, 2, none⟩ = false := frozen_set5 cyf2
      replace cyf3 : (((((w3.setCell ⟨w.heap.size + 1, 0, none⟩ (.int .i64 k')).setCell ⟨w.heap.size + 1, 1, none⟩ (.string y1)).setCell ⟨w.heap.size + 1, 2, none⟩ (.string y2)).setCell ⟨w.heap.size + 1, 3, none⟩ (.int .i64 a')).setCell ⟨w.heap.size + 1, 4, none⟩ (.int .i64 b')).frozen? ⟨w.heap.size + 1, 3, none⟩ = false := frozen_set5 cyf3
      replace cyf4 : (((((w3.setCell ⟨w.heap.size + 1, 0, none⟩ (.int .i64 k')).setCell ⟨w.heap.size + 1, 1, none⟩ (.string y1)).setCell ⟨w.heap.size + 1, 2, none⟩ (.string y2)).setCell ⟨w.heap.size + 1, 3, none⟩ (.int .i64 a')).setCell ⟨w.heap.size + 1, 4, none⟩ (.int .i64 b')).frozen? ⟨w.heap.size + 1, 4, none⟩ = false := frozen_set5 cyf4
      clear cy0 cy1 cy2 cy3 cy4
      obtain ⟨cy0, cy1, cy2, cy3, cy4⟩ := k5
      have hge : w.heap.size ≤ w.heap.size + 1 := by omega
      replace HB := Lib.hid (show Below w.heap.size w (((((w3.setCell ⟨w.heap.size + 1, 0, none⟩ (.int .i64 k')).setCell ⟨w.heap.size + 1, 1, none⟩ (.string y1)).setCell ⟨w.heap.size + 1, 2, none⟩ (.string y2)).setCell ⟨w.heap.size + 1, 3, none⟩ (.int .i64 a')).setCell ⟨w.heap.size + 1, 4, none⟩ (.int .i64 b')) from below_set5 (R := w.heap.size + 1) (v0 := .int .i64 k') (v1 := .string y1) (v2 := .string y2) (v3 := .int .i64 a') (v4 := .int .i64 b') HB.out hge)
      generalize hh3 : (((((w3.setCell ⟨w.heap.size + 1, 0, none⟩ (.int .i64 k')).setCell ⟨w.heap.size + 1, 1, none⟩ (.string y1)).setCell ⟨w.heap.size + 1, 2, none⟩ (.string y2)).setCell ⟨w.heap.size + 1, 3, none⟩ (.int .i64 a')).setCell ⟨w.heap.size + 1, 4, none⟩ (.int .i64 b')) = v3 at *
      clear hh3
      clear hge
      refine (HPR.out _ (HE.out.below HB.out)).mono ?_
      rintro e w4 ⟨rfl, hb⟩
      replace cxf0 := (hb.frozen (World.block_lt_of_cell? _ _ cx0)).trans cxf0
      replace cx0 := (hb.cell (World.block_lt_of_cell? _ _ cx0)).trans cx0
      replace cxf1 := (hb.frozen (World.block_lt_of_cell? _ _ cx1)).trans cxf1
      replace cx1 := (hb.cell (World.block_lt_of_cell? _ _ cx1)).trans cx1
      replace cxf2 := (hb.frozen (World.block_lt_of_cell? _ _ cx2)).trans cxf2
      replace cx2 := (hb.cell (World.block_lt_of_cell? _ _ cx2)).trans cx2
      replace cxf3 := (hb.frozen (World.block_lt_of_cell? _ _ cx3)).trans cxf3
      replace cx3 := (hb.cell (World.block_lt_of_cell? _ _ cx3)).trans cx3
      replace cxf4 := (hb.frozen (World.block_lt_of_cell? _ _ cx4)).trans cxf4
      replace cx4 := (hb.cell (World.block_lt_of_cell? _ _ cx4)).trans cx4
      replace cyf0 := (hb.frozen (World.block_lt_of_cell? _ _ cy0)).trans cyf0
      replace cy0 := (hb.cell (World.block_lt_of_cell? _ _ cy0)).trans cy0
      replace cyf1 := (hb.frozen (World.block_lt_of_cell? _ _ cy1)).trans cyf1
      replace cy1 := (hb.cell (World.block_lt_of_cell? _ _ cy1)).trans cy1
      replace cyf2 := (hb.frozen (World.block_lt_of_cell? _ _ cy2)).trans cyf2
      replace cy2 := (hb.cell (World.block_lt_of_cell? _ _ cy2)).trans cy2
      replace cyf3 := (hb.frozen (World.block_lt_of_cell? _ _ cy3)).trans cyf3
      replace cy3 := (hb.cell (World.block_lt_of_cell? _ _ cy3)).trans cy3
      replace cyf4 := (hb.frozen (World.block_lt_of_cell? _ _ cy4)).trans cyf4
      replace cy4 := (hb.cell (World.block_lt_of_cell? _ _ cy4)).trans cy4
      replace HB := Lib.hid (HB.out.trans (hb.mono HB.out.size))
      clear hb
      go_wp2_with fail
      refine (HPR2.out _ (HE.out.below HB.out)).mono ?_
      rintro e w5 ⟨rfl, hb⟩
      replace cxf0 := (hb.frozen (World.block_lt_of_cell? _ _ cx0)).trans cxf0
      replace cx0 := (hb.cell (World.block_lt_of_cell? _ _ cx0)).trans cx0
      replace cxf1 := (hb.frozen (World.block_lt_of_cell? _ _ cx1)).trans cxf1
      replace cx1 := (hb.cell (World.block_lt_of_cell? _ _ cx1)).trans cx1
      replace cxf2 := (hb.frozen (World.block_lt_of_cell? _ _ cx2)).trans cxf2
      replace cx2 := (hb.cell (World.block_lt_of_cell? _ _ cx2)).trans cx2
      replace cxf3 := (hb.frozen (World.block_lt_of_cell? _ _ cx3)).trans cxf3
      replace cx3 := (hb.cell (World.block_lt_of_cell? _ _ cx3)).trans cx3
      replace cxf4 := (hb.frozen (World.block_lt_of_cell? _ _ cx4)).trans cxf4
      replace cx4 := (hb.cell (World.block_lt_of_cell? _ _ cx4)).trans cx4
      replace cyf0 := (hb.frozen (World.block_lt_of_cell? _ _ cy0)).trans cyf0
      replace cy0 := (hb.cell (World.block_lt_of_cell? _ _ cy0)).trans cy0
      replace cyf1 := (hb.frozen (World.block_lt_of_cell? _ _ cy1)).trans cyf1
      replace cy1 := (hb.cell (World.block_lt_of_cell? _ _ cy1)).trans cy1
      replace cyf2 := (hb.frozen (World.block_lt_of_cell? _ _ cy2)).trans cyf2
      replace cy2 := (hb.cell (World.block_lt_of_cell? _ _ cy2)).trans cy2
      replace cyf3 := (hb.frozen (World.block_lt_of_cell? _ _ cy3)).trans cyf3
      replace cy3 := (hb.cell (World.block_lt_of_cell? _ _ cy3)).trans cy3
      replace cyf4 := (hb.frozen (World.block_lt_of_cell? _ _ cy4)).trans cyf4
      replace cy4 := (hb.cell (World.block_lt_of_cell? _ _ cy4)).trans cy4
      replace HB := Lib.hid (HB.out.trans (hb.mono HB.out.size))
      clear hb
      clear HCUT HCUT2 HPR HPR2 HE
      cases q
      all_goals
        go_wp2_with fail
        go_ret
        exact ⟨rfl, HB.out⟩
end Go.Proofs.YtmpokhdljlnllaaDoor
