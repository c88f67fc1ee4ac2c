/- The walk of EidTexts. -/
import Derived.Test.YtmpokhdljlnllaaDoorEBackW
set_option linter.unusedVariables false
set_option linter.unusedSimpArgs false
namespace Go.Proofs.YtmpokhdljlnllaaDoor
open Go.RowKit


set_option maxRecDepth 100000 in
set_option maxHeartbeats 8000000 in
theorem texts_core (k a b pk pa pb qk qa qb hk ha hb er pe qe : Int) (nd sv x1 x2 s t sc tc s1 t1 u pn ps qn qs hn hs : ByteArray) (r : Bool) (w : World) (HE : Hid (EnvN w))
    (HCUT : Hid (∀ W, Calls Tryd.prog 9 #[.agg #[.int .i64 k, .string nd, .string sv, .int .i64 a, .int .i64 b]] W fun e w' => e = .returned (.agg #[.int .i64 k, .string x1, .string x2, .int .i64 a, .int .i64 b]) ∧ Below W.heap.size W w'))
    (HLC : Hid (∀ W, Calls Tryd.prog 10 #[.string s] W fun e w' => e = .returned (.string sc) ∧ W = w'))
    (HLT : Hid (∀ W, Calls Tryd.prog 10 #[.string t] W fun e w' => e = .returned (.string tc) ∧ W = w'))
    (HHV : Hid (∀ W, EnvN W → Calls Tryd.prog 11 #[.agg #[.int .i64 k, .string x1, .string x2, .int .i64 a, .int .i64 b]] W fun e w' => e = .returned (.tuple #[.string s1, .string t1, .int .i64 er]) ∧ Below W.heap.size W w'))
    (RHV : Hid (∀ W, Calls Tryd.prog 12 #[.agg #[.int .i64 k, .string x1, .string x2, .int .i64 a, .int .i64 b]] W fun e w' => e = .returned (.tuple #[.string s1, .string t1, .int .i64 er]) ∧ Below W.heap.size W w'))
    (HJN : Hid (∀ W, EnvN W → Calls Tryd.prog 13 #[.string sc, .string tc] W fun e w' => e = .returned (.tuple #[.agg #[.int .i64 pk, .string pn, .string ps, .int .i64 pa, .int .i64 pb], .int .i64 pe]) ∧ Below W.heap.size W w'))
    (RJN : Hid (∀ W, Calls Tryd.prog 14 #[.string sc, .string tc] W fun e w' => e = .returned (.tuple #[.agg #[.int .i64 pk, .string pn, .string ps, .int .i64 pa, .int .i64 pb], .int .i64 pe]) ∧ Below W.heap.size W w'))
    (HPR : Hid (∀ W, EnvN W → Calls Tryd.prog 15 #[.agg #[.int .i64 k, .string x1, .string x2, .int .i64 a, .int .i64 b]] W fun e w' => e = .returned (.tuple #[.string u, .int .i64 er]) ∧ Below W.heap.size W w'))
    (RPR : Hid (∀ W, Calls Tryd.prog 16 #[.agg #[.int .i64 k, .string x1, .string x2, .int .i64 a, .int .i64 b]] W fun e w' => e = .returned (.tuple #[.string u, .int .i64 er]) ∧ Below W.heap.size W w'))
    (HPS : Hid (∀ W, EnvN W → Calls Tryd.prog 17 #[.string sc] W fun e w' => e = .returned (.tuple #[.agg #[.int .i64 qk, .string qn, .string qs, .int .i64 qa, .int .i64 qb], .int .i64 qe]) ∧ Below W.heap.size W w'))
    (RPS : Hid (∀ W, Calls Tryd.prog 18 #[.string sc] W fun e w' => e = .returned (.tuple #[.agg #[.int .i64 qk, .string qn, .string qs, .int .i64 qa, .int .i64 qb], .int .i64 qe]) ∧ Below W.heap.size W w'))
    (HHM : Hid (∀ W, EnvN W → Calls Tryd.prog 19 #[.agg #[.int .i64 k, .string x1, .string x2, .int .i64 a, .int .i64 b]] W fun e w' => e = .returned (.tuple #[.agg #[.int .i64 hk, .string hn, .string hs, .int .i64 ha, .int .i64 hb], .int .i64 er]) ∧ Below W.heap.size W w'))
    (RHM : Hid (∀ W, Calls Tryd.prog 20 #[.agg #[.int .i64 k, .string x1, .string x2, .int .i64 a, .int .i64 b]] W fun e w' => e = .returned (.tuple #[.agg #[.int .i64 hk, .string hn, .string hs, .int .i64 ha, .int .i64 hb], .int .i64 er]) ∧ Below W.heap.size W w'))
    (HR : Hid (∀ W, EnvN W → Calls Tryd.prog 21 #[.agg #[.int .i64 k, .string x1, .string x2, .int .i64 a, .int .i64 b]] W fun e w' => e = .returned (.bool r) ∧ Below W.heap.size W w'))
    (RR : Hid (∀ W, Calls Tryd.prog 22 #[.agg #[.int .i64 k, .string x1, .string x2, .int .i64 a, .int .i64 b]] W fun e w' => e = .returned (.bool r) ∧ Below W.heap.size W w')) :
    Calls Tryd.prog 3 #[.agg #[.int .i64 k, .string nd, .string sv, .int .i64 a, .int .i64 b], .string s, .string t] w fun e w' => e = .returned (.bool true) ∧ Below w.heap.size w w' := by
  have e1 : ∀ W : World, (binOp .eql 23 (.agg #[.int .i64 pk, .string pn, .string ps, .int .i64 pa, .int .i64 pb]) (.agg #[.int .i64 pk, .string pn, .string ps, .int .i64 pa, .int .i64 pb])).run Tryd.prog W = .ok (.bool true) W := fun W => by rw [nm_eql, nmE_iff.2 ⟨rfl, rfl, rfl, rfl, rfl⟩]
  have e2 : ∀ W : World, (binOp .eql 23 (.agg #[.int .i64 qk, .string qn, .string qs, .int .i64 qa, .int .i64 qb]) (.agg #[.int .i64 qk, .string qn, .string qs, .int .i64 qa, .int .i64 qb])).run Tryd.prog W = .ok (.bool true) W := fun W => by rw [nm_eql, nmE_iff.2 ⟨rfl, rfl, rfl, rfl, rfl⟩]
  have e3 : ∀ W : World, (binOp .eql 23 (.agg #[.int .i64 hk, .string hn, .string hs, .int .i64 ha, .int .i64 hb]) (.agg #[.int .i64 hk, .string hn, .string hs, .int .i64 ha, .int .i64 hb])).run Tryd.prog W = .ok (.bool true) W := fun W => by rw [nm_eql, nmE_iff.2 ⟨rfl, rfl, rfl, rfl, rfl⟩]
  go_enter Tryd.func3, Tryd.ntmps3
  go_wp2_with fail
  have cx0 : (w.alloc (.cells #[.int .i64 k, .string nd, .string sv, .int .i64 a, .int .i64 b] 23)).cell? ⟨w.heap.size, 0, none⟩ = some (.int .i64 k) := by go_simp
  have cxf0 : (w.alloc (.cells #[.int .i64 k, .string nd, .string sv, .int .i64 a, .int .i64 b] 23)).frozen? ⟨w.heap.size, 0, none⟩ = false := by go_simp
  have cx1 : (w.alloc (.cells #[.int .i64 k, .string nd, .string sv, .int .i64 a, .int .i64 b] 23)).cell? ⟨w.heap.size, 1, none⟩ = some (.string nd) := by go_simp
  have cxf1 : (w.alloc (.cells #[.int .i64 k, .string nd, .string sv, .int .i64 a, .int .i64 b] 23)).frozen? ⟨w.heap.size, 1, none⟩ = false := by go_simp
  have cx2 : (w.alloc (.cells #[.int .i64 k, .string nd, .string sv, .int .i64 a, .int .i64 b] 23)).cell? ⟨w.heap.size, 2, none⟩ = some (.string sv) := by go_simp
  have cxf2 : (w.alloc (.cells #[.int .i64 k, .string nd, .string sv, .int .i64 a, .int .i64 b] 23)).frozen? ⟨w.heap.size, 2, none⟩ = false := by go_simp
  have cx3 : (w.alloc (.cells #[.int .i64 k, .string nd, .string sv, .int .i64 a, .int .i64 b] 23)).cell? ⟨w.heap.size, 3, none⟩ = some (.int .i64 a) := by go_simp
  have cxf3 : (w.alloc (.cells #[.int .i64 k, .string nd, .string sv, .int .i64 a, .int .i64 b] 23)).frozen? ⟨w.heap.size, 3, none⟩ = false := by go_simp
  have cx4 : (w.alloc (.cells #[.int .i64 k, .string nd, .string sv, .int .i64 a, .int .i64 b] 23)).cell? ⟨w.heap.size, 4, none⟩ = some (.int .i64 b) := by go_simp
  have cxf4 : (w.alloc (.cells #[.int .i64 k, .string nd, .string sv, .int .i64 a, .int .i64 b] 23)).frozen? ⟨w.heap.size, 4, none⟩ = false := by go_simp
  have HB := Lib.hid (show Below w.heap.size w (w.alloc (.cells #[.int .i64 k, .string nd, .string sv, .int .i64 a, .int .i64 b] 23)) from below_alloc_l (Below.refl _ _))
  generalize hh1 : (w.alloc (.cells #[.int .i64 k, .string nd, .string sv, .int .i64 a, .int .i64 b] 23)) = v1 at *
  clear hh1
  refine (shown_any _ (HE.out.below HB.out)).mono ?_
  rintro e w1 ⟨rfl, hb⟩
  replace cxf0 := (hb.frozen (World.block_lt_of_cell? _ _ cx0)).trans cxf0
  replace cx0 := (hb.cell (World.block_lt_of_cell? _ _ cx0)).trans cx0
  replace cxf1 := (hb.frozen (World.block_lt_of_cell? _ _ cx1)).trans cxf1
  replace cx1 := (hb.cell (World.block_lt_of_cell? _ _ cx1)).trans cx1
  replace cxf2 := (hb.frozen (World.block_lt_of_cell? _ _ cx2)).trans cxf2
  replace cx2 := (hb.cell (World.block_lt_of_cell? _ _ cx2)).trans cx2
  replace cxf3 := (hb.frozen (World.block_lt_of_cell? _ _ cx3)).trans cxf3
  replace cx3 := (hb.cell (World.block_lt_of_cell? _ _ cx3)).trans cx3
  replace cxf4 := (hb.frozen (World.block_lt_of_cell? _ _ cx4)).trans cxf4
  replace cx4 := (hb.cell (World.block_lt_of_cell? _ _ cx4)).trans cx4
  replace HB := Lib.hid (HB.out.trans (hb.mono HB.out.size))
  clear hb
  go_wp2_with fail
  refine (HCUT.out _).mono ?_
  rintro e w2 ⟨rfl, hb⟩
  replace cxf0 := (hb.frozen (World.block_lt_of_cell? _ _ cx0)).trans cxf0
  replace cx0 := (hb.cell (World.block_lt_of_cell? _ _ cx0)).trans cx0
  replace cxf1 := (hb.frozen (World.block_lt_of_cell? _ _ cx1)).trans cxf1
  replace cx1 := (hb.cell (World.block_lt_of_cell? _ _ cx1)).trans cx1
  replace cxf2 := (hb.frozen (World.block_lt_of_cell? _ _ cx2)).trans cxf2
  replace cx2 := (hb.cell (World.block_lt_of_cell? _ _ cx2)).trans cx2
  replace cxf3 := (hb.frozen (World.block_lt_of_cell? _ _ cx3)).trans cxf3
  replace cx3 := (hb.cell (World.block_lt_of_cell? _ _ cx3)).trans cx3
  replace cxf4 := (hb.frozen (World.block_lt_of_cell? _ _ cx4)).trans cxf4
  replace cx4 := (hb.cell (World.block_lt_of_cell? _ _ cx4)).trans cx4
  replace HB := Lib.hid (HB.out.trans (hb.mono HB.out.size))
  clear hb
  go_wp2_with fail
  have k5 := set5 (v0 := .int .i64 k) (v1 := .string x1) (v2 := .string x2) (v3 := .int .i64 a) (v4 := .int .i64 b) cx0 cx1 cx2 cx3 cx4
  replace cxf0 : (((((w2.setCell ⟨w.heap.size, 0, none⟩ (.int .i64 k)).setCell ⟨w.heap.size, 1, none⟩ (.string x1)).setCell ⟨w.heap.size, 2, none⟩ (.string x2)).setCell ⟨w.heap.size, 3, none⟩ (.int .i64 a)).setCell ⟨w.heap.size, 4, none⟩ (.int .i64 b)).frozen? ⟨w.heap.size, 0, none⟩ = false := frozen_set5 cxf0
  replace cxf1 : (((((w2.setCell ⟨w.heap.size, 0, none⟩ (.int .i64 k)).setCell ⟨w.heap.size, 1, none⟩ (.string x1)).setCell ⟨w.heap.size, 2, none⟩ (.string x2)).setCell ⟨w.heap.size, 3, none⟩ (.int .i64 a)).setCell ⟨w.heap.size, 4, none⟩ (.int .i64 b)).frozen? ⟨w.heap.size, 1, none⟩ = false := frozen_set5 cxf1
  replace cxf2 : (((((w2.setCell ⟨w.heap.size, 0, none⟩ (.int .i64 k)).setCell ⟨w.heap.size, 1, none⟩ (.string x1)).setCell ⟨w.heap.size, 2, none⟩ (.string x2)).setCell ⟨w.heap.size, 3, none⟩ (.int .i64 a)).setCell ⟨w.heap.size, 4, none⟩ (.int .i64 b)).frozen? ⟨w.heap.size, 2, none⟩ = false := frozen_set5 cxf2
  replace cxf3 : (((((w2.setCell ⟨w.heap.size, 0, none⟩ (.int .i64 k)).setCell ⟨w.heap.size, 1, none⟩ (.string x1)).setCell ⟨w.heap.size, 2, none⟩ (.string x2)).setCell ⟨w.heap.size, 3, none⟩ (.int .i64 a)).setCell ⟨w.heap.size, 4, none⟩ (.int .i64 b)).frozen? ⟨w.heap.size, 3, none⟩ = false := frozen_set5 cxf3
  replace cxf4 : (((((w2.setCell ⟨w.heap.size, 0, none⟩ (.int .i64 k)).setCell ⟨w.heap.size, 1, none⟩ (.string x1)).setCell ⟨w.heap.size, 2, none⟩ (.string x2)).setCell ⟨w.heap.size, 3, none⟩ (.int .i64 a)).setCell ⟨w.heap.size, 4, none⟩ (.int .i64 b)).frozen? ⟨w.heap.size, 4, none⟩ = false := frozen_set5 cxf4
  clear cx0 cx1 cx2 cx3 cx4
  obtain ⟨cx0, cx1, cx2, cx3, cx4⟩ := k5
  have hge : w.heap.size ≤ w.heap.size := by omega
  replace HB := Lib.hid (show Below w.heap.size w (((((w2.setCell ⟨w.heap.size, 0, none⟩ (.int .i64 k)).setCell ⟨w.heap.size, 1, none⟩ (.string x1)).setCell ⟨w.heap.size, 2, none⟩ (.string x2)).setCell ⟨w.heap.size, 3, none⟩ (.int .i64 a)).setCell ⟨w.heap.size, 4, none⟩ (.int .i64 b)) from below_set5 (R := w.heap.size) (v0 := .int .i64 k) (v1 := .string x1) (v2 := .string x2) (v3 := .int .i64 a) (v4 := .int .i64 b) HB.out hge)
  generalize hh2 : (((((w2.setCell ⟨w.heap.size, 0, none⟩ (.int .i64 k)).setCell ⟨w.heap.size, 1, none⟩ (.string x1)).setCell ⟨w.heap.size, 2, none⟩ (.string x2)).setCell ⟨w.heap.size, 3, none⟩ (.int .i64 a)).setCell ⟨w.heap.size, 4, none⟩ (.int .i64 b)) = v2 at *
  clear hh2
  clear hge
  clear cxf0 cxf1 cxf2 cxf3 cxf4
  refine (HLC.out _).mono ?_
  rintro e wc ⟨rfl, rfl⟩
  go_wp2_with fail
  refine (HLT.out _).mono ?_
  rintro e wc ⟨rfl, rfl⟩
  go_wp2_with fail
  refine (HHV.out _ (HE.out.below HB.out)).mono ?_
  rintro e w3 ⟨rfl, hb⟩
  replace cx0 := (hb.cell (World.block_lt_of_cell? _ _ cx0)).trans cx0
  replace cx1 := (hb.cell (World.block_lt_of_cell? _ _ cx1)).trans cx1
  replace cx2 := (hb.cell (World.block_lt_of_cell? _ _ cx2)).trans cx2
  replace cx3 := (hb.cell (World.block_lt_of_cell? _ _ cx3)).trans cx3
  replace cx4 := (hb.cell (World.block_lt_of_cell? _ _ cx4)).trans cx4
  replace HB := Lib.hid (HB.out.trans (hb.mono HB.out.size))
  clear hb
  go_wp2_with fail
  refine (RHV.out _).mono ?_
  rintro e w4 ⟨rfl, hb⟩
  replace cx0 := (hb.cell (World.block_lt_of_cell? _ _ cx0)).trans cx0
  replace cx1 := (hb.cell (World.block_lt_of_cell? _ _ cx1)).trans cx1
  replace cx2 := (hb.cell (World.block_lt_of_cell? _ _ cx2)).trans cx2
  replace cx3 := (hb.cell (World.block_lt_of_cell? _ _ cx3)).trans cx3
  replace cx4 := (hb.cell (World.block_lt_of_cell? _ _ cx4)).trans cx4
  replace HB := Lib.hid (HB.out.trans (hb.mono HB.out.size))
  clear hb
  go_wp2_with fail
  refine (HJN.out _ (HE.out.below HB.out)).mono ?_
  rintro e w5 ⟨rfl, hb⟩
  replace cx0 := (hb.cell (World.block_lt_of_cell? _ _ cx0)).trans cx0
  replace cx1 := (hb.cell (World.block_lt_of_cell? _ _ cx1)).trans cx1
  replace cx2 := (hb.cell (World.block_lt_of_cell? _ _ cx2)).trans cx2
  replace cx3 := (hb.cell (World.block_lt_of_cell? _ _ cx3)).trans cx3
  replace cx4 := (hb.cell (World.block_lt_of_cell? _ _ cx4)).trans cx4
  replace HB := Lib.hid (HB.out.trans (hb.mono HB.out.size))
  clear hb
  have hlcg_cx := World.block_lt_of_cell? _ _ cx0
  replace cx0 : (w5.alloc (.cells #[.int .i64 pk, .string pn, .string ps, .int .i64 pa, .int .i64 pb] 23)).cell? ⟨w.heap.size, 0, none⟩ = some (.int .i64 k) := cell_al cx0
  replace cx1 : (w5.alloc (.cells #[.int .i64 pk, .string pn, .string ps, .int .i64 pa, .int .i64 pb] 23)).cell? ⟨w.heap.size, 1, none⟩ = some (.string x1) := cell_al cx1
  replace cx2 : (w5.alloc (.cells #[.int .i64 pk, .string pn, .string ps, .int .i64 pa, .int .i64 pb] 23)).cell? ⟨w.heap.size, 2, none⟩ = some (.string x2) := cell_al cx2
  replace cx3 : (w5.alloc (.cells #[.int .i64 pk, .string pn, .string ps, .int .i64 pa, .int .i64 pb] 23)).cell? ⟨w.heap.size, 3, none⟩ = some (.int .i64 a) := cell_al cx3
  replace cx4 : (w5.alloc (.cells #[.int .i64 pk, .string pn, .string ps, .int .i64 pa, .int .i64 pb] 23)).cell? ⟨w.heap.size, 4, none⟩ = some (.int .i64 b) := cell_al cx4
  have cg0 : (w5.alloc (.cells #[.int .i64 pk, .string pn, .string ps, .int .i64 pa, .int .i64 pb] 23)).cell? ⟨w5.heap.size, 0, none⟩ = some (.int .i64 pk) := by go_simp
  have cg1 : (w5.alloc (.cells #[.int .i64 pk, .string pn, .string ps, .int .i64 pa, .int .i64 pb] 23)).cell? ⟨w5.heap.size, 1, none⟩ = some (.string pn) := by go_simp
  have cg2 : (w5.alloc (.cells #[.int .i64 pk, .string pn, .string ps, .int .i64 pa, .int .i64 pb] 23)).cell? ⟨w5.heap.size, 2, none⟩ = some (.string ps) := by go_simp
  have cg3 : (w5.alloc (.cells #[.int .i64 pk, .string pn, .string ps, .int .i64 pa, .int .i64 pb] 23)).cell? ⟨w5.heap.size, 3, none⟩ = some (.int .i64 pa) := by go_simp
  have cg4 : (w5.alloc (.cells #[.int .i64 pk, .string pn, .string ps, .int .i64 pa, .int .i64 pb] 23)).cell? ⟨w5.heap.size, 4, none⟩ = some (.int .i64 pb) := by go_simp
  go_wp2_with fail
  replace HB := Lib.hid (show Below w.heap.size w (w5.alloc (.cells #[.int .i64 pk, .string pn, .string ps, .int .i64 pa, .int .i64 pb] 23)) from below_alloc_l (HB.out))
  generalize hh3 : (w5.alloc (.cells #[.int .i64 pk, .string pn, .string ps, .int .i64 pa, .int .i64 pb] 23)) = v3 at *
  clear hh3
  refine (RJN.out _).mono ?_
  rintro e w6 ⟨rfl, hb⟩
  replace cx0 := (hb.cell (World.block_lt_of_cell? _ _ cx0)).trans cx0
  replace cx1 := (hb.cell (World.block_lt_of_cell? _ _ cx1)).trans cx1
  replace cx2 := (hb.cell (World.block_lt_of_cell? _ _ cx2)).trans cx2
  replace cx3 := (hb.cell (World.block_lt_of_cell? _ _ cx3)).trans cx3
  replace cx4 := (hb.cell (World.block_lt_of_cell? _ _ cx4)).trans cx4
  replace cg0 := (hb.cell (World.block_lt_of_cell? _ _ cg0)).trans cg0
  replace cg1 := (hb.cell (World.block_lt_of_cell? _ _ cg1)).trans cg1
  replace cg2 := (hb.cell (World.block_lt_of_cell? _ _ cg2)).trans cg2
  replace cg3 := (hb.cell (World.block_lt_of_cell? _ _ cg3)).trans cg3
  replace cg4 := (hb.cell (World.block_lt_of_cell? _ _ cg4)).trans cg4
  replace HB := Lib.hid (HB.out.trans (hb.mono HB.out.size))
  clear hb
  have hlci_cx := World.block_lt_of_cell? _ _ cx0
  have hlci_cg := World.block_lt_of_cell? _ _ cg0
  replace cx0 : (w6.alloc (.cells #[.int .i64 pk, .string pn, .string ps, .int .i64 pa, .int .i64 pb] 23)).cell? ⟨w.heap.size, 0, none⟩ = some (.int .i64 k) := cell_al cx0
  replace cx1 : (w6.alloc (.cells #[.int .i64 pk, .string pn, .string ps, .int .i64 pa, .int .i64 pb] 23)).cell? ⟨w.heap.size, 1, none⟩ = some (.string x1) := cell_al cx1
  replace cx2 : (w6.alloc (.cells #[.int .i64 pk, .string pn, .string ps, .int .i64 pa, .int .i64 pb] 23)).cell? ⟨w.heap.size, 2, none⟩ = some (.string x2) := cell_al cx2
  replace cx3 : (w6.alloc (.cells #[.int .i64 pk, .string pn, .string ps, .int .i64 pa, .int .i64 pb] 23)).cell? ⟨w.heap.size, 3, none⟩ = some (.int .i64 a) := cell_al cx3
  replace cx4 : (w6.alloc (.cells #[.int .i64 pk, .string pn, .string ps, .int .i64 pa, .int .i64 pb] 23)).cell? ⟨w.heap.size, 4, none⟩ = some (.int .i64 b) := cell_al cx4
  replace cg0 : (w6.alloc (.cells #[.int .i64 pk, .string pn, .string ps, .int .i64 pa, .int .i64 pb] 23)).cell? ⟨w5.heap.size, 0, none⟩ = some (.int .i64 pk) := cell_al cg0
  replace cg1 : (w6.alloc (.cells #[.int .i64 pk, .string pn, .string ps, .int .i64 pa, .int .i64 pb] 23)).cell? ⟨w5.heap.size, 1, none⟩ = some (.string pn) := cell_al cg1
  replace cg2 : (w6.alloc (.cells #[.int .i64 pk, .string pn, .string ps, .int .i64 pa, .int .i64 pb] 23)).cell? ⟨w5.heap.size, 2, none⟩ = some (.string ps) := cell_al cg2
  replace cg3 : (w6.alloc (.cells #[.int .i64 pk, .string pn, .string ps, .int .i64 pa, .int .i64 pb] 23)).cell? ⟨w5.heap.size, 3, none⟩ = some (.int .i64 pa) := cell_al cg3
  replace cg4 : (w6.alloc (.cells #[.int .i64 pk, .string pn, .string ps, .int .i64 pa, .int .i64 pb] 23)).cell? ⟨w5.heap.size, 4, none⟩ = some (.int .i64 pb) := cell_al cg4
  have ci0 : (w6.alloc (.cells #[.int .i64 pk, .string pn, .string ps, .int .i64 pa, .int .i64 pb] 23)).cell? ⟨w6.heap.size, 0, none⟩ = some (.int .i64 pk) := by go_simp
  have ci1 : (w6.alloc (.cells #[.int .i64 pk, .string pn, .string ps, .int .i64 pa, .int .i64 pb] 23)).cell? ⟨w6.heap.size, 1, none⟩ = some (.string pn) := by go_simp
  have ci2 : (w6.alloc (.cells #[.int .i64 pk, .string pn, .string ps, .int .i64 pa, .int .i64 pb] 23)).cell? ⟨w6.heap.size, 2, none⟩ = some (.string ps) := by go_simp
  have ci3 : (w6.alloc (.cells #[.int .i64 pk, .string pn, .string ps, .int .i64 pa, .int .i64 pb] 23)).cell? ⟨w6.heap.size, 3, none⟩ = some (.int .i64 pa) := by go_simp
  have ci4 : (w6.alloc (.cells #[.int .i64 pk, .string pn, .string ps, .int .i64 pa, .int .i64 pb] 23)).cell? ⟨w6.heap.size, 4, none⟩ = some (.int .i64 pb) := by go_simp
  go_wp2_with fail
  replace HB := Lib.hid (show Below w.heap.size w (w6.alloc (.cells #[.int .i64 pk, .string pn, .string ps, .int .i64 pa, .int .i64 pb] 23)) from below_alloc_l (HB.out))
  generalize hh4 : (w6.alloc (.cells #[.int .i64 pk, .string pn, .string ps, .int .i64 pa, .int .i64 pb] 23)) = v4 at *
  clear hh4
  refine (HPR.out _ (HE.out.below HB.out)).mono ?_
  rintro e w7 ⟨rfl, hb⟩
  replace cx0 := (hb.cell (World.block_lt_of_cell? _ _ cx0)).trans cx0
  replace cx1 := (hb.cell (World.block_lt_of_cell? _ _ cx1)).trans cx1
  replace cx2 := (hb.cell (World.block_lt_of_cell? _ _ cx2)).trans cx2
  replace cx3 := (hb.cell (World.block_lt_of_cell? _ _ cx3)).trans cx3
  replace cx4 := (hb.cell (World.block_lt_of_cell? _ _ cx4)).trans cx4
  replace cg0 := (hb.cell (World.block_lt_of_cell? _ _ cg0)).trans cg0
  replace cg1 := (hb.cell (World.block_lt_of_cell? _ _ cg1)).trans cg1
  replace cg2 := (hb.cell (World.block_lt_of_cell? _ _ cg2)).trans cg2
  replace cg3 := (hb.cell (World.block_lt_of_cell? _ _ cg3)).trans cg3
  replace cg4 := (hb.cell (World.block_lt_of_cell? _ _ cg4)).trans cg4
  replace ci0 := (hb.cell (World.block_lt_of_cell? _ _ ci0)).trans ci0
  replace ci1 := (hb.cell (World.block_lt_of_cell? _ _ ci1)).trans ci1
  replace ci2 := (hb.cell (World.block_lt_of_cell? _ _ ci2)).trans ci2
  replace ci3 := (hb.cell (World.block_lt_of_cell? _ _ ci3)).trans ci3
  replace ci4 := (hb.cell (World.block_lt_of_cell? _ _ ci4)).trans ci4
  replace HB := Lib.hid (HB.out.trans (hb.mono HB.out.size))
  clear hb
  go_wp2_with fail
  refine (RPR.out _).mono ?_
  rintro e w8 ⟨rfl, hb⟩
  replace cx0 := (hb.cell (World.block_lt_of_cell? _ _ cx0)).trans cx0
  replace cx1 := (hb.cell (World.block_lt_of_cell? _ _ cx1)).trans cx1
  replace cx2 := (hb.cell (World.block_lt_of_cell? _ _ cx2)).trans cx2
  replace cx3 := (hb.cell (World.block_lt_of_cell? _ _ cx3)).trans cx3
  replace cx4 := (hb.cell (World.block_lt_of_cell? _ _ cx4)).trans cx4
  replace cg0 := (hb.cell (World.block_lt_of_cell? _ _ cg0)).trans cg0
  replace cg1 := (hb.cell (World.block_lt_of_cell? _ _ cg1)).trans cg1
  replace cg2 := (hb.cell (World.block_lt_of_cell? _ _ cg2)).trans cg2
  replace cg3 := (hb.cell (World.block_lt_of_cell? _ _ cg3)).trans cg3
  replace cg4 := (hb.cell (World.block_lt_of_cell? _ _ cg4)).trans cg4
  replace ci0 := (hb.cell (World.block_lt_of_cell? _ _ ci0)).trans ci0
  replace ci1 := (hb.cell (World.block_lt_of_cell? _ _ ci1)).trans ci1
  replace ci2 := (hb.cell (World.block_lt_of_cell? _ _ ci2)).trans ci2
  replace ci3 := (hb.cell (World.block_lt_of_cell? _ _ ci3)).trans ci3
  replace ci4 := (hb.cell (World.block_lt_of_cell? _ _ ci4)).trans ci4
  replace HB := Lib.hid (HB.out.trans (hb.mono HB.out.size))
  clear hb
  go_wp2_with fail
  refine (HPS.out _ (HE.out.below HB.out)).mono ?_
  rintro e w9 ⟨rfl, hb⟩
  replace cx0 := (hb.cell (World.block_lt_of_cell? _ _ cx0)).trans cx0
  replace cx1 := (hb.cell (World.block_lt_of_cell? _ _ cx1)).trans cx1
  replace cx2 := (hb.cell (World.block_lt_of_cell? _ _ cx2)).trans cx2
  replace cx3 := (hb.cell (World.block_lt_of_cell? _ _ cx3)).trans cx3
  replace cx4 := (hb.cell (World.block_lt_of_cell? _ _ cx4)).trans cx4
  replace cg0 := (hb.cell (World.block_lt_of_cell? _ _ cg0)).trans cg0
  replace cg1 := (hb.cell (World.block_lt_of_cell? _ _ cg1)).trans cg1
  replace cg2 := (hb.cell (World.block_lt_of_cell? _ _ cg2)).trans cg2
  replace cg3 := (hb.cell (World.block_lt_of_cell? _ _ cg3)).trans cg3
  replace cg4 := (hb.cell (World.block_lt_of_cell? _ _ cg4)).trans cg4
  replace ci0 := (hb.cell (World.block_lt_of_cell? _ _ ci0)).trans ci0
  replace ci1 := (hb.cell (World.block_lt_of_cell? _ _ ci1)).trans ci1
  replace ci2 := (hb.cell (World.block_lt_of_cell? _ _ ci2)).trans ci2
  replace ci3 := (hb.cell (World.block_lt_of_cell? _ _ ci3)).trans ci3
  replace ci4 := (hb.cell (World.block_lt_of_cell? _ _ ci4)).trans ci4
  replace HB := Lib.hid (HB.out.trans (hb.mono HB.out.size))
  clear hb
  have hlco_cx := World.block_lt_of_cell? _ _ cx0
  have hlco_cg := World.block_lt_of_cell? _ _ cg0
  have hlco_ci := World.block_lt_of_cell? _ _ ci0
  replace cx0 : (w9.alloc (.cells #[.int .i64 qk, .string qn, .string qs, .int .i64 qa, .int .i64 qb] 23)).cell? ⟨w.heap.size, 0, none⟩ = some (.int .i64 k) := cell_al cx0
  replace cx1 : (w9.alloc (.cells #[.int .i64 qk, .string qn, .string qs, .int .i64 qa, .int .i64 qb] 23)).cell? ⟨w.heap.size, 1, none⟩ = some (.string x1) := cell_al cx1
  replace cx2 : (w9.alloc (.cells #[.int .i64 qk, .string qn, .string qs, .int .i64 qa, .int .i64 qb] 23)).cell? ⟨w.heap.size, 2, none⟩ = some (.string x2) := cell_al cx2
  replace cx3 : (w9.alloc (.cells #[.int .i64 qk, .string qn, .string qs, .int .i64 qa, .int .i64 qb] 23)).cell? ⟨w.heap.size, 3, none⟩ = some (.int .i64 a) := cell_al cx3
  replace cx4 : (w9.alloc (.cells #[.int .i64 qk, .string qn, .string qs, .int .i64 qa, .int .i64 qb] 23)).cell? ⟨w.heap.size, 4, none⟩ = some (.int .i64 b) := cell_al cx4
  replace cg0 : (w9.alloc (.cells #[.int .i64 qk, .string qn, .string qs, .int .i64 qa, .int .i64 qb] 23)).cell? ⟨w5.heap.size, 0, none⟩ = some (.int .i64 pk) := cell_al cg0
  replace cg1 : (w9.alloc (.cells #[.int .i64 qk, .string qn, .string qs, .int .i64 qa, .int .i64 qb] 23)).cell? ⟨w5.heap.size, 1, none⟩ = some (.string pn) := cell_al cg1
  replace cg2 : (w9.alloc (.cells #[.int .i64 qk, .string qn, .string qs, .int .i64 qa, .int .i64 qb] 23)).cell? ⟨w5.heap.size, 2, none⟩ = some (.string ps) := cell_al cg2
  replace cg3 : (w9.alloc (.cells #[.int .i64 qk, .string qn, .string qs, .int .i64 qa, .int .i64 qb] 23)).cell? ⟨w5.heap.size, 3, none⟩ = some (.int .i64 pa) := cell_al cg3
  replace cg4 : (w9.alloc (.cells #[.int .i64 qk, .string qn, .string qs, .int .i64 qa, .int .i64 qb] 23)).cell? ⟨w5.heap.size, 4, none⟩ = some (.int .i64 pb) := cell_al cg4
  replace ci0 : (w9.alloc (.cells #[.int .i64 qk, .string qn, .string qs, .int .i64 qa, .int .i64 qb] 23)).cell? ⟨w6.heap.size, 0, none⟩ = some (.int .i64 pk) := cell_al ci0
  replace ci1 : (w9.alloc (.cells #[.int .i64 qk, .string qn, .string qs, .int .i64 qa, .int .i64 qb] 23)).cell? ⟨w6.heap.size, 1, none⟩ = some (.string pn) := cell_al ci1
  replace ci2 : (w9.alloc (.cells #[.int .i64 qk, .string qn, .string qs, .int .i64 qa, .int .i64 qb] 23)).cell? ⟨w6.heap.size, 2, none⟩ = some (.string ps) := cell_al ci2
  replace ci3 : (w9.alloc (.cells #[.int .i64 qk, .string qn, .string qs, .int .i64 qa, .int .i64 qb] 23)).cell? ⟨w6.heap.size, 3, none⟩ = some (.int .i64 pa) := cell_al ci3
  replace ci4 : (w9.alloc (.cells #[.int .i64 qk, .string qn, .string qs, .int .i64 qa, .int .i64 qb] 23)).cell? ⟨w6.heap.size, 4, none⟩ = some (.int .i64 pb) := cell_al ci4
  have co0 : (w9.alloc (.cells #[.int .i64 qk, .string qn, .string qs, .int .i64 qa, .int .i64 qb] 23)).cell? ⟨w9.heap.size, 0, none⟩ = some (.int .i64 qk) := by go_simp
  have co1 : (w9.alloc (.cells #[.int .i64 qk, .string qn, .string qs, .int .i64 qa, .int .i64 qb] 23)).cell? ⟨w9.heap.size, 1, none⟩ = some (.string qn) := by go_simp
  have co2 : (w9.alloc (.cells #[.int .i64 qk, .string qn, .string qs, .int .i64 qa, .int .i64 qb] 23)).cell? ⟨w9.heap.size, 2, none⟩ = some (.string qs) := by go_simp
  have co3 : (w9.alloc (.cells #[.int .i64 qk, .string qn, .string qs, .int .i64 qa, .int .i64 qb] 23)).cell? ⟨w9.heap.size, 3, none⟩ = some (.int .i64 qa) := by go_simp
  have co4 : (w9.alloc (.cells #[.int .i64 qk, .string qn, .string qs, .int .i64 qa, .int .i64 qb] 23)).cell? ⟨w9.heap.size, 4, none⟩ = some (.int .i64 qb) := by go_simp
  go_wp2_with fail
  replace HB := Lib.hid (show Below w.heap.size w (w9.alloc (.cells #[.int .i64 qk, .string qn, .string qs, .int .i64 qa, .int .i64 qb] 23)) from below_alloc_l (HB.out))
  generalize hh5 : (w9.alloc (.cells #[.int .i64 qk, .string qn, .string qs, .int .i64 qa, .int .i64 qb] 23)) = v5 at *
  clear hh5
  refine (RPS.out _).mono ?_
  rintro e w10 ⟨rfl, hb⟩
  replace cx0 := (hb.cell (World.block_lt_of_cell? _ _ cx0)).trans cx0
  replace cx1 := (hb.cell (World.block_lt_of_cell? _ _ cx1)).trans cx1
  replace cx2 := (hb.cell (World.block_lt_of_cell? _ _ cx2)).trans cx2
  replace cx3 := (hb.cell (World.block_lt_of_cell? _ _ cx3)).trans cx3
  replace cx4 := (hb.cell (World.block_lt_of_cell? _ _ cx4)).trans cx4
  replace cg0 := (hb.cell (World.block_lt_of_cell? _ _ cg0)).trans cg0
  replace cg1 := (hb.cell (World.block_lt_of_cell? _ _ cg1)).trans cg1
  replace cg2 := (hb.cell (World.block_lt_of_cell? _ _ cg2)).trans cg2
  replace cg3 := (hb.cell (World.block_lt_of_cell? _ _ cg3)).trans cg3
  replace cg4 := (hb.cell (World.block_lt_of_cell? _ _ cg4)).trans cg4
  replace ci0 := (hb.cell (World.block_lt_of_cell? _ _ ci0)).trans ci0
  replace ci1 := (hb.cell (World.block_lt_of_cell? _ _ ci1)).trans ci1
  replace ci2 := (hb.cell (World.block_lt_of_cell? _ _ ci2)).trans ci2
  replace ci3 := (hb.cell (World.block_lt_of_cell? _ _ ci3)).trans ci3
  replace ci4 := (hb.cell (World.block_lt_of_cell? _ _ ci4)).trans ci4
  replace co0 := (hb.cell (World.block_lt_of_cell? _ _ co0)).trans co0
  replace co1 := (hb.cell (World.block_lt_of_cell? _ _ co1)).trans co1
  replace co2 := (hb.cell (World.block_lt_of_cell? _ _ co2)).trans co2
  replace co3 := (hb.cell (World.block_lt_of_cell? _ _ co3)).trans co3
  replace co4 := (hb.cell (World.block_lt_of_cell? _ _ co4)).trans co4
  replace HB := Lib.hid (HB.out.trans (hb.mono HB.out.size))
  clear hb
  have hlcq_cx := World.block_lt_of_cell? _ _ cx0
  have hlcq_cg := World.block_lt_of_cell? _ _ cg0
  have hlcq_ci := World.block_lt_of_cell? _ _ ci0
  have hlcq_co := World.block_lt_of_cell? _ _ co0
  replace cx0 : (w10.alloc (.cells #[.int .i64 qk, .string qn, .string qs, .int .i64 qa, .int .i64 qb] 23)).cell? ⟨w.heap.size, 0, none⟩ = some (.int .i64 k) := cell_al cx0
  replace cx1 : (w10.alloc (.cells #[.int .i64 qk, .string qn, .string qs, .int .i64 qa, .int .i64 qb] 23)).cell? ⟨w.heap.size, 1, none⟩ = some (.string x1) := cell_al cx1
  replace cx2 : (w10.alloc (.cells #[.int .i64 qk, .string qn, .string qs, .int .i64 qa, .int .i64 qb] 23)).cell? ⟨w.heap.size, 2, none⟩ = some (.string x2) := cell_al cx2
  replace cx3 : (w10.alloc (.cells #[.int .i64 qk, .string qn, .string qs, .int .i64 qa, .int .i64 qb] 23)).cell? ⟨w.heap.size, 3, none⟩ = some (.int .i64 a) := cell_al cx3
  replace cx4 : (w10.alloc (.cells #[.int .i64 qk, .string qn, .string qs, .int .i64 qa, .int .i64 qb] 23)).cell? ⟨w.heap.size, 4, none⟩ = some (.int .i64 b) := cell_al cx4
  replace cg0 : (w10.alloc (.cells #[.int .i64 qk, .string qn, .string qs, .int .i64 qa, .int .i64 qb] 23)).cell? ⟨w5.heap.size, 0, none⟩ = some (.int .i64 pk) := cell_al cg0
  replace cg1 : (w10.alloc (.cells #[.int .i64 qk, .string qn, .string qs, .int .i64 qa, .int .i64 qb] 23)).cell? ⟨w5.heap.size, 1, none⟩ = some (.string pn) := cell_al cg1
  replace cg2 : (w10.alloc (.cells #[.int .i64 qk, .string qn, .string qs, .int .i64 qa, .int .i64 qb] 23)).cell? ⟨w5.heap.size, 2, none⟩ = some (.string ps) := cell_al cg2
  replace cg3 : (w10.alloc (.cells #[.int .i64 qk, .string qn, .string qs, .int .i64 qa, .int .i64 qb] 23)).cell? ⟨w5.heap.size, 3, none⟩ = some (.int .i64 pa) := cell_al cg3
  replace cg4 : (w10.alloc (.cells #[.int .i64 qk, .string qn, .string qs, .int .i64 qa, .int .i64 qb] 23)).cell? ⟨w5.heap.size, 4, none⟩ = some (.int .i64 pb) := cell_al cg4
  replace ci0 : (w10.alloc (.cells #[.int .i64 qk, .string qn, .string qs, .int .i64 qa, .int .i64 qb] 23)).cell? ⟨w6.heap.size, 0, none⟩ = some (.int .i64 pk) := cell_al ci0
  replace ci1 : (w10.alloc (.cells #[.int .i64 qk, .string qn, .string qs, .int .i64 qa, .int .i64 qb] 23)).cell? ⟨w6.heap.size, 1, none⟩ = some (.string pn) := cell_al ci1
  replace ci2 : (w10.alloc (.cells #[.int .i64 qk, .string qn, .string qs, .int .i64 qa, .int .i64 qb] 23)).cell? ⟨w6.heap.size, 2, none⟩ = some (.string ps) := cell_al ci2
  replace ci3 : (w10.alloc (.cells #[.int .i64 qk, .string qn, .string qs, .int .i64 qa, .int .i64 qb] 23)).cell? ⟨w6.heap.size, 3, none⟩ = some (.int .i64 pa) := cell_al ci3
  replace ci4 : (w10.alloc (.cells #[.int .i64 qk, .string qn, .string qs, .int .i64 qa, .int .i64 qb] 23)).cell? ⟨w6.heap.size, 4, none⟩ = some (.int .i64 pb) := cell_al ci4
  replace co0 : (w10.alloc (.cells #[.int .i64 qk, .string qn, .string qs, .int .i64 qa, .int .i64 qb] 23)).cell? ⟨w9.heap.size, 0, none⟩ = some (.int .i64 qk) := cell_al co0
  replace co1 : (w10.alloc (.cells #[.int .i64 qk, .string qn, .string qs, .int .i64 qa, .int .i64 qb] 23)).cell? ⟨w9.heap.size, 1, none⟩ = some (.string qn) := cell_al co1
  replace co2 : (w10.alloc (.cells #[.int .i64 qk, .string qn, .string qs, .int .i64 qa, .int .i64 qb] 23)).cell? ⟨w9.heap.size, 2, none⟩ = some (.string qs) := cell_al co2
  replace co3 : (w10.alloc (.cells #[.int .i64 qk, .string qn, .string qs, .int .i64 qa, .int .i64 qb] 23)).cell? ⟨w9.heap.size, 3, none⟩ = some (.int .i64 qa) := cell_al co3
  replace co4 : (w10.alloc (.cells #[.int .i64 qk, .string qn, .string qs, .int .i64 qa, .int .i64 qb] 23)).cell? ⟨w9.heap.size, 4, none⟩ = some (.int .i64 qb) := cell_al co4
  have cq0 : (w10.alloc (.cells #[.int .i64 qk, .string qn, .string qs, .int .i64 qa, .int .i64 qb] 23)).cell? ⟨w10.heap.size, 0, none⟩ = some (.int .i64 qk) := by go_simp
  have cq1 : (w10.alloc (.cells #[.int .i64 qk, .string qn, .string qs, .int .i64 qa, .int .i64 qb] 23)).cell? ⟨w10.heap.size, 1, none⟩ = some (.string qn) := by go_simp
  have cq2 : (w10.alloc (.cells #[.int .i64 qk, .string qn, .string qs, .int .i64 qa, .int .i64 qb] 23)).cell? ⟨w10.heap.size, 2, none⟩ = some (.string qs) := by go_simp
  have cq3 : (w10.alloc (.cells #[.int .i64 qk, .string qn, .string qs, .int .i64 qa, .int .i64 qb] 23)).cell? ⟨w10.heap.size, 3, none⟩ = some (.int .i64 qa) := by go_simp
  have cq4 : (w10.alloc (.cells #[.int .i64 qk, .string qn, .string qs, .int .i64 qa, .int .i64 qb] 23)).cell? ⟨w10.heap.size, 4, none⟩ = some (.int .i64 qb) := by go_simp
  go_wp2_with fail
  replace HB := Lib.hid (show Below w.heap.size w (w10.alloc (.cells #[.int .i64 qk, .string qn, .string qs, .int .i64 qa, .int .i64 qb] 23)) from below_alloc_l (HB.out))
  generalize hh6 : (w10.alloc (.cells #[.int .i64 qk, .string qn, .string qs, .int .i64 qa, .int .i64 qb] 23)) = v6 at *
  clear hh6
  refine (HHM.out _ (HE.out.below HB.out)).mono ?_
  rintro e w11 ⟨rfl, hb⟩
  replace cx0 := (hb.cell (World.block_lt_of_cell? _ _ cx0)).trans cx0
  replace cx1 := (hb.cell (World.block_lt_of_cell? _ _ cx1)).trans cx1
  replace cx2 := (hb.cell (World.block_lt_of_cell? _ _ cx2)).trans cx2
  replace cx3 := (hb.cell (World.block_lt_of_cell? _ _ cx3)).trans cx3
  replace cx4 := (hb.cell (World.block_lt_of_cell? _ _ cx4)).trans cx4
  replace cg0 := (hb.cell (World.block_lt_of_cell? _ _ cg0)).trans cg0
  replace cg1 := (hb.cell (World.block_lt_of_cell? _ _ cg1)).trans cg1
  replace cg2 := (hb.cell (World.block_lt_of_cell? _ _ cg2)).trans cg2
  replace cg3 := (hb.cell (World.block_lt_of_cell? _ _ cg3)).trans cg3
  replace cg4 := (hb.cell (World.block_lt_of_cell? _ _ cg4)).trans cg4
  replace ci0 := (hb.cell (World.block_lt_of_cell? _ _ ci0)).trans ci0
  replace ci1 := (hb.cell (World.block_lt_of_cell? _ _ ci1)).trans ci1
  replace ci2 := (hb.cell (World.block_lt_of_cell? _ _ ci2)).trans ci2
  replace ci3 := (hb.cell (World.block_lt_of_cell? _ _ ci3)).trans ci3
  replace ci4 := (hb.cell (World.block_lt_of_cell? _ _ ci4)).trans ci4
  replace co0 := (hb.cell (World.block_lt_of_cell? _ _ co0)).trans co0
  replace co1 := (hb.cell (World.block_lt_of_cell? _ _ co1)).trans co1
  replace co2 := (hb.cell (World.block_lt_of_cell? _ _ co2)).trans co2
  replace co3 := (hb.cell (World.block_lt_of_cell? _ _ co3)).trans co3
  replace co4 := (hb.cell (World.block_lt_of_cell? _ _ co4)).trans co4
  replace cq0 := (hb.cell (World.block_lt_of_cell? _ _ cq0)).trans cq0
  replace cq1 := (hb.cell (World.block_lt_of_cell? _ _ cq1)).trans cq1
  replace cq2 := (hb.cell (World.block_lt_of_cell? _ _ cq2)).trans cq2
  replace cq3 := (hb.cell (World.block_lt_of_cell? _ _ cq3)).trans cq3
  replace cq4 := (hb.cell (World.block_lt_of_cell? _ _ cq4)).trans cq4
  replace HB := Lib.hid (HB.out.trans (hb.mono HB.out.size))
  clear hb
  have hlcu_cx := World.block_lt_of_cell? _ _ cx0
  have hlcu_cg := World.block_lt_of_cell? _ _ cg0
  have hlcu_ci := World.block_lt_of_cell? _ _ ci0
  have hlcu_co := World.block_lt_of_cell? _ _ co0
  have hlcu_cq := World.block_lt_of_cell? _ _ cq0
  replace cx0 : (w11.alloc (.cells #[.int .i64 hk, .string hn, .string hs, .int .i64 ha, .int .i64 hb] 23)).cell? ⟨w.heap.size, 0, none⟩ = some (.int .i64 k) := cell_al cx0
  replace cx1 : (w11.alloc (.cells #[.int .i64 hk, .string hn, .string hs, .int .i64 ha, .int .i64 hb] 23)).cell? ⟨w.heap.size, 1, none⟩ = some (.string x1) := cell_al cx1
  replace cx2 : (w11.alloc (.cells #[.int .i64 hk, .string hn, .string hs, .int .i64 ha, .int .i64 hb] 23)).cell? ⟨w.heap.size, 2, none⟩ = some (.string x2) := cell_al cx2
  replace cx3 : (w11.alloc (.cells #[.int .i64 hk, .string hn, .string hs, .int .i64 ha, .int .i64 hb] 23)).cell? ⟨w.heap.size, 3, none⟩ = some (.int .i64 a) := cell_al cx3
  replace cx4 : (w11.alloc (.cells #[.int .i64 hk, .string hn, .string hs, .int .i64 ha, .int .i64 hb] 23)).cell? ⟨w.heap.size, 4, none⟩ = some (.int .i64 b) := cell_al cx4
  replace cg0 : (w11.alloc (.cells #[.int .i64 hk, .string hn, .string hs, .int .i64 ha, .int .i64 hb] 23)).cell? ⟨w5.heap.size, 0, none⟩ = some (.int .i64 pk) := cell_al cg0
  replace cg1 : (w11.alloc (.cells #[.int .i64 hk, .string hn, .string hs, .int .i64 ha, .int .i64 hb] 23)).cell? ⟨w5.heap.size, 1, none⟩ = some (.string pn) := cell_al cg1
  replace cg2 : (w11.alloc (.cells #[.int .i64 hk, .string hn, .string hs, .int .i64 ha, .int .i64 hb] 23)).cell? ⟨w5.heap.size, 2, none⟩ = some (.string ps) := cell_al cg2
  replace cg3 : (w11.alloc (.cells #[.int .i64 hk, .string hn, .string hs, .int .i64 ha, .int .i64 hb] 23)).cell? ⟨w5.heap.size, 3, none⟩ = some (.int .i64 pa) := cell_al cg3
  replace cg4 : (w11.alloc (.cells #[.int .i64 hk, .string hn, .string hs, .int .i64 ha, .int .i64 hb] 23)).cell? ⟨w5.heap.size, 4, none⟩ = some (.int .i64 pb) := cell_al cg4
  replace ci0 : (w11.alloc (.cells #[.int .i64 hk, .string hn, .string hs, .int .i64 ha, .int .i64 hb] 23)).cell? ⟨w6.heap.size, 0, none⟩ = some (.int .i64 pk) := cell_al ci0
  replace ci1 : (w11.alloc (.cells #[.int .i64 hk, .string hn, .string hs, .int .i64 ha, .int .i64 hb] 23)).cell? ⟨w6.heap.size, 1, none⟩ = some (.string pn) := cell_al ci1
  replace ci2 : (w11.alloc (.cells #[.int .i64 hk, .string hn, .string hs, .int .i64 ha, .int .i64 hb] 23)).cell? ⟨w6.heap.size, 2, none⟩ = some (.string ps) := cell_al ci2
  replace ci3 : (w11.alloc (.cells #[.int .i64 hk, .string hn, .string hs, .int .i64 ha, .int .i64 hb] 23)).cell? ⟨w6.heap.size, 3, none⟩ = some (.int .i64 pa) := cell_al ci3
  replace ci4 : (w11.alloc (.cells #[.int .i64 hk, .string hn, .string hs, .int .i64 ha, .int .i64 hb] 23)).cell? ⟨w6.heap.size, 4, none⟩ = some (.int .i64 pb) := cell_al ci4
  replace co0 : (w11.alloc (.cells #[.int .i64 hk, .string hn, .string hs, .int .i64 ha, .int .i64 hb] 23)).cell? ⟨w9.heap.size, 0, none⟩ = some (.int .i64 qk) := cell_al co0
  replace co1 : (w11.alloc (.cells #[.int .i64 hk, .string hn, .string hs, .int .i64 ha, .int .i64 hb] 23)).cell? ⟨w9.heap.size, 1, none⟩ = some (.string qn) := cell_al co1
  replace co2 : (w11.alloc (.cells #[.int .i64 hk, .string hn, .string hs, .int .i64 ha, .int .i64 hb] 23)).cell? ⟨w9.heap.size, 2, none⟩ = some (.string qs) := cell_al co2
  replace co3 : (w11.alloc (.cells #[.int .i64 hk, .string hn, .string hs, .int .i64 ha, .int .i64 hb] 23)).cell? ⟨w9.heap.size, 3, none⟩ = some (.int .i64 qa) := cell_al co3
  replace co4 : (w11.alloc (.cells #[.int .i64 hk, .string hn, .string hs, .int .i64 ha, .int .i64 hb] 23)).cell? ⟨w9.heap.size, 4, none⟩ = some (.int .i64 qb) := cell_al co4
  replace cq0 : (w11.alloc (.cells #[.int .i64 hk, .string hn, .string hs, .int .i64 ha, .int .i64 hb] 23)).cell? ⟨w10.heap.size, 0, none⟩ = some (.int .i64 qk) := cell_al cq0
  replace cq1 : (w11.alloc (.cells #[.int .i64 hk, .string hn, .string hs, .int .i64 ha, .int .i64 hb] 23)).cell? ⟨w10.heap.size, 1, none⟩ = some (.string qn) := cell_al cq1
  replace cq2 : (w11.alloc (.cells #[.int .i64 hk, .string hn, .string hs, .int .i64 ha, .int .i64 hb] 23)).cell? ⟨w10.heap.size, 2, none⟩ = some (.string qs) := cell_al cq2
  replace cq3 : (w11.alloc (.cells #[.int .i64 hk, .string hn, .string hs, .int .i64 ha, .int .i64 hb] 23)).cell? ⟨w10.heap.size, 3, none⟩ = some (.int .i64 qa) := cell_al cq3
  replace cq4 : (w11.alloc (.cells #[.int .i64 hk, .string hn, .string hs, .int .i64 ha, .int .i64 hb] 23)).cell? ⟨w10.heap.size, 4, none⟩ = some (.int .i64 qb) := cell_al cq4
  have cu0 : (w11.alloc (.cells #[.int .i64 hk, .string hn, .string hs, .int .i64 ha, .int .i64 hb] 23)).cell? ⟨w11.heap.size, 0, none⟩ = some (.int .i64 hk) := by go_simp
  have cu1 : (w11.alloc (.cells #[.int .i64 hk, .string hn, .string hs, .int .i64 ha, .int .i64 hb] 23)).cell? ⟨w11.heap.size, 1, none⟩ = some (.string hn) := by go_simp
  have cu2 : (w11.alloc (.cells #[.int .i64 hk, .string hn, .string hs, .int .i64 ha, .int .i64 hb] 23)).cell? ⟨w11.heap.size, 2, none⟩ = some (.string hs) := by go_simp
  have cu3 : (w11.alloc (.cells #[.int .i64 hk, .string hn, .string hs, .int .i64 ha, .int .i64 hb] 23)).cell? ⟨w11.heap.size, 3, none⟩ = some (.int .i64 ha) := by go_simp
  have cu4 : (w11.alloc (.cells #[.int .i64 hk, .string hn, .string hs, .int .i64 ha, .int .i64 hb] 23)).cell? ⟨w11.heap.size, 4, none⟩ = some (.int .i64 hb) := by go_simp
  go_wp2_with fail
  replace HB := Lib.hid (show Below w.heap.size w (w11.alloc (.cells #[.int .i64 hk, .string hn, .string hs, .int .i64 ha, .int .i64 hb] 23)) from below_alloc_l (HB.out))
  generalize hh7 : (w11.alloc (.cells #[.int .i64 hk, .string hn, .string hs, .int .i64 ha, .int .i64 hb] 23)) = v7 at *
  clear hh7
  refine (RHM.out _).mono ?_
  rintro e w12 ⟨rfl, hb⟩
  replace cx0 := (hb.cell (World.block_lt_of_cell? _ _ cx0)).trans cx0
  replace cx1 := (hb.cell (World.block_lt_of_cell? _ _ cx1)).trans cx1
  replace cx2 := (hb.cell (World.block_lt_of_cell? _ _ cx2)).trans cx2
  replace cx3 := (hb.cell (World.block_lt_of_cell? _ _ cx3)).trans cx3
  replace cx4 := (hb.cell (World.block_lt_of_cell? _ _ cx4)).trans cx4
  replace cg0 := (hb.cell (World.block_lt_of_cell? _ _ cg0)).trans cg0
  replace cg1 := (hb.cell (World.block_lt_of_cell? _ _ cg1)).trans cg1
  replace cg2 := (hb.cell (World.block_lt_of_cell? _ _ cg2)).trans cg2
  replace cg3 := (hb.cell (World.block_lt_of_cell? _ _ cg3)).trans cg3
  replace cg4 := (hb.cell (World.block_lt_of_cell? _ _ cg4)).trans cg4
  replace ci0 := (hb.cell (World.block_lt_of_cell? _ _ ci0)).trans ci0
  replace ci1 := (hb.cell (World.block_lt_of_cell? _ _ ci1)).trans ci1
  replace ci2 := (hb.cell (World.block_lt_of_cell? _ _ ci2)).trans ci2
  replace ci3 := (hb.cell (World.block_lt_of_cell? _ _ ci3)).trans ci3
  replace ci4 := (hb.cell (World.block_lt_of_cell? _ _ ci4)).trans ci4
  replace co0 := (hb.cell (World.block_lt_of_cell? _ _ co0)).trans co0
  replace co1 := (hb.cell (World.block_lt_of_cell? _ _ co1)).trans co1
  replace co2 := (hb.cell (World.block_lt_of_cell? _ _ co2)).trans co2
  replace co3 := (hb.cell (World.block_lt_of_cell? _ _ co3)).trans co3
  replace co4 := (hb.cell (World.block_lt_of_cell? _ _ co4)).trans co4
  replace cq0 := (hb.cell (World.block_lt_of_cell? _ _ cq0)).trans cq0
  replace cq1 := (hb.cell (World.block_lt_of_cell? _ _ cq1)).trans cq1
  replace cq2 := (hb.cell (World.block_lt_of_cell? _ _ cq2)).trans cq2
  replace cq3 := (hb.cell (World.block_lt_of_cell? _ _ cq3)).trans cq3
  replace cq4 := (hb.cell (World.block_lt_of_cell? _ _ cq4)).trans cq4
  replace cu0 := (hb.cell (World.block_lt_of_cell? _ _ cu0)).trans cu0
  replace cu1 := (hb.cell (World.block_lt_of_cell? _ _ cu1)).trans cu1
  replace cu2 := (hb.cell (World.block_lt_of_cell? _ _ cu2)).trans cu2
  replace cu3 := (hb.cell (World.block_lt_of_cell? _ _ cu3)).trans cu3
  replace cu4 := (hb.cell (World.block_lt_of_cell? _ _ cu4)).trans cu4
  replace HB := Lib.hid (HB.out.trans (hb.mono HB.out.size))
  clear hb
  clear HCUT HLC HLT HHV RHV HJN RJN HPR RPR HPS RPS HHM RHM
  have hlcw_cx := World.block_lt_of_cell? _ _ cx0
  have hlcw_cg := World.block_lt_of_cell? _ _ cg0
  have hlcw_ci := World.block_lt_of_cell? _ _ ci0
  have hlcw_co := World.block_lt_of_cell? _ _ co0
  have hlcw_cq := World.block_lt_of_cell? _ _ cq0
  have hlcw_cu := World.block_lt_of_cell? _ _ cu0
  replace cx0 : (w12.alloc (.cells #[.int .i64 hk, .string hn, .string hs, .int .i64 ha, .int .i64 hb] 23)).cell? ⟨w.heap.size, 0, none⟩ = some (.int .i64 k) := cell_al cx0
  replace cx1 : (w12.alloc (.cells #[.int .i64 hk, .string hn, .string hs, .int .i64 ha, .int .i64 hb] 23)).cell? ⟨w.heap.size, 1, none⟩ = some (.string x1) := cell_al cx1
  replace cx2 : (w12.alloc (.cells #[.int .i64 hk, .string hn, .string hs, .int .i64 ha, .int .i64 hb] 23)).cell? ⟨w.heap.size, 2, none⟩ = some (.string x2) := cell_al cx2
  replace cx3 : (w12.alloc (.cells #[.int .i64 hk, .string hn, .string hs, .int .i64 ha, .int .i64 hb] 23)).cell? ⟨w.heap.size, 3, none⟩ = some (.int .i64 a) := cell_al cx3
  replace cx4 : (w12.alloc (.cells #[.int .i64 hk, .string hn, .string hs, .int .i64 ha, .int .i64 hb] 23)).cell? ⟨w.heap.size, 4, none⟩ = some (.int .i64 b) := cell_al cx4
  replace cg0 : (w12.alloc (.cells #[.int .i64 hk, .string hn, .string hs, .int .i64 ha, .int .i64 hb] 23)).cell? ⟨w5.heap.size, 0, none⟩ = some (.int .i64 pk) := cell_al cg0
  replace cg1 : (w12.alloc (.cells #[.int .i64 hk, .string hn, .string hs, .int .i64 ha, .int .i64 hb] 23)).cell? ⟨w5.heap.size, 1, none⟩ = some (.string pn) := cell_al cg1
  replace cg2 : (w12.alloc (.cells #[.int .i64 hk, .string hn, .string hs, .int .i64 ha, .int .i64 hb] 23)).cell? ⟨w5.heap.size, 2, none⟩ = some (.string ps) := cell_al cg2
  replace cg3 : (w12.alloc (.cells #[.int .i64 hk, .string hn, .string hs, .int .i64 ha, .int .i64 hb] 23)).cell? ⟨w5.heap.size, 3, none⟩ = some (.int .i64 pa) := cell_al cg3
  replace cg4 : (w12.alloc (.cells #[.int .i64 hk, .string hn, .string hs, .int .i64 ha, .int .i64 hb] 23)).cell? ⟨w5.heap.size, 4, none⟩ = some (.int .i64 pb) := cell_al cg4
  replace ci0 : (w12.alloc (.cells #[.int .i64 hk, .string hn, .string hs, .int .i64 ha, .int .i64 hb] 23)).cell? ⟨w6.heap.size, 0, none⟩ = some (.int .i64 pk) := cell_al ci0
  replace ci1 : (w12.alloc (.cells #[.int .i64 hk, .string hn, .string hs, .int .i64 ha, .int .i64 hb] 23)).cell? ⟨w6.heap.size, 1, none⟩ = some (.string pn) := cell_al ci1
  replace ci2 : (w12.alloc (.cells #[.int .i64 hk, .string hn, .string hs, .int .i64 ha, .int .i64 hb] 23)).cell? ⟨w6.heap.size, 2, none⟩ = some (.string ps) := cell_al ci2
  replace ci3 : (w12.alloc (.cells #[.int .i64 hk, .string hn, .string hs, .int .i64 ha, .int .i64 hb] 23)).cell? ⟨w6.heap.size, 3, none⟩ = some (.int .i64 pa) := cell_al ci3
  replace ci4 : (w12.alloc (.cells #[.int .i64 hk, .string hn, .string hs, .int .i64 ha, .int .i64 hb] 23)).cell? ⟨w6.heap.size, 4, none⟩ = some (.int .i64 pb) := cell_al ci4
  replace co0 : (w12.alloc (.cells #[.int .i64 hk, .string hn, .string hs, .int .i64 ha, .int .i64 hb] 23)).cell? ⟨w9.heap.size, 0, none⟩ = some (.int .i64 qk) := cell_al co0
  replace co1 : (w12.alloc (.cells #[.int .i64 hk, .string hn, .string hs, .int .i64 ha, .int .i64 hb] 23)).cell? ⟨w9.heap.size, 1, none⟩ = some (.string qn) := cell_al co1
  replace co2 : (w12.alloc (.cells #[.int .i64 hk, .string hn, .string hs, .int .i64 ha, .int .i64 hb] 23)).cell? ⟨w9.heap.size, 2, none⟩ = some (.string qs) := cell_al co2
  replace co3 : (w12.alloc (.cells #[.int .i64 hk, .string hn, .string hs, .int .i64 ha, .int .i64 hb] 23)).cell? ⟨w9.heap.size, 3, none⟩ = some (.int .i64 qa) := cell_al co3
  replace co4 : (w12.alloc (.cells #[.int .i64 hk, .string hn, .string hs, .int .i64 ha, .int .i64 hb] 23)).cell? ⟨w9.heap.size, 4, none⟩ = some (.int .i64 qb) := cell_al co4
  replace cq0 : (w12.alloc (.cells #[.int .i64 hk, .string hn, .string hs, .int .i64 ha, .int .i64 hb] 23)).cell? ⟨w10.heap.size, 0, none⟩ = some (.int .i64 qk) := cell_al cq0
  replace cq1 : (w12.alloc (.cells #[.int .i64 hk, .string hn, .string hs, .int .i64 ha, .int .i64 hb] 23)).cell? ⟨w10.heap.size, 1, none⟩ = some (.string qn) := cell_al cq1
  replace cq2 : (w12.alloc (.cells #[.int .i64 hk, .string hn, .string hs, .int .i64 ha, .int .i64 hb] 23)).cell? ⟨w10.heap.size, 2, none⟩ = some (.string qs) := cell_al cq2
  replace cq3 : (w12.alloc (.cells #[.int .i64 hk, .string hn, .string hs, .int .i64 ha, .int .i64 hb] 23)).cell? ⟨w10.heap.size, 3, none⟩ = some (.int .i64 qa) := cell_al cq3
  replace cq4 : (w12.alloc (.cells #[.int .i64 hk, .string hn, .string hs, .int .i64 ha, .int .i64 hb] 23)).cell? ⟨w10.heap.size, 4, none⟩ = some (.int .i64 qb) := cell_al cq4
  replace cu0 : (w12.alloc (.cells #[.int .i64 hk, .string hn, .string hs, .int .i64 ha, .int .i64 hb] 23)).cell? ⟨w11.heap.size, 0, none⟩ = some (.int .i64 hk) := cell_al cu0
  replace cu1 : (w12.alloc (.cells #[.int .i64 hk, .string hn, .string hs, .int .i64 ha, .int .i64 hb] 23)).cell? ⟨w11.heap.size, 1, none⟩ = some (.string hn) := cell_al cu1
  replace cu2 : (w12.alloc (.cells #[.int .i64 hk, .string hn, .string hs, .int .i64 ha, .int .i64 hb] 23)).cell? ⟨w11.heap.size, 2, none⟩ = some (.string hs) := cell_al cu2
  replace cu3 : (w12.alloc (.cells #[.int .i64 hk, .string hn, .string hs, .int .i64 ha, .int .i64 hb] 23)).cell? ⟨w11.heap.size, 3, none⟩ = some (.int .i64 ha) := cell_al cu3
  replace cu4 : (w12.alloc (.cells #[.int .i64 hk, .string hn, .string hs, .int .i64 ha, .int .i64 hb] 23)).cell? ⟨w11.heap.size, 4, none⟩ = some (.int .i64 hb) := cell_al cu4
  have cw0 : (w12.alloc (.cells #[.int .i64 hk, .string hn, .string hs, .int .i64 ha, .int .i64 hb] 23)).cell? ⟨w12.heap.size, 0, none⟩ = some (.int .i64 hk) := by go_simp
  have cw1 : (w12.alloc (.cells #[.int .i64 hk, .string hn, .string hs, .int .i64 ha, .int .i64 hb] 23)).cell? ⟨w12.heap.size, 1, none⟩ = some (.string hn) := by go_simp
  have cw2 : (w12.alloc (.cells #[.int .i64 hk, .string hn, .string hs, .int .i64 ha, .int .i64 hb] 23)).cell? ⟨w12.heap.size, 2, none⟩ = some (.string hs) := by go_simp
  have cw3 : (w12.alloc (.cells #[.int .i64 hk, .string hn, .string hs, .int .i64 ha, .int .i64 hb] 23)).cell? ⟨w12.heap.size, 3, none⟩ = some (.int .i64 ha) := by go_simp
  have cw4 : (w12.alloc (.cells #[.int .i64 hk, .string hn, .string hs, .int .i64 ha, .int .i64 hb] 23)).cell? ⟨w12.heap.size, 4, none⟩ = some (.int .i64 hb) := by go_simp
  go_wp2_with fail
  replace HB := Lib.hid (show Below w.heap.size w (w12.alloc (.cells #[.int .i64 hk, .string hn, .string hs, .int .i64 ha, .int .i64 hb] 23)) from below_alloc_l (HB.out))
  generalize hh8 : (w12.alloc (.cells #[.int .i64 hk, .string hn, .string hs, .int .i64 ha, .int .i64 hb] 23)) = v8 at *
  clear hh8
  have HE1 := Lib.hid (HE.out.below HB.out)
  clear HE
  have hcum := Lib.hid (Below.refl v8.heap.size v8).drew
  go_region_held3 (fun w' => w'.cell? ⟨w.heap.size, 0, none⟩ = some (.int .i64 k) ∧ w'.cell? ⟨w.heap.size, 1, none⟩ = some (.string x1) ∧ w'.cell? ⟨w.heap.size, 2, none⟩ = some (.string x2) ∧ w'.cell? ⟨w.heap.size, 3, none⟩ = some (.int .i64 a) ∧ w'.cell? ⟨w.heap.size, 4, none⟩ = some (.int .i64 b) ∧ w'.cell? ⟨w5.heap.size, 0, none⟩ = some (.int .i64 pk) ∧ w'.cell? ⟨w5.heap.size, 1, none⟩ = some (.string pn) ∧ w'.cell? ⟨w5.heap.size, 2, none⟩ = some (.string ps) ∧ w'.cell? ⟨w5.heap.size, 3, none⟩ = some (.int .i64 pa) ∧ w'.cell? ⟨w5.heap.size, 4, none⟩ = some (.int .i64 pb) ∧ w'.cell? ⟨w6.heap.size, 0, none⟩ = some (.int .i64 pk) ∧ w'.cell? ⟨w6.heap.size, 1, none⟩ = some (.string pn) ∧ w'.cell? ⟨w6.heap.size, 2, none⟩ = some (.string ps) ∧ w'.cell? ⟨w6.heap.size, 3, none⟩ = some (.int .i64 pa) ∧ w'.cell? ⟨w6.heap.size, 4, none⟩ = some (.int .i64 pb) ∧ w'.cell? ⟨w9.heap.size, 0, none⟩ = some (.int .i64 qk) ∧ w'.cell? ⟨w9.heap.size, 1, none⟩ = some (.string qn) ∧ w'.cell? ⟨w9.heap.size, 2, none⟩ = some (.string qs) ∧ w'.cell? ⟨w9.heap.size, 3, none⟩ = some (.int .i64 qa) ∧ w'.cell? ⟨w9.heap.size, 4, none⟩ = some (.int .i64 qb) ∧ w'.cell? ⟨w10.heap.size, 0, none⟩ = some (.int .i64 qk) ∧ w'.cell? ⟨w10.heap.size, 1, none⟩ = some (.string qn) ∧ w'.cell? ⟨w10.heap.size, 2, none⟩ = some (.string qs) ∧ w'.cell? ⟨w10.heap.size, 3, none⟩ = some (.int .i64 qa) ∧ w'.cell? ⟨w10.heap.size, 4, none⟩ = some (.int .i64 qb) ∧ w'.cell? ⟨w11.heap.size, 0, none⟩ = some (.int .i64 hk) ∧ w'.cell? ⟨w11.heap.size, 1, none⟩ = some (.string hn) ∧ w'.cell? ⟨w11.heap.size, 2, none⟩ = some (.string hs) ∧ w'.cell? ⟨w11.heap.size, 3, none⟩ = some (.int .i64 ha) ∧ w'.cell? ⟨w11.heap.size, 4, none⟩ = some (.int .i64 hb) ∧ w'.cell? ⟨w12.heap.size, 0, none⟩ = some (.int .i64 hk) ∧ w'.cell? ⟨w12.heap.size, 1, none⟩ = some (.string hn) ∧ w'.cell? ⟨w12.heap.size, 2, none⟩ = some (.string hs) ∧ w'.cell? ⟨w12.heap.size, 3, none⟩ = some (.int .i64 ha) ∧ w'.cell? ⟨w12.heap.size, 4, none⟩ = some (.int .i64 hb))
    (first | go_keep | exact ⟨cx0, cx1, cx2, cx3, cx4, cg0, cg1, cg2, cg3, cg4, ci0, ci1, ci2, ci3, ci4, co0, co1, co2, co3, co4, cq0, cq1, cq2, cq3, cq4, cu0, cu1, cu2, cu3, cu4, cw0, cw1, cw2, cw3, cw4⟩ | exact ⟨mcx0, mcx1, mcx2, mcx3, mcx4, mcg0, mcg1, mcg2, mcg3, mcg4, mci0, mci1, mci2, mci3, mci4, mco0, mco1, mco2, mco3, mco4, mcq0, mcq1, mcq2, mcq3, mcq4, mcu0, mcu1, mcu2, mcu3, mcu4, mcw0, mcw1, mcw2, mcw3, mcw4⟩)
    (first
      | ((go_at_call 21; go_fit (HR.out _ (HE1.out.below hcum.out)); rintro e ww ⟨rfl, hb⟩; have hcum2 := Lib.hid (hcum.out.trans (hb.mono hcum.out.size)); clear hb hcum; have hcum := hcum2; clear hcum2; have mcx0 := (hcum.out.cell (World.block_lt_of_cell? _ _ cx0)).trans cx0; have mcx1 := (hcum.out.cell (World.block_lt_of_cell? _ _ cx1)).trans cx1; have mcx2 := (hcum.out.cell (World.block_lt_of_cell? _ _ cx2)).trans cx2; have mcx3 := (hcum.out.cell (World.block_lt_of_cell? _ _ cx3)).trans cx3; have mcx4 := (hcum.out.cell (World.block_lt_of_cell? _ _ cx4)).trans cx4; have mcg0 := (hcum.out.cell (World.block_lt_of_cell? _ _ cg0)).trans cg0; have mcg1 := (hcum.out.cell (World.block_lt_of_cell? _ _ cg1)).trans cg1; have mcg2 := (hcum.out.cell (World.block_lt_of_cell? _ _ cg2)).trans cg2; have mcg3 := (hcum.out.cell (World.block_lt_of_cell? _ _ cg3)).trans cg3; have mcg4 := (hcum.out.cell (World.block_lt_of_cell? _ _ cg4)).trans cg4; have mci0 := (hcum.out.cell (World.block_lt_of_cell? _ _ ci0)).trans ci0; have mci1 := (hcum.out.cell (World.block_lt_of_cell? _ _ ci1)).trans ci1; have mci2 := (hcum.out.cell (World.block_lt_of_cell? _ _ ci2)).trans ci2; have mci3 := (hcum.out.cell (World.block_lt_of_cell? _ _ ci3)).trans ci3; have mci4 := (hcum.out.cell (World.block_lt_of_cell? _ _ ci4)).trans ci4; have mco0 := (hcum.out.cell (World.block_lt_of_cell? _ _ co0)).trans co0; have mco1 := (hcum.out.cell (World.block_lt_of_cell? _ _ co1)).trans co1; have mco2 := (hcum.out.cell (World.block_lt_of_cell? _ _ co2)).trans co2; have mco3 := (hcum.out.cell (World.block_lt_of_cell? _ _ co3)).trans co3; have mco4 := (hcum.out.cell (World.block_lt_of_cell? _ _ co4)).trans co4; have mcq0 := (hcum.out.cell (World.block_lt_of_cell? _ _ cq0)).trans cq0; have mcq1 := (hcum.out.cell (World.block_lt_of_cell? _ _ cq1)).trans cq1; have mcq2 := (hcum.out.cell (World.block_lt_of_cell? _ _ cq2)).trans cq2; have mcq3 := (hcum.out.cell (World.block_lt_of_cell? _ _ cq3)).trans cq3; have mcq4 := (hcum.out.cell (World.block_lt_of_cell? _ _ cq4)).trans cq4; have mcu0 := (hcum.out.cell (World.block_lt_of_cell? _ _ cu0)).trans cu0; have mcu1 := (hcum.out.cell (World.block_lt_of_cell? _ _ cu1)).trans cu1; have mcu2 := (hcum.out.cell (World.block_lt_of_cell? _ _ cu2)).trans cu2; have mcu3 := (hcum.out.cell (World.block_lt_of_cell? _ _ cu3)).trans cu3; have mcu4 := (hcum.out.cell (World.block_lt_of_cell? _ _ cu4)).trans cu4; have mcw0 := (hcum.out.cell (World.block_lt_of_cell? _ _ cw0)).trans cw0; have mcw1 := (hcum.out.cell (World.block_lt_of_cell? _ _ cw1)).trans cw1; have mcw2 := (hcum.out.cell (World.block_lt_of_cell? _ _ cw2)).trans cw2; have mcw3 := (hcum.out.cell (World.block_lt_of_cell? _ _ cw3)).trans cw3; have mcw4 := (hcum.out.cell (World.block_lt_of_cell? _ _ cw4)).trans cw4))
      | ((go_at_call 22; go_fit (RR.out _); rintro e ww ⟨rfl, hb⟩; have hcum2 := Lib.hid (hcum.out.trans (hb.mono hcum.out.size)); clear hb hcum; have hcum := hcum2; clear hcum2; have mcx0 := (hcum.out.cell (World.block_lt_of_cell? _ _ cx0)).trans cx0; have mcx1 := (hcum.out.cell (World.block_lt_of_cell? _ _ cx1)).trans cx1; have mcx2 := (hcum.out.cell (World.block_lt_of_cell? _ _ cx2)).trans cx2; have mcx3 := (hcum.out.cell (World.block_lt_of_cell? _ _ cx3)).trans cx3; have mcx4 := (hcum.out.cell (World.block_lt_of_cell? _ _ cx4)).trans cx4; have mcg0 := (hcum.out.cell (World.block_lt_of_cell? _ _ cg0)).trans cg0; have mcg1 := (hcum.out.cell (World.block_lt_of_cell? _ _ cg1)).trans cg1; have mcg2 := (hcum.out.cell (World.block_lt_of_cell? _ _ cg2)).trans cg2; have mcg3 := (hcum.out.cell (World.block_lt_of_cell? _ _ cg3)).trans cg3; have mcg4 := (hcum.out.cell (World.block_lt_of_cell? _ _ cg4)).trans cg4; have mci0 := (hcum.out.cell (World.block_lt_of_cell? _ _ ci0)).trans ci0; have mci1 := (hcum.out.cell (World.block_lt_of_cell? _ _ ci1)).trans ci1; have mci2 := (hcum.out.cell (World.block_lt_of_cell? _ _ ci2)).trans ci2; have mci3 := (hcum.out.cell (World.block_lt_of_cell? _ _ ci3)).trans ci3; have mci4 := (hcum.out.cell (World.block_lt_of_cell? _ _ ci4)).trans ci4; have mco0 := (hcum.out.cell (World.block_lt_of_cell? _ _ co0)).trans co0; have mco1 := (hcum.out.cell (World.block_lt_of_cell? _ _ co1)).trans co1; have mco2 := (hcum.out.cell (World.block_lt_of_cell? _ _ co2)).trans co2; have mco3 := (hcum.out.cell (World.block_lt_of_cell? _ _ co3)).trans co3; have mco4 := (hcum.out.cell (World.block_lt_of_cell? _ _ co4)).trans co4; have mcq0 := (hcum.out.cell (World.block_lt_of_cell? _ _ cq0)).trans cq0; have mcq1 := (hcum.out.cell (World.block_lt_of_cell? _ _ cq1)).trans cq1; have mcq2 := (hcum.out.cell (World.block_lt_of_cell? _ _ cq2)).trans cq2; have mcq3 := (hcum.out.cell (World.block_lt_of_cell? _ _ cq3)).trans cq3; have mcq4 := (hcum.out.cell (World.block_lt_of_cell? _ _ cq4)).trans cq4; have mcu0 := (hcum.out.cell (World.block_lt_of_cell? _ _ cu0)).trans cu0; have mcu1 := (hcum.out.cell (World.block_lt_of_cell? _ _ cu1)).trans cu1; have mcu2 := (hcum.out.cell (World.block_lt_of_cell? _ _ cu2)).trans cu2; have mcu3 := (hcum.out.cell (World.block_lt_of_cell? _ _ cu3)).trans cu3; have mcu4 := (hcum.out.cell (World.block_lt_of_cell? _ _ cu4)).trans cu4; have mcw0 := (hcum.out.cell (World.block_lt_of_cell? _ _ cw0)).trans cw0; have mcw1 := (hcum.out.cell (World.block_lt_of_cell? _ _ cw1)).trans cw1; have mcw2 := (hcum.out.cell (World.block_lt_of_cell? _ _ cw2)).trans cw2; have mcw3 := (hcum.out.cell (World.block_lt_of_cell? _ _ cw3)).trans cw3; have mcw4 := (hcum.out.cell (World.block_lt_of_cell? _ _ cw4)).trans cw4)))
  have HBZ := Lib.hid (HB.out.trans (hcum.out.mono HB.out.size))
  clear cx0 cx1 cx2 cx3 cx4 cg0 cg1 cg2 cg3 cg4 ci0 ci1 ci2 ci3 ci4 co0 co1 co2 co3 co4 cq0 cq1 cq2 cq3 cq4 cu0 cu1 cu2 cu3 cu4 cw0 cw1 cw2 cw3 cw4
  go_wp2_with fail
  go_ret
  first | exact ⟨rfl, HBZ.out⟩ | exact ⟨rfl, below_drewN HBZ.out _⟩ | exact ⟨rfl, below_drew_l HBZ.out⟩
end Go.Proofs.YtmpokhdljlnllaaDoor
