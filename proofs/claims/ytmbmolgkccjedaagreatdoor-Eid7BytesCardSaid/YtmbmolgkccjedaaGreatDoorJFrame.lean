/- What a call of a statement of this seat starts from: the variables that the rows list lie as the program's text lays them; and a world in which they do. -/
import Derived.Test.YtmbmolgkccjedaaGreatDoorRows
import Derived.Test.YtmbmolgkccjedaaGreatDoorReadT
import Derived.Test.YtmbmolgkccjedaaGreatDoorM4
import Derived.Test.YtmbmolgkccjedaaGreatDoorM5
import Derived.Test.YtmbmolgkccjedaaGreatDoorEEnv
import Derived.Test.YtmbmolgkccjedaaGreatDoorLaidS
import Derived.LaidHandle
import Derived.Lib.LaidTab
import Derived.HandedShaped
import Derived.ShapedOpen
import Derived.Shelf.Vars
import Derived.Carry
import Derived.ChangeSlices
set_option linter.unusedVariables false
set_option linter.unusedSimpArgs false
namespace Go.Proofs.YtmbmolgkccjedaaGreatDoor
open Go.ChangeShapes Go.WideShapes Go.ChangeAt Go.WideMaps Go.WideElems Go.RowKit

theorem own : ownKnob Tryz.prog.godebug = none := by kernel_rfl
theorem laidOut : laidOutB Tryz.prog = true := by kernel_rfl
/-- What the rows list. -/
def laidL : List (String × DataW Unit) := [("math/bits.deBruijn32tab", Rows.laid_math_bits_deBruijn32tab), ("math/bits.deBruijn64tab", Rows.laid_math_bits_deBruijn64tab), ("internal/strconv.uint64pow10", Rows.laid_internal_strconv_uint64pow10), ("errors.errorType", Rows.laid_errors_errorType), ("strconv.ErrRange", Rows.laid_strconv_ErrRange), ("strconv.ErrSyntax", Rows.laid_strconv_ErrSyntax), ("postrider/nums.errArg", Rows.laid_postrider_nums_errArg), ("postrider/nums.errNum", Rows.laid_postrider_nums_errNum), ("postrider/nums.errShort", Rows.laid_postrider_nums_errShort), ("postrider/head.errArg", Rows.laid_postrider_head_errArg), ("postrider/head.errNum", Rows.laid_postrider_head_errNum), ("postrider/head.errShort", Rows.laid_postrider_head_errShort), ("postrider/head.errForm", Rows.laid_postrider_head_errForm), ("postrider/head.wides", Rows.laid_postrider_head_wides)]
/-- All of it but the types' handles. -/
def laidP : List (String × DataW Unit) := [("math/bits.deBruijn32tab", Rows.laid_math_bits_deBruijn32tab), ("math/bits.deBruijn64tab", Rows.laid_math_bits_deBruijn64tab), ("internal/strconv.uint64pow10", Rows.laid_internal_strconv_uint64pow10), ("strconv.ErrRange", Rows.laid_strconv_ErrRange), ("strconv.ErrSyntax", Rows.laid_strconv_ErrSyntax), ("postrider/nums.errArg", Rows.laid_postrider_nums_errArg), ("postrider/nums.errNum", Rows.laid_postrider_nums_errNum), ("postrider/nums.errShort", Rows.laid_postrider_nums_errShort), ("postrider/head.errArg", Rows.laid_postrider_head_errArg), ("postrider/head.errNum", Rows.laid_postrider_head_errNum), ("postrider/head.errShort", Rows.laid_postrider_head_errShort), ("postrider/head.errForm", Rows.laid_postrider_head_errForm), ("postrider/head.wides", Rows.laid_postrider_head_wides)]
theorem laid_parts {W : World} (h : laidMetH Tryz.prog laidL W) : laidMet Tryz.prog laidP W ∧ handlesMet Tryz.prog [("errors.errorType", Rows.laid_errors_errorType)] W := h
theorem door_met (os : Os) (args : Array Value) : laidMetH Tryz.prog laidL ((World.doorLaid Tryz.prog 400 os).forCall (fun _ _ => 0) ⟨#[], args, []⟩).memory :=
  laidMetH_of_parts3 (fuel := 8) (laidMet_of_run' 8 (by kernel_rfl) (by kernel_rfl)) (by kernel_rfl) (by kernel_rfl)
theorem gEt : Tryz.prog.globalNamed "errors.errorType" = some 0 := by kernel_rfl
theorem rtRow : (Tryz.prog.cutTypes.find? (·.1 == "internal/reflectlite.rtype")).map (·.2) = some 191 := by kernel_rfl
theorem oneRow : ((List.range Tryz.prog.types.size).filter fun t => Tryz.prog.rowNamed t [101, 114, 114, 111, 114]) = [77] := by kernel_rfl
theorem errHandle : typeHandle Tryz.prog 77 = .pointer (some ⟨15, 77, none⟩) := by kernel_rfl
theorem handle_cell {W : World} (h : laidMetH Tryz.prog laidL W) : W.cell? ⟨0, 0, none⟩ = some (.iface 191 (.agg #[.pointer (some ⟨15, 77, none⟩)])) := by
  obtain ⟨name, u, ty, e1, e2, e3, e4, e5⟩ := (laid_parts h).2 _ (List.mem_singleton.2 rfl)
  have en : name = [101, 114, 114, 111, 114] := (Option.some.inj e1).symm
  subst en
  obtain rfl := Option.some.inj (rtRow.symm.trans e2)
  have hm : ty ∈ (List.range Tryz.prog.types.size).filter fun t => Tryz.prog.rowNamed t [101, 114, 114, 111, 114] := List.mem_filter.2 ⟨List.mem_range.2 e3, e4⟩
  rw [oneRow] at hm
  obtain rfl := List.mem_singleton.1 hm
  rw [errHandle] at e5
  simpa using World.var?_cell gEt e5 0
theorem cellsErr : Tryz.prog.cellsOf 301 = 1 := by kernel_rfl
theorem cellsStr : Tryz.prog.cellsOf 9 = 1 := by kernel_rfl
theorem star : "*" ++ "errors.errorString" = "*errors.errorString" := by decide
theorem rowErr (u : TypeId) (h : Tryz.prog.typeName? 3 u = some "*errors.errorString") : u = 299 :=
  typeName_ptr_named (nm := "errors.errorString") (by rw [star]; kernel_rfl) (by kernel_rfl) (by decide) u (by rw [star]; exact h)
/-- The sentinels, in the rows' order. -/
def sents : List Snt := [⟨"strconv.ErrRange", 10, textOf Rows.laid_strconv_ErrRange⟩, ⟨"strconv.ErrSyntax", 9, textOf Rows.laid_strconv_ErrSyntax⟩, ⟨"postrider/nums.errArg", 5, textOf Rows.laid_postrider_nums_errArg⟩, ⟨"postrider/nums.errNum", 6, textOf Rows.laid_postrider_nums_errNum⟩, ⟨"postrider/nums.errShort", 14, textOf Rows.laid_postrider_nums_errShort⟩, ⟨"postrider/head.errArg", 1, textOf Rows.laid_postrider_head_errArg⟩, ⟨"postrider/head.errNum", 2, textOf Rows.laid_postrider_head_errNum⟩, ⟨"postrider/head.errShort", 3, textOf Rows.laid_postrider_head_errShort⟩, ⟨"postrider/head.errForm", 11, textOf Rows.laid_postrider_head_errForm⟩]
theorem sents_laid : sents.map (Snt.laid "*errors.errorString") = [("strconv.ErrRange", Rows.laid_strconv_ErrRange), ("strconv.ErrSyntax", Rows.laid_strconv_ErrSyntax), ("postrider/nums.errArg", Rows.laid_postrider_nums_errArg), ("postrider/nums.errNum", Rows.laid_postrider_nums_errNum), ("postrider/nums.errShort", Rows.laid_postrider_nums_errShort), ("postrider/head.errArg", Rows.laid_postrider_head_errArg), ("postrider/head.errNum", Rows.laid_postrider_head_errNum), ("postrider/head.errShort", Rows.laid_postrider_head_errShort), ("postrider/head.errForm", Rows.laid_postrider_head_errForm)] := rfl
theorem sents_sub : (sents.map (Snt.laid "*errors.errorString")).Sublist laidP := by
  rw [sents_laid]
  exact (List.Sublist.cons _ (List.Sublist.cons _ (List.Sublist.cons _ (List.Sublist.cons_cons _ (List.Sublist.cons_cons _ (List.Sublist.cons_cons _ (List.Sublist.cons_cons _ (List.Sublist.cons_cons _ (List.Sublist.cons_cons _ (List.Sublist.cons_cons _ (List.Sublist.cons_cons _ (List.Sublist.cons_cons _ (List.Sublist.cons _ List.Sublist.slnil)))))))))))))
theorem sents_named : ∀ s ∈ sents, Tryz.prog.globalNamed s.name = some s.g ∧ (Tryz.prog.globals[s.g]?).map (·.type) = some 77 := by
  intro s hs
  unfold sents at hs
  simp only [List.mem_cons, List.not_mem_nil, or_false] at hs
  rcases hs with rfl | rfl | rfl | rfl | rfl | rfl | rfl | rfl | rfl
  · exact ⟨by kernel_rfl, by kernel_rfl⟩
  · exact ⟨by kernel_rfl, by kernel_rfl⟩
  · exact ⟨by kernel_rfl, by kernel_rfl⟩
  · exact ⟨by kernel_rfl, by kernel_rfl⟩
  · exact ⟨by kernel_rfl, by kernel_rfl⟩
  · exact ⟨by kernel_rfl, by kernel_rfl⟩
  · exact ⟨by kernel_rfl, by kernel_rfl⟩
  · exact ⟨by kernel_rfl, by kernel_rfl⟩
  · exact ⟨by kernel_rfl, by kernel_rfl⟩
theorem sents_met {W : World} (h : laidMetH Tryz.prog laidL W) : (∀ (i : Nat) (s : Snt), sents[i]? = some s → W.cell? ⟨s.g, 0, none⟩ = some (.iface 299 (.pointer (some (addrIn W s.g)))) ∧ ∃ c t, W.heap[(addrIn W s.g).block]? = some (.cells c t (0, 0))) ∧
    ∀ (i j : Nat) (s t : Snt), sents[i]? = some s → sents[j]? = some t → i ≠ j → addrIn W s.g ≠ addrIn W t.g :=
  laid_sents (laid_parts h).1 sents_sub (by decide) sents_named Tryz.underlying77 rowErr Tryz.underlying299 Tryz.underlying301 rfl rfl Tryz.underlying9 cellsErr cellsStr
theorem cellsInt : Tryz.prog.cellsOf 3 = 1 := by kernel_rfl
theorem gHW : Tryz.prog.globalNamed "postrider/head.wides" = some 4 := by kernel_rfl

theorem tHW : (Tryz.prog.globals[4]?).map (·.type) = some 263 := by kernel_rfl

theorem cellsWide : Tryz.prog.cellsOf 239 = 2 := by kernel_rfl

theorem wides_of_laid {W : World} {r : List (String × DataW Unit)} (h : laidMet Tryz.prog (("postrider/head.wides", Rows.laid_postrider_head_wides) :: r) W) :
    (W.cell? ⟨4, 0, none⟩ = some (.int .i64 24) ∧ W.cell? ⟨4, 1, none⟩ = some (.int .i64 1)) ∧ (W.cell? ⟨4, 2, none⟩ = some (.int .i64 25) ∧ W.cell? ⟨4, 3, none⟩ = some (.int .i64 2)) ∧ (W.cell? ⟨4, 4, none⟩ = some (.int .i64 26) ∧ W.cell? ⟨4, 5, none⟩ = some (.int .i64 4)) ∧ (W.cell? ⟨4, 6, none⟩ = some (.int .i64 27) ∧ W.cell? ⟨4, 7, none⟩ = some (.int .i64 8)) := by
  obtain ⟨ps, ⟨g', t', cs, fuel, p, q, hg', ht', hvar, hd, _, _⟩, _⟩ := h
  obtain rfl := Option.some.inj (gHW.symm.trans hg')
  obtain rfl := Option.some.inj (tHW.symm.trans ht')
  have k := pairs4_of_trod Tryz.underlying263 Tryz.underlying239 rfl rfl rfl rfl Tryz.underlying3 cellsInt cellsWide hd
  have c := fun i => World.var?_cell gHW hvar i
  rw [c 0, c 1, c 2, c 3, c 4, c 5, c 6, c 7]
  simpa using k


theorem env_head {W : World} (h : laidMetH Tryz.prog laidL W) : HeadOK W := by
  obtain ⟨hc, hn⟩ := sents_met h
  obtain ⟨⟨w0, w1⟩, ⟨w2, w3⟩, ⟨w4, w5⟩, ⟨w6, w7⟩⟩ := wides_of_laid (r := []) (laid_sub (L := laidP) (L' := [("postrider/head.wides", Rows.laid_postrider_head_wides)]) (List.Sublist.cons _ (List.Sublist.cons _ (List.Sublist.cons _ (List.Sublist.cons _ (List.Sublist.cons _ (List.Sublist.cons _ (List.Sublist.cons _ (List.Sublist.cons _ (List.Sublist.cons _ (List.Sublist.cons _ (List.Sublist.cons _ (List.Sublist.cons _ (List.Sublist.cons_cons _ List.Sublist.slnil))))))))))))) (laid_parts h).1)
  exact ⟨_, _, _, _, _, _, _, ⟨(hc 2 _ rfl).1, (hc 3 _ rfl).1, (hc 4 _ rfl).1, (hc 2 _ rfl).2, (hc 3 _ rfl).2, (hc 4 _ rfl).2, hn 2 3 _ _ rfl rfl (by decide), hn 2 4 _ _ rfl rfl (by decide), hn 3 4 _ _ rfl rfl (by decide)⟩, ⟨(hc 5 _ rfl).1, (hc 6 _ rfl).1, (hc 7 _ rfl).1, (hc 8 _ rfl).1, (hc 5 _ rfl).2, (hc 6 _ rfl).2, (hc 7 _ rfl).2, (hc 8 _ rfl).2, hn 5 6 _ _ rfl rfl (by decide), hn 5 7 _ _ rfl rfl (by decide), hn 5 8 _ _ rfl rfl (by decide), hn 6 7 _ _ rfl rfl (by decide), hn 6 8 _ _ rfl rfl (by decide), hn 7 8 _ _ rfl rfl (by decide), w0, w1, w2, w3, w4, w5, w6, w7⟩⟩
theorem env_handle {W : World} (h : laidMetH Tryz.prog laidL W) : EnvE W := ⟨handle_cell h⟩
theorem gT : Tryz.prog.globalNamed "internal/strconv.uint64pow10" = some 8 := by kernel_rfl
theorem gR : Tryz.prog.globalNamed "strconv.ErrRange" = some 10 := by kernel_rfl
theorem gS : Tryz.prog.globalNamed "strconv.ErrSyntax" = some 9 := by kernel_rfl
theorem tT : (Tryz.prog.globals[8]?).map (·.type) = some 280 := by kernel_rfl
theorem tR : (Tryz.prog.globals[10]?).map (·.type) = some 77 := by kernel_rfl
theorem tS : (Tryz.prog.globals[9]?).map (·.type) = some 77 := by kernel_rfl
theorem cellsU64 : Tryz.prog.cellsOf 250 = 1 := by kernel_rfl
theorem cellsTab : Tryz.prog.cellsOf 280 = 20 := by kernel_rfl
theorem cellsIntE : Tryz.prog.cellsOf 3 = 1 := by kernel_rfl
theorem maxlen_of_shaped {W : World} (h : W.ShapedOpen Tryz.prog) : ∃ m : Int, W.cell? ⟨7, 0, none⟩ = some (.int .i64 m) :=
  cell_of_shapedOpen_int (t := 3) (zero := #[.int .i64 0]) (k := .i64) h (of_decide_eq_true (by kernel_rfl)) (by kernel_rfl) rfl (by kernel_rfl) (by kernel_rfl) Tryz.underlying3
theorem env_names {W : World} (h : laidMetH Tryz.prog laidL W) (hS : W.ShapedOpen Tryz.prog) : EnvN W := by
  have ht := Lib.tabIs_of_head (k := .u64) (zs := Lib.pow10Tab) gT tT Tryz.underlying280 Tryz.underlying250 cellsU64 cellsTab (laid_sub (L := laidP) (L' := [("internal/strconv.uint64pow10", Rows.laid_internal_strconv_uint64pow10)]) (List.Sublist.cons _ (List.Sublist.cons _ (List.Sublist.cons_cons _ (List.Sublist.cons _ (List.Sublist.cons _ (List.Sublist.cons _ (List.Sublist.cons _ (List.Sublist.cons _ (List.Sublist.cons _ (List.Sublist.cons _ (List.Sublist.cons _ (List.Sublist.cons _ (List.Sublist.cons _ List.Sublist.slnil))))))))))))) (laid_parts h).1)
  obtain ⟨a0, a1, _, _, _, _, _, _, hv0, hv1, _⟩ := laid_sentinels2 (laid_sub (L := laidP) (L' := [("strconv.ErrRange", Rows.laid_strconv_ErrRange), ("strconv.ErrSyntax", Rows.laid_strconv_ErrSyntax)]) (List.Sublist.cons _ (List.Sublist.cons _ (List.Sublist.cons _ (List.Sublist.cons_cons _ (List.Sublist.cons_cons _ (List.Sublist.cons _ (List.Sublist.cons _ (List.Sublist.cons _ (List.Sublist.cons _ (List.Sublist.cons _ (List.Sublist.cons _ (List.Sublist.cons _ (List.Sublist.cons _ List.Sublist.slnil))))))))))))) (laid_parts h).1) gR tR gS tS Tryz.underlying77 rowErr Tryz.underlying299 Tryz.underlying301 rfl rfl Tryz.underlying9 cellsErr cellsStr
  exact ⟨maxlen_of_shaped hS, ht, ⟨_, _, hv1⟩, ⟨_, _, hv0⟩⟩
end Go.Proofs.YtmbmolgkccjedaaGreatDoor
