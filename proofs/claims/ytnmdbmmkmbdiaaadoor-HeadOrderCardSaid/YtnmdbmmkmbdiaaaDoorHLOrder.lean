/- Of two heads of one major the bytes of the lesser number come first: the walk of HeadOrder. -/
import Derived.Test.YtnmdbmmkmbdiaaaDoorHLP
set_option linter.unusedVariables false
set_option linter.unusedSimpArgs false
namespace Go.Proofs.YtnmdbmmkmbdiaaaDoor
open Go.RowKit

set_option maxRecDepth 100000 in
set_option maxHeartbeats 2000000 in
theorem order_of (x n m : Int) (s t : List UInt8) (e f : Int) (w : World) (hH : HeadOK w) (hA : hencR x n = (⟨s.toArray⟩, e)) (hT : hencR x m = (⟨t.toArray⟩, f))
    (h : ((e != 0) = true ∧ (e == 0) = false ∧ s = [] ∧ ((f == 0) = true ∨ (f == 0) = false ∧ t = [])) ∨ ((e != 0) = false ∧ (e == 0) = true ∧ (f != 0) = true ∧ (f == 0) = false ∧ t = []) ∨
      ((e != 0) = false ∧ (f != 0) = false ∧ Op.bytesLess s t = decide (n < m) ∧ (s == t) = (n == m))) :
    Calls Tryd.prog 7 #[.int .i64 x, .int .i64 n, .int .i64 m] w fun e w' => e = .returned (.bool true) ∧ Below w.heap.size w w' := by
  have HA := Lib.hid hA
  have HT := Lib.hid hT
  clear hA hT
  rcases h with ⟨h1, h2, rfl, h3 | ⟨h3, rfl⟩⟩ | ⟨h1, h2, h3, h4, rfl⟩ | ⟨h1, h2, h3, h4⟩
  all_goals
    go_enter Tryd.func7, Tryd.ntmps7
    go_wp2_with fail
    refine (shown_any _ hH).mono ?_
    rintro e w1 ⟨rfl, hb1⟩
    go_wp2_with fail
    refine (hencode_any _ _ _ (hH.below hb1)).mono ?_
    rintro e w2 ⟨rfl, hb2⟩
    replace hb2 := hb1.trans (hb2.mono hb1.size)
    rw [HA.out]
    go_wp2_with fail
    refine (hencode_any _ _ _ (hH.below hb2)).mono ?_
    rintro e w3 ⟨rfl, hb3⟩
    replace hb3 := hb2.trans (hb3.mono hb2.size)
    rw [HT.out]
    have HB := Lib.hid hb3
    clear hb1 hb2 hb3
    go_wp2
    go_ret
    first | exact ⟨rfl, HB.out⟩ | exact ⟨congrArg (fun b => Ending.returned (.bool b)) (by simp [*]), HB.out⟩

theorem order_walk (x n m : Int) (w : World) (hH : HeadOK w) (_ : (Lit.int .i64 x).wf = true) (_ : (Lit.int .i64 n).wf = true) (_ : (Lit.int .i64 m).wf = true) :
    Calls Tryd.prog 7 #[.int .i64 x, .int .i64 n, .int .i64 m] w fun e w' => e = .returned (.bool true) ∧ Below w.heap.size w w' := by
  rcases hencR_cases x n with ⟨c, h, h1, h2⟩ | ⟨M, N, rfl, rfl, hM, hN, h⟩
  · rcases hencR_cases x m with ⟨c', h', h1', h2'⟩ | ⟨M, N, rfl, rfl, hM, hN, h'⟩
    · exact order_of x n m [] [] c c' w hH h h' (.inl ⟨h1, h2, rfl, .inr ⟨h2', rfl⟩⟩)
    · exact order_of _ n _ [] _ c 0 w hH h h' (.inl ⟨h1, h2, rfl, .inl rfl⟩)
  · rcases hencR_cases M m with ⟨c', h', h1', h2'⟩ | ⟨M', K, hMM, rfl, hM', hK, h'⟩
    · exact order_of _ _ m _ [] 0 c' w hH h h' (.inr (.inl ⟨rfl, rfl, h1', h2', rfl⟩))
    · obtain rfl : M = M' := by omega
      refine order_of _ _ _ _ _ 0 0 w hH h h' (.inr (.inr ⟨rfl, rfl, ?_, head_eq hM hN hK⟩))
      rw [head_less hM hN hK, decide_eq_decide]
      omega
end Go.Proofs.YtnmdbmmkmbdiaaaDoor
