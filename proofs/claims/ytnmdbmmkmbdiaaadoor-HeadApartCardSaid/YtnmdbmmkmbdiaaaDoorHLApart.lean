/- No head's bytes begin another one's: the walk of HeadApart. -/
import Derived.Test.YtnmdbmmkmbdiaaaDoorHLP
set_option linter.unusedVariables false
set_option linter.unusedSimpArgs false
namespace Go.Proofs.YtnmdbmmkmbdiaaaDoor
open Go.RowKit

set_option maxRecDepth 100000 in
set_option maxHeartbeats 4000000 in
theorem apart_of (x n y m : Int) (a b : ByteArray) (e f : Int) (w : World) (hH : HeadOK w) (hA : hencR x n = (a, e)) (hB : hencR y m = (b, f)) (ha9 : a.size ≤ 9) (hb9 : b.size ≤ 9)
    (h : ((e != 0) = true ∧ (e == 0) = false ∧ a = ⟨#[]⟩ ∧ ((f == 0) = true ∨ (f == 0) = false ∧ b = ⟨#[]⟩)) ∨ ((e != 0) = false ∧ (e == 0) = true ∧ (f != 0) = true ∧ (f == 0) = false ∧ b = ⟨#[]⟩) ∨
      ((e != 0) = false ∧ (f != 0) = false ∧ a.size ≤ b.size ∧ ((x == y) = true ∧ ((b.extract 0 a.size).toList == a.toList) = (n == m) ∨ (x == y) = false ∧ ((b.extract 0 a.size).toList == a.toList) = false)) ∨
      ((e != 0) = false ∧ (f != 0) = false ∧ b.size < a.size ∧ ((x == y) = true ∧ (n == m) = false ∨ (x == y) = false))) :
    Calls Tryd.prog 5 #[.int .i64 x, .int .i64 n, .int .i64 y, .int .i64 m] w fun e w' => e = .returned (.bool true) ∧ Below w.heap.size w w' := by
  have HA := Lib.hid hA
  have HBB := Lib.hid hB
  clear hA hB
  rcases h with ⟨h1, h2, rfl, h3 | ⟨h3, rfl⟩⟩ | ⟨h1, h2, h3, h4, rfl⟩ | ⟨h1, h2, h3, ⟨h4, h5⟩ | ⟨h4, h5⟩⟩ | ⟨h1, h2, h3, ⟨h4, h5⟩ | h4⟩
  all_goals
    go_enter Tryd.func5, Tryd.ntmps5
    go_wp2_with fail
    refine (shown_any _ hH).mono ?_
    rintro e w1 ⟨rfl, hb1⟩
    go_wp2_with fail
    refine (hencode_any _ _ _ (hH.below hb1)).mono ?_
    rintro e w2 ⟨rfl, hb2⟩
    replace hb2 := hb1.trans (hb2.mono hb1.size)
    rw [HA.out]
    go_wp2_with fail
    refine (hencode_any _ _ _ (hH.below hb2)).mono ?_
    rintro e w3 ⟨rfl, hb3⟩
    replace hb3 := hb2.trans (hb3.mono hb2.size)
    rw [HBB.out]
    have HB := Lib.hid hb3
    clear hb1 hb2 hb3
    go_wp2
    all_goals
      go_ret
      first | exact ⟨rfl, HB.out⟩ | exact ⟨congrArg (fun b => Ending.returned (.bool b)) (by simp), HB.out⟩

theorem apart_walk (x n y m : Int) (w : World) (hH : HeadOK w) (_ : (Lit.int .i64 x).wf = true) (_ : (Lit.int .i64 n).wf = true) (_ : (Lit.int .i64 y).wf = true) (_ : (Lit.int .i64 m).wf = true) :
    Calls Tryd.prog 5 #[.int .i64 x, .int .i64 n, .int .i64 y, .int .i64 m] w fun e w' => e = .returned (.bool true) ∧ Below w.heap.size w w' := by
  refine apart_of x n y m (hencR x n).1 (hencR y m).1 (hencR x n).2 (hencR y m).2 w hH rfl rfl (hencR_sz x n) (hencR_sz y m) ?_
  rcases hencR_cases x n with ⟨c, h, h1, h2⟩ | ⟨M, N, rfl, rfl, hM, hN, h⟩
  · rw [h]
    rcases hencR_cases y m with ⟨c', h', h1', h2'⟩ | ⟨M, N, rfl, rfl, hM, hN, h'⟩
    · rw [h']; exact .inl ⟨h1, h2, rfl, .inr ⟨h2', rfl⟩⟩
    · rw [h']; exact .inl ⟨h1, h2, rfl, .inl rfl⟩
  · rcases hencR_cases y m with ⟨c', h', h1', h2'⟩ | ⟨M', K, rfl, rfl, hM', hK, h'⟩
    · rw [h, h']; exact .inr (.inl ⟨rfl, rfl, h1', h2', rfl⟩)
    · rw [h, h']
      have hbg := head_begins hM hM' hN hK
      by_cases hle : (headL M N).length ≤ (headL M' K).length
      · refine .inr (.inr (.inl ⟨rfl, rfl, show (⟨(headL M N).toArray⟩ : ByteArray).size ≤ (⟨(headL M' K).toArray⟩ : ByteArray).size by rw [head_size, head_size]; exact hle, ?_⟩))
        show (_ ∧ (((⟨(headL M' K).toArray⟩ : ByteArray).extract 0 (⟨(headL M N).toArray⟩ : ByteArray).size).toList == (⟨(headL M N).toArray⟩ : ByteArray).toList) = _) ∨ (_ ∧ (((⟨(headL M' K).toArray⟩ : ByteArray).extract 0 (⟨(headL M N).toArray⟩ : ByteArray).size).toList == (⟨(headL M N).toArray⟩ : ByteArray).toList) = _)
        rw [head_size, extract_list, bytes_list]
        by_cases hMM : M = M'
        · refine .inl ⟨by simp [hMM], ?_⟩
          rw [Bool.eq_iff_iff]
          simp only [beq_iff_eq]
          rw [hbg]
          constructor
          · rintro ⟨_, e⟩; rw [e]
          · intro e; exact ⟨hMM, by omega⟩
        · refine .inr ⟨by rw [beq_eq_false_iff_ne]; omega, ?_⟩
          rw [beq_eq_false_iff_ne]
          intro e
          exact hMM (hbg.1 e).1
      · refine .inr (.inr (.inr ⟨rfl, rfl, show (⟨(headL M' K).toArray⟩ : ByteArray).size < (⟨(headL M N).toArray⟩ : ByteArray).size by rw [head_size, head_size]; omega, ?_⟩))
        by_cases hMM : M = M'
        · refine .inl ⟨by simp [hMM], ?_⟩
          rw [beq_eq_false_iff_ne]
          intro e
          have e' : N = K := by omega
          subst e' hMM
          exact hle (Nat.le_refl _)
        · exact .inr (by rw [beq_eq_false_iff_ne]; omega)
end Go.Proofs.YtnmdbmmkmbdiaaaDoor
