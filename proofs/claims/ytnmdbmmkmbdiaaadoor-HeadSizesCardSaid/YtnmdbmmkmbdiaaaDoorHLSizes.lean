/- A head has as many bytes as its argument asks for, whatever its major is, and a greater one no fewer: the walk of HeadSizes. -/
import Derived.Test.YtnmdbmmkmbdiaaaDoorHLP
set_option linter.unusedVariables false
set_option linter.unusedSimpArgs false
namespace Go.Proofs.YtnmdbmmkmbdiaaaDoor
open Go.RowKit

set_option maxRecDepth 100000 in
set_option maxHeartbeats 2000000 in
theorem sizes_of (x n m : Int) (s : ByteArray) (e a f b g : Int) (w : World) (hH : HeadOK w) (hA : hencR x n = (s, e)) (hS : hsizeR n = (a, f)) (hT : hsizeR m = (b, g)) (hs9 : s.size ≤ 9)
    (h : ((e != 0) = true ∧ (e == 0) = false ∧ s = ⟨#[]⟩) ∨ ((e != 0) = false ∧ (e == 0) = true ∧ (g != 0) = true) ∨
      ((e != 0) = false ∧ (g != 0) = false ∧ (f == 0) = true ∧ (a == (s.size : Int)) = true ∧ (a = 1 ∨ a = 2 ∨ a = 3 ∨ a = 5 ∨ a = 9) ∧ (decide (m < n) = true ∨ decide (m < n) = false ∧ decide (a ≤ b) = true))) :
    Calls Tryd.prog 6 #[.int .i64 x, .int .i64 n, .int .i64 m] w fun e w' => e = .returned (.bool true) ∧ Below w.heap.size w w' := by
  have HA := Lib.hid hA
  have HS := Lib.hid hS
  have HT := Lib.hid hT
  clear hA hS hT
  rcases h with ⟨h1, h2, rfl⟩ | ⟨h1, h2, h3⟩ | ⟨h1, h2, h3, h4, rfl | rfl | rfl | rfl | rfl, h6 | ⟨h6, h7⟩⟩
  all_goals
    go_enter Tryd.func6, Tryd.ntmps6
    go_wp2_with fail
    refine (shown_any _ hH).mono ?_
    rintro e w1 ⟨rfl, hb1⟩
    go_wp2_with fail
    refine (hencode_any _ _ _ (hH.below hb1)).mono ?_
    rintro e w2 ⟨rfl, hb2⟩
    replace hb2 := hb1.trans (hb2.mono hb1.size)
    rw [HA.out]
    go_wp2_with fail
    refine (hsize_any _ _ (hH.below hb2)).mono ?_
    rintro e w3 ⟨rfl, hb3⟩
    replace hb3 := hb2.trans (hb3.mono hb2.size)
    rw [HS.out]
    go_wp2_with fail
    refine (hsize_any _ _ (hH.below hb3)).mono ?_
    rintro e w4 ⟨rfl, hb4⟩
    replace hb4 := hb3.trans (hb4.mono hb3.size)
    rw [HT.out]
    have HB := Lib.hid hb4
    clear hb1 hb2 hb3 hb4
    go_wp2
    go_ret
    exact ⟨rfl, HB.out⟩

theorem sizes_walk (x n m : Int) (w : World) (hH : HeadOK w) (_ : (Lit.int .i64 x).wf = true) (_ : (Lit.int .i64 n).wf = true) (_ : (Lit.int .i64 m).wf = true) :
    Calls Tryd.prog 6 #[.int .i64 x, .int .i64 n, .int .i64 m] w fun e w' => e = .returned (.bool true) ∧ Below w.heap.size w w' := by
  refine sizes_of x n m (hencR x n).1 (hencR x n).2 (hsizeR n).1 (hsizeR n).2 (hsizeR m).1 (hsizeR m).2 w hH rfl rfl rfl (hencR_sz x n) ?_
  rcases hencR_cases x n with ⟨c, h, h1, h2⟩ | ⟨M, N, rfl, rfl, hM, hN, h⟩
  · rw [h]; exact .inl ⟨h1, h2, rfl⟩
  · rw [h]
    rcases hsizeR_cases m with h' | ⟨K, rfl, hK, h'⟩
    · rw [h']; exact .inr (.inl ⟨rfl, rfl, rfl⟩)
    · rw [h', hsizeR_of hN]
      refine .inr (.inr ⟨rfl, rfl, rfl, ?_, ?_, ?_⟩)
      · show (((1 + wid N : Nat) : Int) == ((⟨(headL M N).toArray⟩ : ByteArray).size : Int)) = true
        rw [head_size, headL_length]
        simp
      · show ((1 + wid N : Nat) : Int) = 1 ∨ _
        rcases wid_cases N with ⟨_, h2, _⟩ | ⟨_, _, h2, _⟩ | ⟨_, _, h2, _⟩ | ⟨_, _, h2, _⟩ | ⟨_, h2, _⟩ <;> rw [h2] <;> decide
      · by_cases hlt : (K : Int) < (N : Int)
        · exact .inl (decide_eq_true hlt)
        · refine .inr ⟨decide_eq_false hlt, decide_eq_true ?_⟩
          have := wid_mono (show N ≤ K by omega)
          show ((1 + wid N : Nat) : Int) ≤ ((1 + wid K : Nat) : Int)
          omega
end Go.Proofs.YtnmdbmmkmbdiaaaDoor
