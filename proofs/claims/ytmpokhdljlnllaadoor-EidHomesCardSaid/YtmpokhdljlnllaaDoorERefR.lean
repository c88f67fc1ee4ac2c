/- The document's Right of package eid. -/
import Derived.Test.YtmpokhdljlnllaaDoorERefC
set_option linter.unusedVariables false
set_option linter.unusedSimpArgs false
namespace Go.Proofs.YtmpokhdljlnllaaDoor
open Go.RowKit

theorem nmR_1 (nd sv : ByteArray) (a b : Int) : nmR (nmO 1 nd sv a b) = (!nd.toList.isEmpty && partB false nd.data.toList && partB true sv.data.toList && (a == 0) && (b == 0)) := by
  unfold nmR nmO
  rw [if_neg (show ¬ (1 : Int) = 0 by decide), if_pos rfl, isE_data]
  rfl
theorem nmR_2 (nd sv : ByteArray) (a b : Int) : nmR (nmO 2 nd sv a b) = (nd.toList.isEmpty && sv.toList.isEmpty && decide (1 ≤ a) && decide (a ≤ 999999999) && decide (0 ≤ b) && decide (b ≤ 999999999)) := by
  unfold nmR nmO
  rw [if_neg (show ¬ (2 : Int) = 0 by decide), if_neg (show ¬ (2 : Int) = 1 by decide), if_pos rfl, isE_data, isE_data]
theorem nmR_0 (nd sv : ByteArray) (a b : Int) : nmR (nmO 0 nd sv a b) = nmE 0 nd sv a b 0 ⟨#[]⟩ ⟨#[]⟩ 0 0 := by
  rw [← rgt0, Bool.eq_iff_iff, Bool.and_eq_true, nmE_iff, nmE_iff]
  constructor
  · rintro ⟨⟨h0, h1, h2, h3, h4⟩, _⟩
    exact ⟨h0, h1.symm, h2.symm, h3.symm, h4.symm⟩
  · rintro ⟨h0, h1, h2, h3, h4⟩
    exact ⟨⟨h0, h1.symm, h2.symm, h3.symm, h4.symm⟩, rfl⟩

set_option maxRecDepth 100000 in
set_option maxHeartbeats 4000000 in
theorem rright_0 (nd sv : ByteArray) (a b : Int) (w : World) :
    Calls Tryd.prog 22 #[nmV 0 nd sv a b] w fun e w' => e = .returned (.bool (nmR (nmO 0 nd sv a b))) ∧ Below w.heap.size w w' := by
  rw [nmR_0]
  have heq := nm_eql 0 nd sv a b 0 ⟨#[]⟩ ⟨#[]⟩ 0 0
  generalize nmE 0 nd sv a b 0 ⟨#[]⟩ ⟨#[]⟩ 0 0 = u at *
  unfold nmV
  go_enter Tryd.func22, Tryd.ntmps22
  go_wp2
  go_ret
  exact ⟨rfl, below_alloc_l (Below.refl _ _)⟩

set_option maxRecDepth 100000 in
set_option maxHeartbeats 4000000 in
theorem rright_1 (nd sv : ByteArray) (a b : Int) (w : World) (hn : nd.size ≤ 4000000000) (hs : sv.size ≤ 4000000000) :
    Calls Tryd.prog 22 #[nmV 1 nd sv a b] w fun e w' => e = .returned (.bool (nmR (nmO 1 nd sv a b))) ∧ Below w.heap.size w w' := by
  rw [nmR_1]
  have H1 := Lib.hid (fun W => part_any nd false hn W)
  have H2 := Lib.hid (fun W => part_any sv true hs W)
  generalize partB false nd.data.toList = p1 at *
  generalize partB true sv.data.toList = p2 at *
  clear hn hs
  obtain ⟨q0, h0⟩ : ∃ q, nd.toList.isEmpty = q := ⟨_, rfl⟩
  obtain ⟨q3, h3⟩ : ∃ q, (a == 0) = q := ⟨_, rfl⟩
  obtain ⟨q4, h4⟩ : ∃ q, (b == 0) = q := ⟨_, rfl⟩
  rw [h0, h3, h4]
  unfold nmV
  go_enter Tryd.func22, Tryd.ntmps22
  cases q0 with
  | true =>
    go_wp2_with fail
    go_ret
    exact ⟨rfl, below_alloc_l (Below.refl _ _)⟩
  | false =>
    go_wp2_with fail
    refine (H1.out _).mono ?_
    rintro e w1 ⟨rfl, rfl⟩
    clear H1
    cases p1 with
    | false =>
      go_wp2_with fail
      go_ret
      exact ⟨rfl, below_alloc_l (Below.refl _ _)⟩
    | true =>
      go_wp2_with fail
      refine (H2.out _).mono ?_
      rintro e w1 ⟨rfl, rfl⟩
      clear H2
      cases p2 <;> cases q3 <;> cases q4
      all_goals
        go_wp2_with fail
        go_ret
        exact ⟨rfl, below_alloc_l (Below.refl _ _)⟩

set_option maxRecDepth 100000 in
set_option maxHeartbeats 4000000 in
theorem rright_2 (nd sv : ByteArray) (a b : Int) (w : World) :
    Calls Tryd.prog 22 #[nmV 2 nd sv a b] w fun e w' => e = .returned (.bool (nmR (nmO 2 nd sv a b))) ∧ Below w.heap.size w w' := by
  rw [nmR_2]
  have hb : ∃ d1 d2 d3 d4 d5 d6 : Bool, nd.toList.isEmpty = d1 ∧ sv.toList.isEmpty = d2 ∧ decide (1 ≤ a) = d3 ∧ decide (a ≤ 999999999) = d4 ∧ decide (0 ≤ b) = d5 ∧ decide (b ≤ 999999999) = d6 ∧ (d1 = false ∨ (d1 = true ∧ d2 = false) ∨ (d1 = true ∧ d2 = true ∧ d3 = false) ∨ (d1 = true ∧ d2 = true ∧ d3 = true ∧ d4 = false) ∨ (d1 = true ∧ d2 = true ∧ d3 = true ∧ d4 = true ∧ d5 = false) ∨ (d1 = true ∧ d2 = true ∧ d3 = true ∧ d4 = true ∧ d5 = true)) := by
    refine ⟨_, _, _, _, _, _, rfl, rfl, rfl, rfl, rfl, rfl, ?_⟩
    cases nd.toList.isEmpty <;> cases sv.toList.isEmpty <;> cases decide (1 ≤ a) <;> cases decide (a ≤ 999999999) <;> cases decide (0 ≤ b) <;> simp
  obtain ⟨d1, d2, d3, d4, d5, d6, e1, e2, e3, e4, e5, e6, hw⟩ := hb
  rw [e1, e2, e3, e4, e5, e6]
  unfold nmV
  rcases hw with rfl | ⟨rfl, rfl⟩ | ⟨rfl, rfl, rfl⟩ | ⟨rfl, rfl, rfl, rfl⟩ | ⟨rfl, rfl, rfl, rfl, rfl⟩ | ⟨rfl, rfl, rfl, rfl, rfl⟩
  all_goals
    go_enter Tryd.func22, Tryd.ntmps22
    go_wp2_with fail
    go_ret
    exact ⟨rfl, below_alloc_l (Below.refl _ _)⟩

set_option maxRecDepth 100000 in
set_option maxHeartbeats 4000000 in
theorem rright_N (k : Int) (nd sv : ByteArray) (a b : Int) (w : World) (h0 : k ≠ 0) (h1 : k ≠ 1) (h2 : k ≠ 2) :
    Calls Tryd.prog 22 #[nmV k nd sv a b] w fun e w' => e = .returned (.bool (nmR (nmO k nd sv a b))) ∧ Below w.heap.size w w' := by
  rw [rgtN h0 h1 h2]
  have b0 : (k == 0) = false := by simpa using h0
  have b1 : (k == 1) = false := by simpa using h1
  have b2 : (k == 2) = false := by simpa using h2
  clear h0 h1 h2
  unfold nmV
  go_enter Tryd.func22, Tryd.ntmps22
  go_wp2_with fail
  go_ret
  exact ⟨rfl, below_alloc_l (Below.refl _ _)⟩

theorem rright_any (k : Int) (nd sv : ByteArray) (a b : Int) (w : World) (hn : nd.size ≤ 4000000000) (hs : sv.size ≤ 4000000000) :
    Calls Tryd.prog 22 #[nmV k nd sv a b] w fun e w' => e = .returned (.bool (nmR (nmO k nd sv a b))) ∧ Below w.heap.size w w' := by
  by_cases h0 : k = 0
  · subst h0; exact rright_0 nd sv a b w
  by_cases h1 : k = 1
  · subst h1; exact rright_1 nd sv a b w hn hs
  by_cases h2 : k = 2
  · subst h2; exact rright_2 nd sv a b w
  exact rright_N k nd sv a b w h0 h1 h2
end Go.Proofs.YtmpokhdljlnllaaDoor
