/- A list of numbers that came in, as it reads. -/
import Derived.Test.YtajeanmmelldnaaDoorSFrame
import Derived.Test.YtajeanmmelldnaaDoorSLay
set_option linter.unusedVariables false
set_option linter.unusedSimpArgs false
namespace Go.Proofs.YtajeanmmelldnaaDoor
open Go.ChangeShapes Go.WideShapes Go.ChangeAt Go.WideMaps Go.WideElems Go.RowKit

theorem cellsInt : Tryd.prog.cellsOf 3 = 1 := by kernel_rfl

set_option maxRecDepth 100000 in
theorem open_intsT {H : Type} {enc : TypeId × Value → H} {W : World} {r : Reach} {b0 : Nat} {v : Value} {d : DataW H} {ps : List MemPlace} (hval : Value.okWide Tryd.prog W r b0 32 v) (hd : DataW.Trod enc Tryd.prog W 0 (fun _ => true) true 32 v d ps) :
    ∃ (A : Option Addr) (c : Nat) (xs : List Int), v = .slice A xs.length c ∧ IntsRd W A xs ∧ xs.length ≤ c ∧ c ≤ maxLen ∧ ∀ x ∈ ps, x.block < W.heap.size := by
  obtain ⟨a, len, cap, rfl⟩ := okWide_slice Tryd.underlying32 hval
  obtain ⟨fuel, hf⟩ := hd
  rcases open_ints Tryd.underlying32 Tryd.underlying3 cellsInt hf with ⟨hcs, hx⟩ | ⟨a', len', cap', zs, hcs, _, hl, hm, hz, hx, hcell, hwz⟩
  · simp [Value.cells] at hcs
    obtain ⟨rfl, rfl, rfl⟩ := hcs
    have : ps = [] := by injection hx
    subst this
    exact ⟨_, 0, [], rfl, IntsRd.nil _ _, Nat.le_refl _, Nat.zero_le _, by simp⟩
  · simp [Value.cells] at hcs
    obtain ⟨rfl, rfl, rfl⟩ := hcs
    rw [if_pos rfl] at hz
    have hps : ps = MemPlace.row a' zs.length := by injection hx
    subst hps
    refine ⟨some a', cap, zs.take len, ?_, ?_, ?_, hm, ?_⟩
    · rw [List.length_take, Nat.min_eq_left (by omega)]
    · intro j x hj
      have hj2 : j < len ∧ zs[j]? = some x := by
        rw [List.getElem?_take] at hj
        split at hj
        · exact ⟨‹_›, hj⟩
        · cases hj
      refine ⟨a', rfl, ?_⟩
      rw [hcell j (by omega), List.getD_eq_getElem?_getD, hj2.2]
      rfl
    · rw [List.length_take]; omega
    · intro x hx
      obtain ⟨i, hi, rfl⟩ := MemPlace.mem_row.1 hx
      have h1 := World.block_lt_of_cell? _ _ (hcell i hi)
      have h2 : (a'.add i).block = a'.block := by unfold Addr.add; split <;> rfl
      rw [h2] at h1
      simpa [MemPlace.block] using h1
end Go.Proofs.YtajeanmmelldnaaDoor
