/- A table that came in, as it reads. -/
import Derived.Test.YtpccbiopljmnlaaDoorCFrame
set_option linter.unusedVariables false
set_option linter.unusedSimpArgs false
namespace Go.Proofs.YtpccbiopljmnlaaDoor
open Go.ChangeShapes Go.WideShapes Go.ChangeAt Go.WideMaps Go.WideElems Go.RowKit

theorem laidOut : laidOutB Tryd.prog = true := by kernel_rfl

theorem wf_u32 {n : Int} (h : (Lit.int .u32 n).wf = true) : 0 ≤ n ∧ n < 4294967296 := by
  simp [Lit.wf, IntKind.min, IntKind.max, IntKind.bits, IntKind.signed] at h
  omega

set_option maxRecDepth 100000 in
theorem open_u32T {H : Type} {enc : TypeId × Value → H} {W : World} {r : Reach} {b0 : Nat} {v : Value} {d : DataW H} {ps : List MemPlace} (hval : Value.okWide Tryd.prog W r b0 22 v) (hd : DataW.Trod enc Tryd.prog W 0 (fun _ => true) true 22 v d ps) :
    ∃ (A : Option Addr) (c : Nat) (xs : List Nat), v = .slice A xs.length c ∧ (U32Rd W A xs ∧ Fit32 xs) ∧ xs.length ≤ c ∧ c ≤ maxLen ∧ ∀ x ∈ ps, x.block < W.heap.size := by
  obtain ⟨a, len, cap, rfl⟩ := okWide_slice Tryd.underlying22 hval
  obtain ⟨fuel, hf⟩ := hd
  rcases open_ints Tryd.underlying22 Tryd.underlying29 cellsU32 hf with ⟨hcs, hx⟩ | ⟨a', len', cap', zs, hcs, _, hl, hm, hz, hx, hcell, hwz⟩
  · simp [Value.cells] at hcs
    obtain ⟨rfl, rfl, rfl⟩ := hcs
    have : ps = [] := by injection hx
    subst this
    exact ⟨_, 0, [], rfl, ⟨U32Rd.nil _ _, fun x h => by cases h⟩, Nat.le_refl _, Nat.zero_le _, by simp⟩
  · simp [Value.cells] at hcs
    obtain ⟨rfl, rfl, rfl⟩ := hcs
    rw [if_pos rfl] at hz
    have hps : ps = MemPlace.row a' zs.length := by injection hx
    subst hps
    refine ⟨some a', cap, (zs.take len).map Int.toNat, ?_, ⟨?_, ?_⟩, ?_, hm, ?_⟩
    · rw [List.length_map, List.length_take, Nat.min_eq_left (by omega)]
    · intro j x hj
      rw [List.getElem?_map] at hj
      obtain ⟨y, hy, rfl⟩ := Option.map_eq_some_iff.1 hj
      have hj2 : j < len ∧ zs[j]? = some y := by
        rw [List.getElem?_take] at hy
        split at hy
        · exact ⟨‹_›, hy⟩
        · cases hy
      refine ⟨a', rfl, ?_⟩
      have hw := wf_u32 (hwz y (List.mem_of_getElem? hj2.2))
      rw [hcell j (by omega), List.getD_eq_getElem?_getD, hj2.2]
      show some (Value.int .u32 y) = some (Value.int .u32 ((y.toNat : Nat) : Int))
      rw [Int.toNat_of_nonneg hw.1]
    · intro x hx
      obtain ⟨y, hy, rfl⟩ := List.mem_map.1 hx
      have hw := wf_u32 (hwz y (List.mem_of_mem_take hy))
      omega
    · rw [List.length_map, List.length_take]; omega
    · intro x hx
      obtain ⟨i, hi, rfl⟩ := MemPlace.mem_row.1 hx
      have h1 := World.block_lt_of_cell? _ _ (hcell i hi)
      have h2 : (a'.add i).block = a'.block := by unfold Addr.add; split <;> rfl
      rw [h2] at h1
      simpa [MemPlace.block] using h1
end Go.Proofs.YtpccbiopljmnlaaDoor
