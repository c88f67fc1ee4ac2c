/- In one width the bytes of the lesser number come first: the walk of NumsOrder, for every two numbers and width. -/
import Derived.Test.YtjnfalgcfifciaaDoorPure
import Derived.Test.YtjnfalgcfifciaaDoorShown
set_option linter.unusedVariables false
set_option linter.unusedSimpArgs false
namespace Go.Proofs.YtjnfalgcfifciaaDoor
open Go.RowKit

theorem below3 {w w1 w2 w3 : World} (h1 : Below w.heap.size w w1) (h2 : Below w1.heap.size w1 w2) (h3 : Below w2.heap.size w2 w3) : Below w.heap.size w w3 :=
  (h1.trans (h2.mono h1.size)).trans (h3.mono (Nat.le_trans h1.size h2.size))

set_option maxRecDepth 100000 in
set_option maxHeartbeats 1000000 in
/-- One of the two has no bytes. -/
theorem order_err (a0 a1 a2 : Addr) (n m k : Int) (x y : ByteArray) (c d : Int) (w : World) (hE : Env a0 a1 a2 w) (hR : bytesR n k = (x, c)) (hS : bytesR m k = (y, d))
    (h : (c != 0) = true ∨ (c != 0) = false ∧ (d != 0) = true) (hx : (c == 0) = true ∨ (c == 0) = false ∧ x = ⟨#[]⟩) (hy : (d == 0) = true ∨ (d == 0) = false ∧ y = ⟨#[]⟩) :
    Calls Tryd.prog 6 #[.int .i64 n, .int .i64 m, .int .i64 k] w fun e w' => e = .returned (.bool true) ∧ Below w.heap.size w w' := by
  have R := Lib.hid hR
  have S := Lib.hid hS
  clear hR hS
  rcases h with h | ⟨h, h'⟩ <;> rcases hx with hx | ⟨hx, rfl⟩ <;> rcases hy with hy | ⟨hy, rfl⟩
  all_goals
    go_enter Tryd.func6, Tryd.ntmps6
    go_wp2_with fail
    refine (shown_any a0 a1 a2 _ hE).mono ?_
    rintro e w1 ⟨rfl, hb1⟩
    have hE1 := hE.below hb1
    go_wp2_with fail
    refine (bytes_any a0 a1 a2 _ _ _ hE1).mono ?_
    rintro e w2 ⟨rfl, hb2⟩
    have hE2 := hE1.below hb2
    rw [R.out]
    go_wp2_with fail
    refine (bytes_any a0 a1 a2 _ _ _ hE2).mono ?_
    rintro e w3 ⟨rfl, hb3⟩
    rw [S.out]
    go_wp2
    go_ret
    exact ⟨rfl, below3 hb1 hb2 hb3⟩

set_option maxRecDepth 100000 in
set_option maxHeartbeats 1000000 in
theorem order_ok (a0 a1 a2 : Addr) (n m k : Nat) (x y : List UInt8) (w : World) (hE : Env a0 a1 a2 w) (hR : bytesR n k = (⟨x.toArray⟩, 0)) (hS : bytesR m k = (⟨y.toArray⟩, 0))
    (hlt : Op.bytesLess x y = decide (n < m)) (heq : (x == y) = ((n : Int) == (m : Int))) :
    Calls Tryd.prog 6 #[.int .i64 (n : Int), .int .i64 (m : Int), .int .i64 (k : Int)] w fun e w' => e = .returned (.bool true) ∧ Below w.heap.size w w' := by
  have R := Lib.hid hR
  have S := Lib.hid hS
  clear hR hS
  go_enter Tryd.func6, Tryd.ntmps6
  go_wp2_with fail
  refine (shown_any a0 a1 a2 _ hE).mono ?_
  rintro e w1 ⟨rfl, hb1⟩
  have hE1 := hE.below hb1
  go_wp2_with fail
  refine (bytes_any a0 a1 a2 _ _ _ hE1).mono ?_
  rintro e w2 ⟨rfl, hb2⟩
  have hE2 := hE1.below hb2
  rw [R.out]
  go_wp2_with fail
  refine (bytes_any a0 a1 a2 _ _ _ hE2).mono ?_
  rintro e w3 ⟨rfl, hb3⟩
  rw [S.out]
  go_wp2
  go_ret
  exact ⟨by simp [ByteArray.toList_eq, hlt, heq], below3 hb1 hb2 hb3⟩

theorem order_walk (a0 a1 a2 : Addr) (n m k : Int) (w : World) (hE : Env a0 a1 a2 w) (_ : (Lit.int .i64 n).wf = true) (_ : (Lit.int .i64 m).wf = true) (_ : (Lit.int .i64 k).wf = true) :
    Calls Tryd.prog 6 #[.int .i64 n, .int .i64 m, .int .i64 k] w fun e w' => e = .returned (.bool true) ∧ Below w.heap.size w w' := by
  rcases bytesR_cases n k with ⟨_, hR⟩ | ⟨_, _, hR⟩ | ⟨n', j, rfl, rfl, h1, h2, h3, h4, hR⟩ <;> rcases bytesR_cases m _ with ⟨_, hS⟩ | ⟨_, _, hS⟩ | ⟨m', j', rfl, hj, _, _, _, h5, hS⟩
  · exact order_err a0 a1 a2 _ _ _ _ _ _ _ w hE hR hS (.inl rfl) (.inr ⟨rfl, rfl⟩) (.inr ⟨rfl, rfl⟩)
  · exact order_err a0 a1 a2 _ _ _ _ _ _ _ w hE hR hS (.inl rfl) (.inr ⟨rfl, rfl⟩) (.inr ⟨rfl, rfl⟩)
  · exact order_err a0 a1 a2 _ _ _ _ _ _ _ w hE hR hS (.inl rfl) (.inr ⟨rfl, rfl⟩) (.inl rfl)
  · exact order_err a0 a1 a2 _ _ _ _ _ _ _ w hE hR hS (.inl rfl) (.inr ⟨rfl, rfl⟩) (.inr ⟨rfl, rfl⟩)
  · exact order_err a0 a1 a2 _ _ _ _ _ _ _ w hE hR hS (.inl rfl) (.inr ⟨rfl, rfl⟩) (.inr ⟨rfl, rfl⟩)
  · exact order_err a0 a1 a2 _ _ _ _ _ _ _ w hE hR hS (.inl rfl) (.inr ⟨rfl, rfl⟩) (.inl rfl)
  · exact order_err a0 a1 a2 _ _ _ _ _ _ _ w hE hR hS (.inr ⟨rfl, rfl⟩) (.inl rfl) (.inr ⟨rfl, rfl⟩)
  · exact order_err a0 a1 a2 _ _ _ _ _ _ _ w hE hR hS (.inr ⟨rfl, rfl⟩) (.inl rfl) (.inr ⟨rfl, rfl⟩)
  · obtain rfl : j = j' := by omega
    refine order_ok a0 a1 a2 n' m' j _ _ w hE hR hS (bytesLess_beL h4 h5) ?_
    rw [Bool.eq_iff_iff]
    simp only [beq_iff_eq]
    exact ⟨fun h => by rw [beL_inj h4 h5 h], fun h => by rw [show n' = m' by omega]⟩
end Go.Proofs.YtjnfalgcfifciaaDoor
