/- Contracts of tell of package eid, at its three types: the answer, or nothing and the error's number. -/
import Derived.Test.YtmpokhdljlnllaaDoorEParts
set_option linter.unusedVariables false
set_option linter.unusedSimpArgs false
namespace Go.Proofs.YtmpokhdljlnllaaDoor
open Go.RowKit

set_option maxHeartbeats 1000000 in
theorem tellH_ok (s t : ByteArray) (w : World) :
    Calls Tryd.prog 23 #[.agg #[.string s, .string t], .bool true] w fun e w' => e = .returned (.tuple #[.agg #[.string s, .string t], .int .i64 0]) ∧ Below w.heap.size w w' := by
  go_enter Tryd.func23, Tryd.ntmps23
  go_wp2
  refine bodyPost_ret (v := .tuple #[.agg #[.string s, .string t], .int .i64 0]) (by simp [results, Tryd.results23, go_sem]) rfl ⟨rfl, ?_⟩
  exact below_alloc_l (below_alloc_l (Below.refl _ _))
set_option maxHeartbeats 1000000 in
theorem tellH_bad (s t : ByteArray) (w : World) :
    Calls Tryd.prog 23 #[.agg #[.string s, .string t], .bool false] w fun e w' => e = .returned (.tuple #[.agg #[.string ⟨#[]⟩, .string ⟨#[]⟩], .int .i64 60]) ∧ Below w.heap.size w w' := by
  go_enter Tryd.func23, Tryd.ntmps23
  go_wp2
  refine bodyPost_ret (v := .tuple #[.agg #[.string ⟨#[]⟩, .string ⟨#[]⟩], .int .i64 60]) (by simp [results, Tryd.results23, go_sem]) rfl ⟨rfl, ?_⟩
  exact below_alloc_l (below_alloc_l (below_alloc_l (Below.refl _ _)))

set_option maxHeartbeats 1000000 in
theorem tellN_ok (k : Int) (nd sv : ByteArray) (a b : Int) (w : World) :
    Calls Tryd.prog 26 #[nmV k nd sv a b, .bool true] w fun e w' => e = .returned (.tuple #[nmV k nd sv a b, .int .i64 0]) ∧ Below w.heap.size w w' := by
  unfold nmV
  go_enter Tryd.func26, Tryd.ntmps26
  go_wp2
  refine bodyPost_ret (v := .tuple #[.agg #[.int .i64 k, .string nd, .string sv, .int .i64 a, .int .i64 b], .int .i64 0]) (by simp [results, Tryd.results26, go_sem]) rfl ⟨rfl, ?_⟩
  exact below_alloc_l (below_alloc_l (Below.refl _ _))
set_option maxHeartbeats 1000000 in
theorem tellN_bad (k : Int) (nd sv : ByteArray) (a b : Int) (w : World) :
    Calls Tryd.prog 26 #[nmV k nd sv a b, .bool false] w fun e w' => e = .returned (.tuple #[nmV 0 ⟨#[]⟩ ⟨#[]⟩ 0 0, .int .i64 60]) ∧ Below w.heap.size w w' := by
  unfold nmV
  go_enter Tryd.func26, Tryd.ntmps26
  go_wp2
  refine bodyPost_ret (v := .tuple #[.agg #[.int .i64 0, .string ⟨#[]⟩, .string ⟨#[]⟩, .int .i64 0, .int .i64 0], .int .i64 60]) (by simp [results, Tryd.results26, go_sem]) rfl ⟨rfl, ?_⟩
  exact below_alloc_l (below_alloc_l (below_alloc_l (Below.refl _ _)))

set_option maxHeartbeats 1000000 in
theorem tellS_any (s : ByteArray) (r : Bool) (w : World) :
    Calls Tryd.prog 30 #[.string s, .bool r] w fun e w' => e = .returned (.tuple #[.string (if r then s else ⟨#[]⟩), .int .i64 (if r then 0 else 60)]) ∧ w' = w := by
  cases r
  all_goals
    go_enter Tryd.func30, Tryd.ntmps30
    go_wp2
    go_ret2
    exact ⟨rfl, rfl⟩

/-- The scheme that halves may have. -/
def schK (s t : ByteArray) : Int := if s.toList = [105, 112, 110] then 2 else if t.toList = [110, 111, 110, 101] then 0 else 1
set_option maxHeartbeats 1000000 in
theorem schemeOf_any (s t : ByteArray) (w : World) :
    Calls Tryd.prog 36 #[.agg #[.string s, .string t]] w fun e w' => e = .returned (.int .i64 (schK s t)) ∧ Below w.heap.size w w' := by
  unfold schK
  by_cases h1 : s.toList = [105, 112, 110]
  · rw [if_pos h1]
    have b1 : (s.toList == [105, 112, 110]) = true := by simpa using h1
    clear h1
    go_enter Tryd.func36, Tryd.ntmps36
    go_wp2
    go_ret
    exact ⟨rfl, below_alloc_l (Below.refl _ _)⟩
  · have b1 : (s.toList == [105, 112, 110]) = false := by simpa using h1
    rw [if_neg h1]
    clear h1
    by_cases h2 : t.toList = [110, 111, 110, 101]
    · rw [if_pos h2]
      have b2 : (t.toList == [110, 111, 110, 101]) = true := by simpa using h2
      clear h2
      go_enter Tryd.func36, Tryd.ntmps36
      go_wp2
      go_ret
      exact ⟨rfl, below_alloc_l (Below.refl _ _)⟩
    · rw [if_neg h2]
      have b2 : (t.toList == [110, 111, 110, 101]) = false := by simpa using h2
      clear h2
      go_enter Tryd.func36, Tryd.ntmps36
      go_wp2
      go_ret
      exact ⟨rfl, below_alloc_l (Below.refl _ _)⟩
end Go.Proofs.YtmpokhdljlnllaaDoor
