/- What cut and Cut, of the statements' package 06, answer. -/
import Derived.Test.YtmpokhdljlnllaaDoorERefM
import Derived.BigRegion
set_option linter.unusedVariables false
set_option linter.unusedSimpArgs false
namespace Go.Proofs.YtmpokhdljlnllaaDoor
open Go.RowKit

def c21 (s : ByteArray) : ByteArray := s.extract 0 (min s.size 21)
def c80 (s : ByteArray) : ByteArray := s.extract 0 (min s.size 80)
theorem c21_le (s : ByteArray) : (c21 s).size ≤ 21 := by unfold c21; rw [ByteArray.size_extract]; omega
theorem c80_le (s : ByteArray) : (c80 s).size ≤ 80 := by unfold c80; rw [ByteArray.size_extract]; omega

set_option maxHeartbeats 400000 in
theorem lcut_any (s : ByteArray) (w : World) (hs : s.size ≤ maxLen) :
    Calls Tryd.prog 10 #[.string s] w fun e w' => e = .returned (.string (c80 s)) ∧ w = w' := by
  unfold maxLen at hs
  unfold c80
  have e1 : (min (s.size : Int) 80).toNat = min s.size 80 := by omega
  go_enter Tryd.func10, Tryd.ntmps10
  go_wp2
  go_ret
  exact ⟨rfl, rfl⟩

set_option maxRecDepth 100000 in
set_option maxHeartbeats 4000000 in
theorem lCut_any (k : Int) (nd sv : ByteArray) (a b : Int) (w : World) (hn : nd.size ≤ maxLen) (hs : sv.size ≤ maxLen) :
    Calls Tryd.prog 9 #[nmV k nd sv a b] w fun e w' => e = .returned (nmV k (c21 nd) (c21 sv) a b) ∧ Below w.heap.size w w' := by
  unfold maxLen at hn hs
  have e1 : (min (nd.size : Int) 21).toNat = min nd.size 21 := by omega
  have e2 : (min (sv.size : Int) 21).toNat = min sv.size 21 := by omega
  have g1 : (0 : Int) ≤ min (nd.size : Int) 21 := by omega
  have g2 : min (nd.size : Int) 21 ≤ (nd.size : Int) := by omega
  have g3 : (0 : Int) ≤ min (sv.size : Int) 21 := by omega
  have g4 : min (sv.size : Int) 21 ≤ (sv.size : Int) := by omega
  have HBX := Lib.hid (show Below w.heap.size w ((w.alloc (.cells #[.int .i64 k, .string nd, .string sv, .int .i64 a, .int .i64 b] 23)).alloc (.cells #[.int .i64 0, .string ⟨#[]⟩, .string ⟨#[]⟩, .int .i64 0, .int .i64 0] 23)) from below_alloc_l (below_alloc_l (Below.refl _ _)))
  unfold c21
  unfold nmV
  go_enter Tryd.func9, Tryd.ntmps9
  go_wp2_with fail
  have n0 : ((w.alloc (.cells #[.int .i64 k, .string nd, .string sv, .int .i64 a, .int .i64 b] 23)).alloc (.cells #[.int .i64 0, .string ⟨#[]⟩, .string ⟨#[]⟩, .int .i64 0, .int .i64 0] 23)).cell? ⟨w.heap.size, 0, none⟩ = some (.int .i64 k) := by go_simp
  have n1 : ((w.alloc (.cells #[.int .i64 k, .string nd, .string sv, .int .i64 a, .int .i64 b] 23)).alloc (.cells #[.int .i64 0, .string ⟨#[]⟩, .string ⟨#[]⟩, .int .i64 0, .int .i64 0] 23)).cell? ⟨w.heap.size, 1, none⟩ = some (.string nd) := by go_simp
  have n2 : ((w.alloc (.cells #[.int .i64 k, .string nd, .string sv, .int .i64 a, .int .i64 b] 23)).alloc (.cells #[.int .i64 0, .string ⟨#[]⟩, .string ⟨#[]⟩, .int .i64 0, .int .i64 0] 23)).cell? ⟨w.heap.size, 2, none⟩ = some (.string sv) := by go_simp
  have n3 : ((w.alloc (.cells #[.int .i64 k, .string nd, .string sv, .int .i64 a, .int .i64 b] 23)).alloc (.cells #[.int .i64 0, .string ⟨#[]⟩, .string ⟨#[]⟩, .int .i64 0, .int .i64 0] 23)).cell? ⟨w.heap.size, 3, none⟩ = some (.int .i64 a) := by go_simp
  have n4 : ((w.alloc (.cells #[.int .i64 k, .string nd, .string sv, .int .i64 a, .int .i64 b] 23)).alloc (.cells #[.int .i64 0, .string ⟨#[]⟩, .string ⟨#[]⟩, .int .i64 0, .int .i64 0] 23)).cell? ⟨w.heap.size, 4, none⟩ = some (.int .i64 b) := by go_simp
  have r0 : ((w.alloc (.cells #[.int .i64 k, .string nd, .string sv, .int .i64 a, .int .i64 b] 23)).alloc (.cells #[.int .i64 0, .string ⟨#[]⟩, .string ⟨#[]⟩, .int .i64 0, .int .i64 0] 23)).cell? ⟨w.heap.size + 1, 0, none⟩ = some (.int .i64 0) := by go_simp
  have r1 : ((w.alloc (.cells #[.int .i64 k, .string nd, .string sv, .int .i64 a, .int .i64 b] 23)).alloc (.cells #[.int .i64 0, .string ⟨#[]⟩, .string ⟨#[]⟩, .int .i64 0, .int .i64 0] 23)).cell? ⟨w.heap.size + 1, 1, none⟩ = some (.string ⟨#[]⟩) := by go_simp
  have r2 : ((w.alloc (.cells #[.int .i64 k, .string nd, .string sv, .int .i64 a, .int .i64 b] 23)).alloc (.cells #[.int .i64 0, .string ⟨#[]⟩, .string ⟨#[]⟩, .int .i64 0, .int .i64 0] 23)).cell? ⟨w.heap.size + 1, 2, none⟩ = some (.string ⟨#[]⟩) := by go_simp
  have r3 : ((w.alloc (.cells #[.int .i64 k, .string nd, .string sv, .int .i64 a, .int .i64 b] 23)).alloc (.cells #[.int .i64 0, .string ⟨#[]⟩, .string ⟨#[]⟩, .int .i64 0, .int .i64 0] 23)).cell? ⟨w.heap.size + 1, 3, none⟩ = some (.int .i64 0) := by go_simp
  have r4 : ((w.alloc (.cells #[.int .i64 k, .string nd, .string sv, .int .i64 a, .int .i64 b] 23)).alloc (.cells #[.int .i64 0, .string ⟨#[]⟩, .string ⟨#[]⟩, .int .i64 0, .int .i64 0] 23)).cell? ⟨w.heap.size + 1, 4, none⟩ = some (.int .i64 0) := by go_simp
  have q0 : ((w.alloc (.cells #[.int .i64 k, .string nd, .string sv, .int .i64 a, .int .i64 b] 23)).alloc (.cells #[.int .i64 0, .string ⟨#[]⟩, .string ⟨#[]⟩, .int .i64 0, .int .i64 0] 23)).frozen? ⟨w.heap.size + 1, 0, none⟩ = false := by go_simp
  have q1 : ((w.alloc (.cells #[.int .i64 k, .string nd, .string sv, .int .i64 a, .int .i64 b] 23)).alloc (.cells #[.int .i64 0, .string ⟨#[]⟩, .string ⟨#[]⟩, .int .i64 0, .int .i64 0] 23)).frozen? ⟨w.heap.size + 1, 1, none⟩ = false := by go_simp
  have q2 : ((w.alloc (.cells #[.int .i64 k, .string nd, .string sv, .int .i64 a, .int .i64 b] 23)).alloc (.cells #[.int .i64 0, .string ⟨#[]⟩, .string ⟨#[]⟩, .int .i64 0, .int .i64 0] 23)).frozen? ⟨w.heap.size + 1, 2, none⟩ = false := by go_simp
  have q3 : ((w.alloc (.cells #[.int .i64 k, .string nd, .string sv, .int .i64 a, .int .i64 b] 23)).alloc (.cells #[.int .i64 0, .string ⟨#[]⟩, .string ⟨#[]⟩, .int .i64 0, .int .i64 0] 23)).frozen? ⟨w.heap.size + 1, 3, none⟩ = false := by go_simp
  have q4 : ((w.alloc (.cells #[.int .i64 k, .string nd, .string sv, .int .i64 a, .int .i64 b] 23)).alloc (.cells #[.int .i64 0, .string ⟨#[]⟩, .string ⟨#[]⟩, .int .i64 0, .int .i64 0] 23)).frozen? ⟨w.heap.size + 1, 4, none⟩ = false := by go_simp
  generalize hw0 : ((w.alloc (.cells #[.int .i64 k, .string nd, .string sv, .int .i64 a, .int .i64 b] 23)).alloc (.cells #[.int .i64 0, .string ⟨#[]⟩, .string ⟨#[]⟩, .int .i64 0, .int .i64 0] 23)) = w0 at *
  clear hw0
  go_region_held3 (fun w' => w'.cell? ⟨w.heap.size, 0, none⟩ = some (.int .i64 k) ∧ w'.cell? ⟨w.heap.size, 1, none⟩ = some (.string nd) ∧ w'.cell? ⟨w.heap.size, 2, none⟩ = some (.string sv) ∧ w'.cell? ⟨w.heap.size, 3, none⟩ = some (.int .i64 a) ∧ w'.cell? ⟨w.heap.size, 4, none⟩ = some (.int .i64 b))
    (first | go_keep | (go_simp; done) | exact ⟨n0, n1, n2, n3, n4⟩) (fail)
  all_goals
    go_wp2_with fail
    have k5 := set5 (v0 := .int .i64 k) (v1 := .string (nd.extract 0 (min nd.size 21))) (v2 := .string (sv.extract 0 (min sv.size 21))) (v3 := .int .i64 a) (v4 := .int .i64 b) r0 r1 r2 r3 r4
    have hB := Lib.hid (below_drew_l (below_set5 (R := w.heap.size + 1) (v0 := .int .i64 k) (v1 := .string (nd.extract 0 (min nd.size 21))) (v2 := .string (sv.extract 0 (min sv.size 21))) (v3 := .int .i64 a) (v4 := .int .i64 b) HBX.out (by omega)))
    exact bodyPost_ret (nm_res1 _ rfl _ rfl ⟨cell_drew_l k5.1, cell_drew_l k5.2.1, cell_drew_l k5.2.2.1, cell_drew_l k5.2.2.2.1, cell_drew_l k5.2.2.2.2⟩) rfl ⟨rfl, hB.out⟩
end Go.Proofs.YtmpokhdljlnllaaDoor
