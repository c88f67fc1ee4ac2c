/- Contracts of the small functions of package disk: within, the rules, check, number, tell; IsDown, Sectors, Writes. -/
import Derived.Test.YtpafpmefhfmndaaDoorKMem
import Derived.WalkSmall
import Derived.IntWalk
import Derived.LoopTactic
set_option linter.unusedVariables false
set_option linter.unusedSimpArgs false
namespace Go.Proofs.YtpafpmefhfmndaaDoor
open Go.RowKit Go.Extern.Stop Go.Stop Go.Extern

def withinB (n l m : Int) : Bool := decide (l ≤ n) && decide (n ≤ m)

set_option maxHeartbeats 400000 in
theorem within_any (n l m : Int) (w : World) :
    Calls Tryd.prog 39 #[.int .i64 n, .int .i64 l, .int .i64 m] w fun e w' => e = .returned (.bool (withinB n l m)) ∧ w = w' := by
  unfold withinB
  by_cases h0 : l ≤ n
  · by_cases h1 : n ≤ m
    · have h0' : decide (l ≤ n) = true := by simpa using h0
      have h1' : decide (n ≤ m) = true := by simpa using h1
      go_enter Tryd.func39, Tryd.ntmps39
      go_wp2
      go_ret
      exact ⟨by simp [h0, h1], rfl⟩
    · have h1' : decide (n ≤ m) = false := by simpa using h1
      go_enter Tryd.func39, Tryd.ntmps39
      go_wp2
      go_ret
      exact ⟨by simp [h0, h1], rfl⟩
  · have h0' : decide (l ≤ n) = false := by simpa using h0
    go_enter Tryd.func39, Tryd.ntmps39
    go_wp2
    go_ret
    exact ⟨by simp [h0], rfl⟩

set_option maxHeartbeats 400000 in
theorem isDown_any (a : Nat) (D : Dk) (w : World) (h : HdAt a D w) :
    Calls Tryd.prog 14 #[.pointer (some ⟨a, 0, none⟩)] w fun e w' => e = .returned (.bool D.down) ∧ w = w' := by
  have c3 := h.c3
  go_enter Tryd.func14, Tryd.ntmps14
  go_wp2
  go_ret
  exact ⟨rfl, rfl⟩

set_option maxHeartbeats 400000 in
theorem isDown_nil (w : World) :
    Calls Tryd.prog 14 #[.pointer none] w fun e w' => e = .returned (.bool true) ∧ w = w' := by
  go_enter Tryd.func14, Tryd.ntmps14
  go_wp2
  go_ret
  exact ⟨rfl, rfl⟩

set_option maxHeartbeats 400000 in
theorem sectors_any (a b : Nat) (D : Dk) (w : World) (h : DAt a b D w) :
    Calls Tryd.prog 15 #[.pointer (some ⟨a, 0, none⟩)] w fun e w' => e = .returned (.int .i64 (D.ss.length : Int)) ∧ w = w' := by
  have c0 := h.c0
  go_enter Tryd.func15, Tryd.ntmps15
  go_wp2
  go_ret
  exact ⟨rfl, rfl⟩

set_option maxHeartbeats 400000 in
theorem sectors_nil (w : World) :
    Calls Tryd.prog 15 #[.pointer none] w fun e w' => e = .returned (.int .i64 0) ∧ w = w' := by
  go_enter Tryd.func15, Tryd.ntmps15
  go_wp2
  go_ret
  exact ⟨rfl, rfl⟩

set_option maxHeartbeats 400000 in
theorem writes_any (a : Nat) (D : Dk) (w : World) (h : HdAt a D w) :
    Calls Tryd.prog 18 #[.pointer (some ⟨a, 0, none⟩)] w fun e w' => e = .returned (.int .i64 (D.n : Int)) ∧ w = w' := by
  have c4 := h.c4
  go_enter Tryd.func18, Tryd.ntmps18
  go_wp2
  go_ret
  exact ⟨rfl, rfl⟩

set_option maxHeartbeats 400000 in
theorem given_any (p : Option Addr) (w : World) :
    Calls Tryd.prog 40 #[.pointer p] w fun e w' => e = .returned (.agg #[.bool p.isSome, .int .i64 1]) ∧ Below w.heap.size w w' := by
  rcases p with _ | p
  all_goals
    go_enter Tryd.func40, Tryd.ntmps40
    go_wp2
    refine bodyPost_ret (v := .agg #[.bool _, .int .i64 1]) (by simp [results, Tryd.results40, go_sem]) rfl ⟨rfl, ?_⟩
    exact (Below.refl _ _).alloc (Nat.le_refl _) _

set_option maxHeartbeats 400000 in
theorem running_any (a : Nat) (D : Dk) (w : World) (h : HdAt a D w) :
    Calls Tryd.prog 41 #[.pointer (some ⟨a, 0, none⟩)] w fun e w' => e = .returned (.agg #[.bool (!D.down), .int .i64 180]) ∧ Below w.heap.size w w' := by
  go_enter Tryd.func41, Tryd.ntmps41
  go_wp2_with fail
  refine (isDown_any a D _ (h.same (Below.heap_alloc _ _ _ h.lt))).mono ?_
  rintro e w' ⟨rfl, rfl⟩
  go_wp2
  refine bodyPost_ret (v := .agg #[.bool (!D.down), .int .i64 180]) (by simp [results, Tryd.results41, go_sem]) rfl ⟨rfl, ?_⟩
  exact (Below.refl _ _).alloc (Nat.le_refl _) _

set_option maxHeartbeats 400000 in
theorem running_nil (w : World) :
    Calls Tryd.prog 41 #[.pointer none] w fun e w' => e = .returned (.agg #[.bool false, .int .i64 180]) ∧ Below w.heap.size w w' := by
  go_enter Tryd.func41, Tryd.ntmps41
  go_wp2_with fail
  refine (isDown_nil _).mono ?_
  rintro e w' ⟨rfl, rfl⟩
  go_wp2
  refine bodyPost_ret (v := .agg #[.bool false, .int .i64 180]) (by simp [results, Tryd.results41, go_sem]) rfl ⟨rfl, ?_⟩
  exact (Below.refl _ _).alloc (Nat.le_refl _) _

theorem withinB_in (D : Dk) (i : Int) : withinB i 0 ((D.ss.length : Int) - 1) = decide (inD D i) := by
  unfold withinB
  by_cases h : inD D i
  · rw [decide_eq_true h]; obtain ⟨h0, h1⟩ := h; simp; omega
  · rw [decide_eq_false h]; unfold inD at h; simp; omega

set_option maxHeartbeats 400000 in
theorem numbered_any (a b : Nat) (D : Dk) (i : Int) (w : World) (h : DAt a b D w) :
    Calls Tryd.prog 42 #[.pointer (some ⟨a, 0, none⟩), .int .i64 i] w fun e w' => e = .returned (.agg #[.bool (decide (inD D i)), .int .i64 181]) ∧ Below w.heap.size w w' := by
  have h1 := h.ok.m1
  have h2 := h.ok.m256
  have HW := Lib.hid (withinB_in D i)
  go_enter Tryd.func42, Tryd.ntmps42
  go_wp2_with fail
  refine (sectors_any a b D _ (h.below ((Below.refl _ _).alloc (Nat.le_refl _) _))).mono ?_
  rintro e w' ⟨rfl, rfl⟩
  go_wp2_with fail
  refine (within_any _ _ _ _).mono ?_
  rintro e w' ⟨rfl, rfl⟩
  rw [HW.out]
  go_wp2
  refine bodyPost_ret (v := .agg #[.bool (decide (inD D i)), .int .i64 181]) (by simp [results, Tryd.results42, go_sem]) rfl ⟨rfl, ?_⟩
  exact (Below.refl _ _).alloc (Nat.le_refl _) _

set_option maxHeartbeats 400000 in
theorem numbered_nil (i : Int) (w : World) :
    Calls Tryd.prog 42 #[.pointer none, .int .i64 i] w fun e w' => e = .returned (.agg #[.bool (withinB i 0 (-1)), .int .i64 181]) ∧ Below w.heap.size w w' := by
  go_enter Tryd.func42, Tryd.ntmps42
  go_wp2_with fail
  refine (sectors_nil _).mono ?_
  rintro e w' ⟨rfl, rfl⟩
  go_wp2_with fail
  refine (within_any _ _ _ _).mono ?_
  rintro e w' ⟨rfl, rfl⟩
  go_wp2
  refine bodyPost_ret (v := .agg #[.bool (withinB i 0 (-1)), .int .i64 181]) (by simp [results, Tryd.results42, go_sem]) rfl ⟨rfl, ?_⟩
  exact (Below.refl _ _).alloc (Nat.le_refl _) _

set_option maxHeartbeats 400000 in
theorem number_nil (w : World) :
    Calls Tryd.prog 33 #[.nilIface] w fun e w' => e = .returned (.int .i64 0) ∧ Below w.heap.size w w' := by
  go_enter Tryd.func33, Tryd.ntmps33
  go_wp2_with fail
  refine (as_nil _ _).mono ?_
  rintro e w' ⟨rfl, rfl⟩
  go_wp2
  go_ret
  exact ⟨rfl, (Below.refl _ _).alloc (Nat.le_refl _) _⟩

set_option maxHeartbeats 400000 in
theorem number_bad (v : Value) (k : Int) (w : World) (hG : EnvE w) (hv : Wrong k v) :
    Calls Tryd.prog 33 #[v] w fun e w' => e = .returned (.int .i64 k) ∧ Below w.heap.size w w' := by
  have HV := Lib.hid hv
  clear hv
  go_enter Tryd.func33, Tryd.ntmps33
  go_wp2_with fail
  refine (As_wrong w.heap.size v k HV.out (.int .i64 0) _ (hG.below ((Below.refl _ _).alloc (Nat.le_refl _) _)) (by simp) (by simp)).mono ?_
  rintro e w1 ⟨rfl, hc1, hb1⟩
  have hB : Below w.heap.size w w1 := ((Below.refl _ _).alloc (Nat.le_refl _) _).trans hb1
  clear hb1
  go_wp2
  go_ret
  exact ⟨rfl, hB⟩

/-- What check answers. -/
def firstBad : List (Bool × Int) → Option Int
  | [] => none
  | (true, _) :: r => firstBad r
  | (false, k) :: _ => some k
def wrongV (call : ByteArray) : Option Int → Value
  | none => .nilIface
  | some k => .iface 89 (.agg #[.string call, .iface 83 (.agg #[.int .i64 k])])
def errK : Option Int → Int
  | none => 0
  | some k => k
theorem wrongV_bad (call : ByteArray) (k : Int) : Wrong k (wrongV call (some k)) := .inr ⟨call, rfl⟩

theorem dnumber_any (call : ByteArray) (o : Option Int) (w : World) (hG : EnvE w) :
    Calls Tryd.prog 33 #[wrongV call o] w fun e w' => e = .returned (.int .i64 (errK o)) ∧ Below w.heap.size w w' := by
  rcases o with _ | k
  · exact number_nil w
  · exact number_bad _ k w hG (wrongV_bad call k)
end Go.Proofs.YtpafpmefhfmndaaDoor
