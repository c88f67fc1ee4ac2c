/- errors.Is between sentinels made by errors.New: true of one and the same, false of two; and what number, of package nums, answers for each of its three. -/
import Derived.Test.YtmbmolgkccjedaaGreatDoorChecked
import Derived.WalkKit
import Derived.LaidEql
import Derived.Stop.Asserts
import Derived.RowKitTokens
import Derived.Deep.RegionWith
import Derived.BigQuiet
import Derived.Deep.QuietTactic
import Derived.Lib.Hide
set_option linter.unusedVariables false
set_option linter.unusedSimpArgs false
namespace Go.Proofs.YtmbmolgkccjedaaGreatDoor
open Go.RowKit Go.Extern.Stop Go.Stop Go.Extern

theorem isTypeOf (v : Value) (w : World) : (Extern.ReflectliteType.typeOf #[.iface 299 v]).run Tryz.prog w = .ok (.iface 191 (.agg #[.pointer (some ⟨15, 299, none⟩)])) w := by kernel_rfl
theorem isComparable (w : World) : (callFunc 234 #[.agg #[.pointer (some ⟨15, 299, none⟩)]]).run Tryz.prog w = .ok (Next.value (.bool true)) w := by
  rw [run_callFunc_extern (e := Extern.ReflectliteType.method fun t => do Rtype.noPackHeld "Comparable" t; pure (.bool (← typeInfo t).comparable)) Tryz.func234 (by kernel_rfl) (by kernel_rfl) (by kernel_rfl) (by kernel_rfl)]
  kernel_rfl
theorem isMethodComparable (n : Nat) (v : Value) (w : World) : (Go.method (n + 1) 191 v "Comparable").run Tryz.prog w = .ok (234, v) w := by kernel_rfl
theorem isComp : (Tryz.prog.info? 299).map (·.comparable) = some true := by kernel_rfl
theorem isSize : (Tryz.prog.info? 301).map (·.size) = some 1 := by kernel_rfl
theorem noIsE (v : Value) (xT : TypeId) (w : World) : (Instr.typeAssert (.iface 299 v) xT 289 true).run Tryz.prog w = .ok (.tuple #[.nilIface, .bool false]) w := run_typeAssert_lacksB Tryz.underlying289 (by kernel_rfl) (by kernel_rfl) v xT w
theorem noUnwrapE (v : Value) (xT : TypeId) (w : World) : (Instr.typeAssert (.iface 299 v) xT 199 true).run Tryz.prog w = .ok (.tuple #[.nilIface, .bool false]) w := run_typeAssert_lacksB Tryz.underlying199 (by kernel_rfl) (by kernel_rfl) v xT w
theorem noUnwrapsE (v : Value) (xT : TypeId) (w : World) : (Instr.typeAssert (.iface 299 v) xT 201 true).run Tryz.prog w = .ok (.tuple #[.nilIface, .bool false]) w := run_typeAssert_lacksB Tryz.underlying201 (by kernel_rfl) (by kernel_rfl) v xT w

set_option maxRecDepth 100000 in
set_option maxHeartbeats 1000000 in
/-- errors.Is(x, x), x a pointer to an errors.errorString. -/
theorem is_same (a : Addr) (w : World) :
    Calls Tryz.prog 147 #[.iface 299 (.pointer (some a)), .iface 299 (.pointer (some a))] w fun e w' => e = .returned (.bool true) ∧ w = w' := by
  obtain ⟨i, hi, hcmp⟩ := Option.map_eq_some_iff.1 isComp
  obtain ⟨j, hj, hjs⟩ := Option.map_eq_some_iff.1 isSize
  have h8 := @run_callFunc_extern Tryz.prog 124 _ Extern.ReflectliteType.typeOf Tryz.func124 (by kernel_rfl) (by kernel_rfl) (by kernel_rfl) (by kernel_rfl)
  have tT := isTypeOf
  have cT := isComparable
  have mR := isMethodComparable
  have heq := run_eql_iface_ptr_same (P := Tryz.prog) w a Tryz.underlying77 Tryz.underlying299 hi hcmp hj
  go_enter Tryz.func147, Tryz.ntmps147
  go_wp2
  refine wp_loop_rounds 1 ?_
  rw [rounds_succ]
  go_wp2
  go_ret
  exact ⟨rfl, rfl⟩

set_option maxRecDepth 100000 in
set_option maxHeartbeats 1000000 in
/-- errors.Is(x, y), two different pointers to errors.errorString. -/
theorem is_other (a b : Addr) (ca cb : Array Value) (ta tb : TypeId) (w : World) (hne : a ≠ b) (ha : w.heap[a.block]? = some (.cells ca ta (0, 0))) (hb : w.heap[b.block]? = some (.cells cb tb (0, 0))) :
    Calls Tryz.prog 147 #[.iface 299 (.pointer (some a)), .iface 299 (.pointer (some b))] w fun e w' => e = .returned (.bool false) ∧ w = w' := by
  obtain ⟨i, hi, hcmp⟩ := Option.map_eq_some_iff.1 isComp
  obtain ⟨j, hj, hjs⟩ := Option.map_eq_some_iff.1 isSize
  have h8 := @run_callFunc_extern Tryz.prog 124 _ Extern.ReflectliteType.typeOf Tryz.func124 (by kernel_rfl) (by kernel_rfl) (by kernel_rfl) (by kernel_rfl)
  have tT := isTypeOf
  have cT := isComparable
  have mR := isMethodComparable
  have nE := noIsE
  have uE := noUnwrapE
  have vE := noUnwrapsE
  have heq := run_eql_iface_ptr_other (P := Tryz.prog) w Tryz.underlying77 Tryz.underlying299 hi hcmp hj (by rw [hjs]; decide) hne ha hb
  go_enter Tryz.func147, Tryz.ntmps147
  go_wp2
  refine wp_loop_rounds 1 ?_
  rw [rounds_succ]
  go_wp2
  go_ret
  exact ⟨rfl, rfl⟩

/-- The three sentinels of package nums lie as the program's text lays them: three pointers, no two the same. -/
structure Env (a0 a1 a2 : Addr) (w : World) : Prop where
  g0 : w.cell? ⟨5, 0, none⟩ = some (.iface 299 (.pointer (some a0)))
  g1 : w.cell? ⟨6, 0, none⟩ = some (.iface 299 (.pointer (some a1)))
  g2 : w.cell? ⟨14, 0, none⟩ = some (.iface 299 (.pointer (some a2)))
  b0 : ∃ c t, w.heap[a0.block]? = some (.cells c t (0, 0))
  b1 : ∃ c t, w.heap[a1.block]? = some (.cells c t (0, 0))
  b2 : ∃ c t, w.heap[a2.block]? = some (.cells c t (0, 0))
  n01 : a0 ≠ a1
  n02 : a0 ≠ a2
  n12 : a1 ≠ a2

theorem lt_of_heap {w : World} {k : Nat} {x : Obj} (h : w.heap[k]? = some x) : k < w.heap.size := by
  rcases Nat.lt_or_ge k w.heap.size with h' | h'
  · exact h'
  · simp [Array.getElem?_eq_none h'] at h

theorem Env.below {a0 a1 a2 : Addr} {w w' : World} (h : Env a0 a1 a2 w) (hb : Below w.heap.size w w') : Env a0 a1 a2 w' := by
  have k : ∀ {a : Addr}, (∃ c t, w.heap[a.block]? = some (.cells c t (0, 0))) → ∃ c t, w'.heap[a.block]? = some (.cells c t (0, 0)) := fun ⟨c, t, e⟩ => ⟨c, t, (hb.block _ (lt_of_heap e)).trans e⟩
  exact ⟨(hb.cell (World.block_lt_of_cell? _ _ h.g0)).trans h.g0, (hb.cell (World.block_lt_of_cell? _ _ h.g1)).trans h.g1, (hb.cell (World.block_lt_of_cell? _ _ h.g2)).trans h.g2, k h.b0, k h.b1, k h.b2, h.n01, h.n02, h.n12⟩

set_option maxRecDepth 100000 in
set_option maxHeartbeats 1000000 in
theorem number0 (a0 a1 a2 : Addr) (w : World) (hE : Env a0 a1 a2 w) :
    Calls Tryz.prog 170 #[.iface 299 (.pointer (some a0))] w fun e w' => e = .returned (.int .i64 2) ∧ w = w' := by
  have g0 := hE.g0
  go_enter Tryz.func170, Tryz.ntmps170
  go_wp2_with (go_at_call 147; refine (is_same a0 _).mono ?_; rintro e w' ⟨rfl, rfl⟩)
  go_ret
  exact ⟨rfl, rfl⟩

set_option maxRecDepth 100000 in
set_option maxHeartbeats 1000000 in
theorem number1 (a0 a1 a2 : Addr) (w : World) (hE : Env a0 a1 a2 w) :
    Calls Tryz.prog 170 #[.iface 299 (.pointer (some a1))] w fun e w' => e = .returned (.int .i64 10) ∧ w = w' := by
  have g0 := hE.g0
  have g1 := hE.g1
  obtain ⟨c0, t0, b0⟩ := hE.b0
  obtain ⟨c1, t1, b1⟩ := hE.b1
  have H0 := Lib.hid b0
  have H1 := Lib.hid b1
  clear b0 b1
  go_enter Tryz.func170, Tryz.ntmps170
  go_wp2_with fail
  refine (is_other a1 a0 c1 c0 t1 t0 _ (Ne.symm hE.n01) H1.out H0.out).mono ?_
  rintro e w' ⟨rfl, rfl⟩
  go_wp2_with fail
  refine (is_same a1 _).mono ?_
  rintro e w' ⟨rfl, rfl⟩
  go_wp2
  go_ret
  exact ⟨rfl, rfl⟩

set_option maxRecDepth 100000 in
set_option maxHeartbeats 1000000 in
theorem number2 (a0 a1 a2 : Addr) (w : World) (hE : Env a0 a1 a2 w) :
    Calls Tryz.prog 170 #[.iface 299 (.pointer (some a2))] w fun e w' => e = .returned (.int .i64 11) ∧ w = w' := by
  have g0 := hE.g0
  have g1 := hE.g1
  obtain ⟨c0, t0, b0⟩ := hE.b0
  obtain ⟨c1, t1, b1⟩ := hE.b1
  obtain ⟨c2, t2, b2⟩ := hE.b2
  have H0 := Lib.hid b0
  have H1 := Lib.hid b1
  have H2 := Lib.hid b2
  clear b0 b1 b2
  go_enter Tryz.func170, Tryz.ntmps170
  go_wp2_with fail
  refine (is_other a2 a0 c2 c0 t2 t0 _ (Ne.symm hE.n02) H2.out H0.out).mono ?_
  rintro e w' ⟨rfl, rfl⟩
  go_wp2_with fail
  refine (is_other a2 a1 c2 c1 t2 t1 _ (Ne.symm hE.n12) H2.out H1.out).mono ?_
  rintro e w' ⟨rfl, rfl⟩
  go_wp2
  go_ret
  exact ⟨rfl, rfl⟩

/-- The sentinel at a is the one that stands for the error's number k. -/
def Sent (a0 a1 a2 a : Addr) (k : Int) : Prop := (a = a0 ∧ k = 2) ∨ (a = a1 ∧ k = 10) ∨ (a = a2 ∧ k = 11)

theorem number_any (a0 a1 a2 a : Addr) (k : Int) (w : World) (hE : Env a0 a1 a2 w) (hs : Sent a0 a1 a2 a k) :
    Calls Tryz.prog 170 #[.iface 299 (.pointer (some a))] w fun e w' => e = .returned (.int .i64 k) ∧ w = w' := by
  rcases hs with ⟨rfl, rfl⟩ | ⟨rfl, rfl⟩ | ⟨rfl, rfl⟩
  · exact number0 _ _ _ _ hE
  · exact number1 _ _ _ _ hE
  · exact number2 _ _ _ _ hE

set_option maxHeartbeats 400000 in
theorem tells_ok (s : ByteArray) (w : World) :
    Calls Tryz.prog 149 #[.agg #[.string s, .nilIface]] w fun e w' => e = .returned (.tuple #[.string s, .int .i64 0]) ∧ Below w.heap.size w w' := by
  go_enter Tryz.func149, Tryz.ntmps149
  go_wp2
  go_ret2
  exact ⟨rfl, (Below.refl _ _).alloc (Nat.le_refl _) _⟩

set_option maxHeartbeats 400000 in
theorem telli_ok (n : Int) (w : World) :
    Calls Tryz.prog 202 #[.agg #[.int .i64 n, .nilIface]] w fun e w' => e = .returned (.tuple #[.int .i64 n, .int .i64 0]) ∧ Below w.heap.size w w' := by
  go_enter Tryz.func202, Tryz.ntmps202
  go_wp2
  go_ret2
  exact ⟨rfl, (Below.refl _ _).alloc (Nat.le_refl _) _⟩

set_option maxHeartbeats 400000 in
theorem tells_bad (a0 a1 a2 a : Addr) (k : Int) (s : ByteArray) (w : World) (hE : Env a0 a1 a2 w) (hs : Sent a0 a1 a2 a k) :
    Calls Tryz.prog 149 #[.agg #[.string s, .iface 299 (.pointer (some a))]] w fun e w' => e = .returned (.tuple #[.string ⟨#[]⟩, .int .i64 k]) ∧ Below w.heap.size w w' := by
  go_enter Tryz.func149, Tryz.ntmps149
  go_wp2_with fail
  refine (number_any a0 a1 a2 a k _ (hE.below ((Below.refl _ _).alloc (Nat.le_refl _) _)) hs).mono ?_
  rintro e w' ⟨rfl, rfl⟩
  go_wp2
  go_ret2
  exact ⟨rfl, (Below.refl _ _).alloc (Nat.le_refl _) _⟩

set_option maxHeartbeats 400000 in
theorem telli_bad (a0 a1 a2 a : Addr) (k : Int) (n : Int) (w : World) (hE : Env a0 a1 a2 w) (hs : Sent a0 a1 a2 a k) :
    Calls Tryz.prog 202 #[.agg #[.int .i64 n, .iface 299 (.pointer (some a))]] w fun e w' => e = .returned (.tuple #[.int .i64 0, .int .i64 k]) ∧ Below w.heap.size w w' := by
  go_enter Tryz.func202, Tryz.ntmps202
  go_wp2_with fail
  refine (number_any a0 a1 a2 a k _ (hE.below ((Below.refl _ _).alloc (Nat.le_refl _) _)) hs).mono ?_
  rintro e w' ⟨rfl, rfl⟩
  go_wp2
  go_ret2
  exact ⟨rfl, (Below.refl _ _).alloc (Nat.le_refl _) _⟩
end Go.Proofs.YtmbmolgkccjedaaGreatDoor
