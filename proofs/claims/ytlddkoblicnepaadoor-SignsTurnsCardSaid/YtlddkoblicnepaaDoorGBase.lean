/- What package signs stands on: errors.Is over sentinels and Right of package nums (stages 1 and 5, picked by wip/tools/gbase.py); its eight sentinels as the program's text lays them; what number answers for each; tell. -/
import Derived.Test.YtlddkoblicnepaaDoorGPure
import Derived.LaidEql
import Derived.Stop.Asserts
import Derived.RowKitTokens
import Derived.Deep.RegionWith
import Derived.BigQuiet
import Derived.Deep.QuietTactic
import Derived.Lib.Hide
import Derived.Laws.ResultCell
set_option linter.unusedVariables false
set_option linter.unusedSimpArgs false
namespace Go.Proofs.YtlddkoblicnepaaDoor
open Go.RowKit Go.Extern.Stop Go.Stop Go.Extern


theorem isTypeOf (v : Value) (w : World) : (Extern.ReflectliteType.typeOf #[.iface 89 v]).run Tryd.prog w = .ok (.iface 80 (.agg #[.pointer (some ⟨8, 89, none⟩)])) w := by kernel_rfl

theorem isComparable (w : World) : (callFunc 73 #[.agg #[.pointer (some ⟨8, 89, none⟩)]]).run Tryd.prog w = .ok (Next.value (.bool true)) w := by
  rw [run_callFunc_extern (e := Extern.ReflectliteType.method fun t => do Rtype.noPackHeld "Comparable" t; pure (.bool (← typeInfo t).comparable)) Tryd.func73 (by kernel_rfl) (by kernel_rfl) (by kernel_rfl) (by kernel_rfl)]
  kernel_rfl

theorem isMethodComparable (n : Nat) (v : Value) (w : World) : (Go.method (n + 1) 80 v "Comparable").run Tryd.prog w = .ok (73, v) w := by kernel_rfl

theorem isComp : (Tryd.prog.info? 89).map (·.comparable) = some true := by kernel_rfl

theorem isSize : (Tryd.prog.info? 115).map (·.size) = some 1 := by kernel_rfl

theorem noIsE (v : Value) (xT : TypeId) (w : World) : (Instr.typeAssert (.iface 89 v) xT 82 true).run Tryd.prog w = .ok (.tuple #[.nilIface, .bool false]) w := run_typeAssert_lacksB Tryd.underlying82 (by kernel_rfl) (by kernel_rfl) v xT w

theorem noUnwrapE (v : Value) (xT : TypeId) (w : World) : (Instr.typeAssert (.iface 89 v) xT 85 true).run Tryd.prog w = .ok (.tuple #[.nilIface, .bool false]) w := run_typeAssert_lacksB Tryd.underlying85 (by kernel_rfl) (by kernel_rfl) v xT w

theorem noUnwrapsE (v : Value) (xT : TypeId) (w : World) : (Instr.typeAssert (.iface 89 v) xT 86 true).run Tryd.prog w = .ok (.tuple #[.nilIface, .bool false]) w := run_typeAssert_lacksB Tryd.underlying86 (by kernel_rfl) (by kernel_rfl) v xT w

set_option maxRecDepth 100000 in
set_option maxHeartbeats 1000000 in
/-- errors.Is(x, x), x a pointer to an errors.errorString. -/
theorem is_same (a : Addr) (w : World) :
    Calls Tryd.prog 48 #[.iface 89 (.pointer (some a)), .iface 89 (.pointer (some a))] w fun e w' => e = .returned (.bool true) ∧ w = w' := by
  obtain ⟨i, hi, hcmp⟩ := Option.map_eq_some_iff.1 isComp
  obtain ⟨j, hj, hjs⟩ := Option.map_eq_some_iff.1 isSize
  have h8 := @run_callFunc_extern Tryd.prog 51 _ Extern.ReflectliteType.typeOf Tryd.func51 (by kernel_rfl) (by kernel_rfl) (by kernel_rfl) (by kernel_rfl)
  have tT := isTypeOf
  have cT := isComparable
  have mR := isMethodComparable
  have heq := run_eql_iface_ptr_same (P := Tryd.prog) w a Tryd.underlying34 Tryd.underlying89 hi hcmp hj
  go_enter Tryd.func48, Tryd.ntmps48
  go_wp2
  refine wp_loop_rounds 1 ?_
  rw [rounds_succ]
  go_wp2
  go_ret
  exact ⟨rfl, rfl⟩

set_option maxRecDepth 100000 in
set_option maxHeartbeats 1000000 in
/-- errors.Is(x, y), two different pointers to errors.errorString. -/
theorem is_other (a b : Addr) (ca cb : Array Value) (ta tb : TypeId) (w : World) (hne : a ≠ b) (ha : w.heap[a.block]? = some (.cells ca ta (0, 0))) (hb : w.heap[b.block]? = some (.cells cb tb (0, 0))) :
    Calls Tryd.prog 48 #[.iface 89 (.pointer (some a)), .iface 89 (.pointer (some b))] w fun e w' => e = .returned (.bool false) ∧ w = w' := by
  obtain ⟨i, hi, hcmp⟩ := Option.map_eq_some_iff.1 isComp
  obtain ⟨j, hj, hjs⟩ := Option.map_eq_some_iff.1 isSize
  have h8 := @run_callFunc_extern Tryd.prog 51 _ Extern.ReflectliteType.typeOf Tryd.func51 (by kernel_rfl) (by kernel_rfl) (by kernel_rfl) (by kernel_rfl)
  have tT := isTypeOf
  have cT := isComparable
  have mR := isMethodComparable
  have nE := noIsE
  have uE := noUnwrapE
  have vE := noUnwrapsE
  have heq := run_eql_iface_ptr_other (P := Tryd.prog) w Tryd.underlying34 Tryd.underlying89 hi hcmp hj (by rw [hjs]; decide) hne ha hb
  go_enter Tryd.func48, Tryd.ntmps48
  go_wp2
  refine wp_loop_rounds 1 ?_
  rw [rounds_succ]
  go_wp2
  go_ret
  exact ⟨rfl, rfl⟩

theorem lt_of_heap {w : World} {k : Nat} {x : Obj} (h : w.heap[k]? = some x) : k < w.heap.size := by
  rcases Nat.lt_or_ge k w.heap.size with h' | h'
  · exact h'
  · simp [Array.getElem?_eq_none h'] at h


def rightB (n : Int) : Bool := decide (0 ≤ n) && decide (n ≤ 281474976710655)

set_option maxHeartbeats 400000 in
theorem right_any (n : Int) (w : World) :
    Calls Tryd.prog 24 #[.int .i64 n] w fun e w' => e = .returned (.bool (rightB n)) ∧ w = w' := by
  unfold rightB
  by_cases h0 : 0 ≤ n
  · by_cases h1 : n ≤ 281474976710655
    · go_enter Tryd.func24, Tryd.ntmps24
      go_wp2
      go_ret
      exact ⟨by simp [h0, h1], rfl⟩
    · have h1' : decide (n ≤ 281474976710655) = false := by simpa using h1
      go_enter Tryd.func24, Tryd.ntmps24
      go_wp2
      go_ret
      exact ⟨by simp [h0, h1], rfl⟩
  · have h0' : decide (0 ≤ n) = false := by simpa using h0
    go_enter Tryd.func24, Tryd.ntmps24
    go_wp2
    go_ret
    exact ⟨by simp [h0], rfl⟩


/-- The eight sentinels of package signs lie as the program's text lays them, no two the same. -/
structure EnvG (b : Nat → Addr) (w : World) : Prop where
  g0 : w.cell? ⟨0, 0, none⟩ = some (.iface 89 (.pointer (some (b 0))))
  g1 : w.cell? ⟨3, 0, none⟩ = some (.iface 89 (.pointer (some (b 1))))
  g2 : w.cell? ⟨4, 0, none⟩ = some (.iface 89 (.pointer (some (b 2))))
  g3 : w.cell? ⟨5, 0, none⟩ = some (.iface 89 (.pointer (some (b 3))))
  g4 : w.cell? ⟨6, 0, none⟩ = some (.iface 89 (.pointer (some (b 4))))
  g5 : w.cell? ⟨7, 0, none⟩ = some (.iface 89 (.pointer (some (b 5))))
  g6 : w.cell? ⟨1, 0, none⟩ = some (.iface 89 (.pointer (some (b 6))))
  g7 : w.cell? ⟨2, 0, none⟩ = some (.iface 89 (.pointer (some (b 7))))
  k : ∀ i, i < 8 → ∃ c t, w.heap[(b i).block]? = some (.cells c t (0, 0))
  n : ∀ i j, i < 8 → j < 8 → i ≠ j → b i ≠ b j

theorem EnvG.below {b : Nat → Addr} {w w' : World} (h : EnvG b w) (hb : Below w.heap.size w w') : EnvG b w' := by
  have c : ∀ {a : Addr} {v : Value}, w.cell? a = some v → w'.cell? a = some v := fun e => (hb.cell (World.block_lt_of_cell? _ _ e)).trans e
  exact ⟨c h.g0, c h.g1, c h.g2, c h.g3, c h.g4, c h.g5, c h.g6, c h.g7, fun i hi => by obtain ⟨c, t, e⟩ := h.k i hi; exact ⟨c, t, (hb.block _ (lt_of_heap e)).trans e⟩, h.n⟩

/-- The numbers of the eight. -/
def codeG : Nat → Int
  | 0 => 10
  | 1 => 131
  | 2 => 132
  | 3 => 133
  | 4 => 134
  | 5 => 135
  | 6 => 136
  | _ => 2

set_option maxRecDepth 100000 in
set_option maxHeartbeats 1000000 in
theorem gnumber0 (b : Nat → Addr) (w : World) (hE : EnvG b w) :
    Calls Tryd.prog 38 #[.iface 89 (.pointer (some (b 0)))] w fun e w' => e = .returned (.int .i64 10) ∧ w = w' := by
  have g0 := hE.g0
  obtain ⟨c0, t0, k0⟩ := hE.k 0 (by decide)
  have H0 := Lib.hid k0
  clear k0
  generalize b 0 = a0 at *
  go_enter Tryd.func38, Tryd.ntmps38
  go_wp2_with fail
  refine (is_same a0 _).mono ?_
  rintro e w' ⟨rfl, rfl⟩
  go_wp2
  go_ret
  exact ⟨rfl, rfl⟩

set_option maxRecDepth 100000 in
set_option maxHeartbeats 1000000 in
theorem gnumber1 (b : Nat → Addr) (w : World) (hE : EnvG b w) :
    Calls Tryd.prog 38 #[.iface 89 (.pointer (some (b 1)))] w fun e w' => e = .returned (.int .i64 131) ∧ w = w' := by
  have g0 := hE.g0
  have g1 := hE.g1
  obtain ⟨c0, t0, k0⟩ := hE.k 0 (by decide)
  have H0 := Lib.hid k0
  clear k0
  obtain ⟨c1, t1, k1⟩ := hE.k 1 (by decide)
  have H1 := Lib.hid k1
  clear k1
  have n0 := hE.n 1 0 (by decide) (by decide) (by decide)
  generalize b 0 = a0 at *
  generalize b 1 = a1 at *
  go_enter Tryd.func38, Tryd.ntmps38
  go_wp2_with fail
  refine (is_other a1 a0 c1 c0 t1 t0 _ n0 H1.out H0.out).mono ?_
  rintro e w' ⟨rfl, rfl⟩
  go_wp2_with fail
  refine (is_same a1 _).mono ?_
  rintro e w' ⟨rfl, rfl⟩
  go_wp2
  go_ret
  exact ⟨rfl, rfl⟩

set_option maxRecDepth 100000 in
set_option maxHeartbeats 1000000 in
theorem gnumber2 (b : Nat → Addr) (w : World) (hE : EnvG b w) :
    Calls Tryd.prog 38 #[.iface 89 (.pointer (some (b 2)))] w fun e w' => e = .returned (.int .i64 132) ∧ w = w' := by
  have g0 := hE.g0
  have g1 := hE.g1
  have g2 := hE.g2
  obtain ⟨c0, t0, k0⟩ := hE.k 0 (by decide)
  have H0 := Lib.hid k0
  clear k0
  obtain ⟨c1, t1, k1⟩ := hE.k 1 (by decide)
  have H1 := Lib.hid k1
  clear k1
  obtain ⟨c2, t2, k2⟩ := hE.k 2 (by decide)
  have H2 := Lib.hid k2
  clear k2
  have n0 := hE.n 2 0 (by decide) (by decide) (by decide)
  have n1 := hE.n 2 1 (by decide) (by decide) (by decide)
  generalize b 0 = a0 at *
  generalize b 1 = a1 at *
  generalize b 2 = a2 at *
  go_enter Tryd.func38, Tryd.ntmps38
  go_wp2_with fail
  refine (is_other a2 a0 c2 c0 t2 t0 _ n0 H2.out H0.out).mono ?_
  rintro e w' ⟨rfl, rfl⟩
  go_wp2_with fail
  refine (is_other a2 a1 c2 c1 t2 t1 _ n1 H2.out H1.out).mono ?_
  rintro e w' ⟨rfl, rfl⟩
  go_wp2_with fail
  refine (is_same a2 _).mono ?_
  rintro e w' ⟨rfl, rfl⟩
  go_wp2
  go_ret
  exact ⟨rfl, rfl⟩

set_option maxRecDepth 100000 in
set_option maxHeartbeats 1000000 in
theorem gnumber3 (b : Nat → Addr) (w : World) (hE : EnvG b w) :
    Calls Tryd.prog 38 #[.iface 89 (.pointer (some (b 3)))] w fun e w' => e = .returned (.int .i64 133) ∧ w = w' := by
  have g0 := hE.g0
  have g1 := hE.g1
  have g2 := hE.g2
  have g3 := hE.g3
  obtain ⟨c0, t0, k0⟩ := hE.k 0 (by decide)
  have H0 := Lib.hid k0
  clear k0
  obtain ⟨c1, t1, k1⟩ := hE.k 1 (by decide)
  have H1 := Lib.hid k1
  clear k1
  obtain ⟨c2, t2, k2⟩ := hE.k 2 (by decide)
  have H2 := Lib.hid k2
  clear k2
  obtain ⟨c3, t3, k3⟩ := hE.k 3 (by decide)
  have H3 := Lib.hid k3
  clear k3
  have n0 := hE.n 3 0 (by decide) (by decide) (by decide)
  have n1 := hE.n 3 1 (by decide) (by decide) (by decide)
  have n2 := hE.n 3 2 (by decide) (by decide) (by decide)
  generalize b 0 = a0 at *
  generalize b 1 = a1 at *
  generalize b 2 = a2 at *
  generalize b 3 = a3 at *
  go_enter Tryd.func38, Tryd.ntmps38
  go_wp2_with fail
  refine (is_other a3 a0 c3 c0 t3 t0 _ n0 H3.out H0.out).mono ?_
  rintro e w' ⟨rfl, rfl⟩
  go_wp2_with fail
  refine (is_other a3 a1 c3 c1 t3 t1 _ n1 H3.out H1.out).mono ?_
  rintro e w' ⟨rfl, rfl⟩
  go_wp2_with fail
  refine (is_other a3 a2 c3 c2 t3 t2 _ n2 H3.out H2.out).mono ?_
  rintro e w' ⟨rfl, rfl⟩
  go_wp2_with fail
  refine (is_same a3 _).mono ?_
  rintro e w' ⟨rfl, rfl⟩
  go_wp2
  go_ret
  exact ⟨rfl, rfl⟩

set_option maxRecDepth 100000 in
set_option maxHeartbeats 1000000 in
theorem gnumber4 (b : Nat → Addr) (w : World) (hE : EnvG b w) :
    Calls Tryd.prog 38 #[.iface 89 (.pointer (some (b 4)))] w fun e w' => e = .returned (.int .i64 134) ∧ w = w' := by
  have g0 := hE.g0
  have g1 := hE.g1
  have g2 := hE.g2
  have g3 := hE.g3
  have g4 := hE.g4
  obtain ⟨c0, t0, k0⟩ := hE.k 0 (by decide)
  have H0 := Lib.hid k0
  clear k0
  obtain ⟨c1, t1, k1⟩ := hE.k 1 (by decide)
  have H1 := Lib.hid k1
  clear k1
  obtain ⟨c2, t2, k2⟩ := hE.k 2 (by decide)
  have H2 := Lib.hid k2
  clear k2
  obtain ⟨c3, t3, k3⟩ := hE.k 3 (by decide)
  have H3 := Lib.hid k3
  clear k3
  obtain ⟨c4, t4, k4⟩ := hE.k 4 (by decide)
  have H4 := Lib.hid k4
  clear k4
  have n0 := hE.n 4 0 (by decide) (by decide) (by decide)
  have n1 := hE.n 4 1 (by decide) (by decide) (by decide)
  have n2 := hE.n 4 2 (by decide) (by decide) (by decide)
  have n3 := hE.n 4 3 (by decide) (by decide) (by decide)
  generalize b 0 = a0 at *
  generalize b 1 = a1 at *
  generalize b 2 = a2 at *
  generalize b 3 = a3 at *
  generalize b 4 = a4 at *
  go_enter Tryd.func38, Tryd.ntmps38
  go_wp2_with fail
  refine (is_other a4 a0 c4 c0 t4 t0 _ n0 H4.out H0.out).mono ?_
  rintro e w' ⟨rfl, rfl⟩
  go_wp2_with fail
  refine (is_other a4 a1 c4 c1 t4 t1 _ n1 H4.out H1.out).mono ?_
  rintro e w' ⟨rfl, rfl⟩
  go_wp2_with fail
  refine (is_other a4 a2 c4 c2 t4 t2 _ n2 H4.out H2.out).mono ?_
  rintro e w' ⟨rfl, rfl⟩
  go_wp2_with fail
  refine (is_other a4 a3 c4 c3 t4 t3 _ n3 H4.out H3.out).mono ?_
  rintro e w' ⟨rfl, rfl⟩
  go_wp2_with fail
  refine (is_same a4 _).mono ?_
  rintro e w' ⟨rfl, rfl⟩
  go_wp2
  go_ret
  exact ⟨rfl, rfl⟩

set_option maxRecDepth 100000 in
set_option maxHeartbeats 1000000 in
theorem gnumber5 (b : Nat → Addr) (w : World) (hE : EnvG b w) :
    Calls Tryd.prog 38 #[.iface 89 (.pointer (some (b 5)))] w fun e w' => e = .returned (.int .i64 135) ∧ w = w' := by
  have g0 := hE.g0
  have g1 := hE.g1
  have g2 := hE.g2
  have g3 := hE.g3
  have g4 := hE.g4
  have g5 := hE.g5
  obtain ⟨c0, t0, k0⟩ := hE.k 0 (by decide)
  have H0 := Lib.hid k0
  clear k0
  obtain ⟨c1, t1, k1⟩ := hE.k 1 (by decide)
  have H1 := Lib.hid k1
  clear k1
  obtain ⟨c2, t2, k2⟩ := hE.k 2 (by decide)
  have H2 := Lib.hid k2
  clear k2
  obtain ⟨c3, t3, k3⟩ := hE.k 3 (by decide)
  have H3 := Lib.hid k3
  clear k3
  obtain ⟨c4, t4, k4⟩ := hE.k 4 (by decide)
  have H4 := Lib.hid k4
  clear k4
  obtain ⟨c5, t5, k5⟩ := hE.k 5 (by decide)
  have H5 := Lib.hid k5
  clear k5
  have n0 := hE.n 5 0 (by decide) (by decide) (by decide)
  have n1 := hE.n 5 1 (by decide) (by decide) (by decide)
  have n2 := hE.n 5 2 (by decide) (by decide) (by decide)
  have n3 := hE.n 5 3 (by decide) (by decide) (by decide)
  have n4 := hE.n 5 4 (by decide) (by decide) (by decide)
  generalize b 0 = a0 at *
  generalize b 1 = a1 at *
  generalize b 2 = a2 at *
  generalize b 3 = a3 at *
  generalize b 4 = a4 at *
  generalize b 5 = a5 at *
  go_enter Tryd.func38, Tryd.ntmps38
  go_wp2_with fail
  refine (is_other a5 a0 c5 c0 t5 t0 _ n0 H5.out H0.out).mono ?_
  rintro e w' ⟨rfl, rfl⟩
  go_wp2_with fail
  refine (is_other a5 a1 c5 c1 t5 t1 _ n1 H5.out H1.out).mono ?_
  rintro e w' ⟨rfl, rfl⟩
  go_wp2_with fail
  refine (is_other a5 a2 c5 c2 t5 t2 _ n2 H5.out H2.out).mono ?_
  rintro e w' ⟨rfl, rfl⟩
  go_wp2_with fail
  refine (is_other a5 a3 c5 c3 t5 t3 _ n3 H5.out H3.out).mono ?_
  rintro e w' ⟨rfl, rfl⟩
  go_wp2_with fail
  refine (is_other a5 a4 c5 c4 t5 t4 _ n4 H5.out H4.out).mono ?_
  rintro e w' ⟨rfl, rfl⟩
  go_wp2_with fail
  refine (is_same a5 _).mono ?_
  rintro e w' ⟨rfl, rfl⟩
  go_wp2
  go_ret
  exact ⟨rfl, rfl⟩

set_option maxRecDepth 100000 in
set_option maxHeartbeats 1000000 in
theorem gnumber6 (b : Nat → Addr) (w : World) (hE : EnvG b w) :
    Calls Tryd.prog 38 #[.iface 89 (.pointer (some (b 6)))] w fun e w' => e = .returned (.int .i64 136) ∧ w = w' := by
  have g0 := hE.g0
  have g1 := hE.g1
  have g2 := hE.g2
  have g3 := hE.g3
  have g4 := hE.g4
  have g5 := hE.g5
  have g6 := hE.g6
  obtain ⟨c0, t0, k0⟩ := hE.k 0 (by decide)
  have H0 := Lib.hid k0
  clear k0
  obtain ⟨c1, t1, k1⟩ := hE.k 1 (by decide)
  have H1 := Lib.hid k1
  clear k1
  obtain ⟨c2, t2, k2⟩ := hE.k 2 (by decide)
  have H2 := Lib.hid k2
  clear k2
  obtain ⟨c3, t3, k3⟩ := hE.k 3 (by decide)
  have H3 := Lib.hid k3
  clear k3
  obtain ⟨c4, t4, k4⟩ := hE.k 4 (by decide)
  have H4 := Lib.hid k4
  clear k4
  obtain ⟨c5, t5, k5⟩ := hE.k 5 (by decide)
  have H5 := Lib.hid k5
  clear k5
  obtain ⟨c6, t6, k6⟩ := hE.k 6 (by decide)
  have H6 := Lib.hid k6
  clear k6
  have n0 := hE.n 6 0 (by decide) (by decide) (by decide)
  have n1 := hE.n 6 1 (by decide) (by decide) (by decide)
  have n2 := hE.n 6 2 (by decide) (by decide) (by decide)
  have n3 := hE.n 6 3 (by decide) (by decide) (by decide)
  have n4 := hE.n 6 4 (by decide) (by decide) (by decide)
  have n5 := hE.n 6 5 (by decide) (by decide) (by decide)
  generalize b 0 = a0 at *
  generalize b 1 = a1 at *
  generalize b 2 = a2 at *
  generalize b 3 = a3 at *
  generalize b 4 = a4 at *
  generalize b 5 = a5 at *
  generalize b 6 = a6 at *
  go_enter Tryd.func38, Tryd.ntmps38
  go_wp2_with fail
  refine (is_other a6 a0 c6 c0 t6 t0 _ n0 H6.out H0.out).mono ?_
  rintro e w' ⟨rfl, rfl⟩
  go_wp2_with fail
  refine (is_other a6 a1 c6 c1 t6 t1 _ n1 H6.out H1.out).mono ?_
  rintro e w' ⟨rfl, rfl⟩
  go_wp2_with fail
  refine (is_other a6 a2 c6 c2 t6 t2 _ n2 H6.out H2.out).mono ?_
  rintro e w' ⟨rfl, rfl⟩
  go_wp2_with fail
  refine (is_other a6 a3 c6 c3 t6 t3 _ n3 H6.out H3.out).mono ?_
  rintro e w' ⟨rfl, rfl⟩
  go_wp2_with fail
  refine (is_other a6 a4 c6 c4 t6 t4 _ n4 H6.out H4.out).mono ?_
  rintro e w' ⟨rfl, rfl⟩
  go_wp2_with fail
  refine (is_other a6 a5 c6 c5 t6 t5 _ n5 H6.out H5.out).mono ?_
  rintro e w' ⟨rfl, rfl⟩
  go_wp2_with fail
  refine (is_same a6 _).mono ?_
  rintro e w' ⟨rfl, rfl⟩
  go_wp2
  go_ret
  exact ⟨rfl, rfl⟩

set_option maxRecDepth 100000 in
set_option maxHeartbeats 1000000 in
theorem gnumber7 (b : Nat → Addr) (w : World) (hE : EnvG b w) :
    Calls Tryd.prog 38 #[.iface 89 (.pointer (some (b 7)))] w fun e w' => e = .returned (.int .i64 2) ∧ w = w' := by
  have g0 := hE.g0
  have g1 := hE.g1
  have g2 := hE.g2
  have g3 := hE.g3
  have g4 := hE.g4
  have g5 := hE.g5
  have g6 := hE.g6
  obtain ⟨c0, t0, k0⟩ := hE.k 0 (by decide)
  have H0 := Lib.hid k0
  clear k0
  obtain ⟨c1, t1, k1⟩ := hE.k 1 (by decide)
  have H1 := Lib.hid k1
  clear k1
  obtain ⟨c2, t2, k2⟩ := hE.k 2 (by decide)
  have H2 := Lib.hid k2
  clear k2
  obtain ⟨c3, t3, k3⟩ := hE.k 3 (by decide)
  have H3 := Lib.hid k3
  clear k3
  obtain ⟨c4, t4, k4⟩ := hE.k 4 (by decide)
  have H4 := Lib.hid k4
  clear k4
  obtain ⟨c5, t5, k5⟩ := hE.k 5 (by decide)
  have H5 := Lib.hid k5
  clear k5
  obtain ⟨c6, t6, k6⟩ := hE.k 6 (by decide)
  have H6 := Lib.hid k6
  clear k6
  obtain ⟨c7, t7, k7⟩ := hE.k 7 (by decide)
  have H7 := Lib.hid k7
  clear k7
  have n0 := hE.n 7 0 (by decide) (by decide) (by decide)
  have n1 := hE.n 7 1 (by decide) (by decide) (by decide)
  have n2 := hE.n 7 2 (by decide) (by decide) (by decide)
  have n3 := hE.n 7 3 (by decide) (by decide) (by decide)
  have n4 := hE.n 7 4 (by decide) (by decide) (by decide)
  have n5 := hE.n 7 5 (by decide) (by decide) (by decide)
  have n6 := hE.n 7 6 (by decide) (by decide) (by decide)
  generalize b 0 = a0 at *
  generalize b 1 = a1 at *
  generalize b 2 = a2 at *
  generalize b 3 = a3 at *
  generalize b 4 = a4 at *
  generalize b 5 = a5 at *
  generalize b 6 = a6 at *
  generalize b 7 = a7 at *
  go_enter Tryd.func38, Tryd.ntmps38
  go_wp2_with fail
  refine (is_other a7 a0 c7 c0 t7 t0 _ n0 H7.out H0.out).mono ?_
  rintro e w' ⟨rfl, rfl⟩
  go_wp2_with fail
  refine (is_other a7 a1 c7 c1 t7 t1 _ n1 H7.out H1.out).mono ?_
  rintro e w' ⟨rfl, rfl⟩
  go_wp2_with fail
  refine (is_other a7 a2 c7 c2 t7 t2 _ n2 H7.out H2.out).mono ?_
  rintro e w' ⟨rfl, rfl⟩
  go_wp2_with fail
  refine (is_other a7 a3 c7 c3 t7 t3 _ n3 H7.out H3.out).mono ?_
  rintro e w' ⟨rfl, rfl⟩
  go_wp2_with fail
  refine (is_other a7 a4 c7 c4 t7 t4 _ n4 H7.out H4.out).mono ?_
  rintro e w' ⟨rfl, rfl⟩
  go_wp2_with fail
  refine (is_other a7 a5 c7 c5 t7 t5 _ n5 H7.out H5.out).mono ?_
  rintro e w' ⟨rfl, rfl⟩
  go_wp2_with fail
  refine (is_other a7 a6 c7 c6 t7 t6 _ n6 H7.out H6.out).mono ?_
  rintro e w' ⟨rfl, rfl⟩
  go_wp2
  go_ret
  exact ⟨rfl, rfl⟩

theorem gnumber_any (b : Nat → Addr) (i : Nat) (hi : i < 8) (w : World) (hE : EnvG b w) :
    Calls Tryd.prog 38 #[.iface 89 (.pointer (some (b i)))] w fun e w' => e = .returned (.int .i64 (codeG i)) ∧ w = w' := by
  match i, hi with
  | 0, _ => exact gnumber0 b w hE
  | 1, _ => exact gnumber1 b w hE
  | 2, _ => exact gnumber2 b w hE
  | 3, _ => exact gnumber3 b w hE
  | 4, _ => exact gnumber4 b w hE
  | 5, _ => exact gnumber5 b w hE
  | 6, _ => exact gnumber6 b w hE
  | 7, _ => exact gnumber7 b w hE

set_option maxHeartbeats 400000 in
theorem telli_ok (n : Int) (w : World) :
    Calls Tryd.prog 25 #[.int .i64 n, .nilIface] w fun e w' => e = .returned (.tuple #[.int .i64 n, .int .i64 0]) ∧ Below w.heap.size w w' := by
  go_enter Tryd.func25, Tryd.ntmps25
  go_wp2
  go_ret2
  exact ⟨rfl, Below.refl _ _⟩

set_option maxHeartbeats 400000 in
theorem telli_bad (b : Nat → Addr) (i : Nat) (hi : i < 8) (n : Int) (w : World) (hE : EnvG b w) :
    Calls Tryd.prog 25 #[.int .i64 n, .iface 89 (.pointer (some (b i)))] w fun e w' => e = .returned (.tuple #[.int .i64 0, .int .i64 (codeG i)]) ∧ Below w.heap.size w w' := by
  generalize hb : b i = a
  go_enter Tryd.func25, Tryd.ntmps25
  go_wp2_with fail
  rw [← hb]
  refine (gnumber_any b i hi _ hE).mono ?_
  rintro e w' ⟨rfl, rfl⟩
  go_wp2
  go_ret2
  exact ⟨rfl, Below.refl _ _⟩
end Go.Proofs.YtlddkoblicnepaaDoor
