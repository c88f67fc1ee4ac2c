/- What package disk stands on of package nums: Cut; and the document's Cut: texts of stage 1 (NumsA, Errs, NumsB, Clone, NumsK, NumsCut), picked by wip/tools/pick.py. -/
import Derived.Test.YtpafpmefhfmndaaDoorChecked
import Derived.WalkKit
import Derived.WalkSpells
import Derived.WalkLawsBesides
import Derived.Lib.Hide
import Derived.Laws.ResultCell
import Derived.BigQuiet
import Derived.Deep.QuietTactic
import Derived.LaidEql
import Derived.Stop.Asserts
import Derived.RowKitTokens
import Derived.Deep.RegionWith
import Derived.Lib.Strings
import Derived.Lib.Walk
import Derived.Lib.BufferWrite
import Derived.Lib.UnsafeStr
import Derived.Laws.MakeOwn
set_option linter.unusedVariables false
set_option linter.unusedSimpArgs false
namespace Go.Proofs.YtpafpmefhfmndaaDoor
open Go.RowKit Go.Extern.Stop Go.Stop Go.Extern

theorem u8_info : (Tryd.prog.info? 5).map (fun i => (i.zero, i.size, i.bytes)) = some (some (.int .u8 0), 1, 1) := by kernel_rfl

set_option maxHeartbeats 400000 in
theorem bads_any (v : Value) (w : World) :
    Calls Tryd.prog 61 #[.iface 139 v] w fun e w' => e = .returned (.agg #[.string ⟨#[]⟩, .iface 139 v]) ∧ w.alloc (.cells #[.string ⟨#[]⟩, .iface 139 v] 104) = w' := by
  go_enter Tryd.func61, Tryd.ntmps61
  go_wp2
  exact bodyPost_ret (v := .agg #[.string ⟨#[]⟩, .iface 139 v]) (by simp [results, Tryd.results61, go_sem]) rfl ⟨rfl, rfl⟩

set_option maxHeartbeats 400000 in
theorem goods_any (s : ByteArray) (w : World) :
    Calls Tryd.prog 62 #[.string s] w fun e w' => e = .returned (.agg #[.string s, .nilIface]) ∧ w.alloc (.cells #[.string s, .nilIface] 104) = w' := by
  go_enter Tryd.func62, Tryd.ntmps62
  go_wp2
  exact bodyPost_ret (v := .agg #[.string s, .nilIface]) (by simp [results, Tryd.results62, go_sem]) rfl ⟨rfl, rfl⟩

set_option maxHeartbeats 400000 in
theorem badi_any (v : Value) (w : World) :
    Calls Tryd.prog 66 #[.iface 139 v] w fun e w' => e = .returned (.agg #[.int .i64 0, .iface 139 v]) ∧ w.alloc (.cells #[.int .i64 0, .iface 139 v] 124) = w' := by
  go_enter Tryd.func66, Tryd.ntmps66
  go_wp2
  exact bodyPost_ret (v := .agg #[.int .i64 0, .iface 139 v]) (by simp [results, Tryd.results66, go_sem]) rfl ⟨rfl, rfl⟩

set_option maxHeartbeats 400000 in
theorem goodi_any (n : Int) (w : World) :
    Calls Tryd.prog 67 #[.int .i64 n] w fun e w' => e = .returned (.agg #[.int .i64 n, .nilIface]) ∧ w.alloc (.cells #[.int .i64 n, .nilIface] 124) = w' := by
  go_enter Tryd.func67, Tryd.ntmps67
  go_wp2
  exact bodyPost_ret (v := .agg #[.int .i64 n, .nilIface]) (by simp [results, Tryd.results67, go_sem]) rfl ⟨rfl, rfl⟩

theorem isTypeOf (v : Value) (w : World) : (Extern.ReflectliteType.typeOf #[.iface 139 v]).run Tryd.prog w = .ok (.iface 111 (.agg #[.pointer (some ⟨4, 139, none⟩)])) w := by kernel_rfl

theorem isComparable (w : World) : (callFunc 95 #[.agg #[.pointer (some ⟨4, 139, none⟩)]]).run Tryd.prog w = .ok (Next.value (.bool true)) w := by
  rw [run_callFunc_extern (e := Extern.ReflectliteType.method fun t => do Rtype.noPackHeld "Comparable" t; pure (.bool (← typeInfo t).comparable)) Tryd.func95 (by kernel_rfl) (by kernel_rfl) (by kernel_rfl) (by kernel_rfl)]
  kernel_rfl

theorem isMethodComparable (n : Nat) (v : Value) (w : World) : (Go.method (n + 1) 111 v "Comparable").run Tryd.prog w = .ok (95, v) w := by kernel_rfl

theorem isComp : (Tryd.prog.info? 139).map (·.comparable) = some true := by kernel_rfl

theorem isSize : (Tryd.prog.info? 159).map (·.size) = some 1 := by kernel_rfl

theorem noIsE (v : Value) (xT : TypeId) (w : World) : (Instr.typeAssert (.iface 139 v) xT 136 true).run Tryd.prog w = .ok (.tuple #[.nilIface, .bool false]) w := run_typeAssert_lacksB Tryd.underlying136 (by kernel_rfl) (by kernel_rfl) v xT w

theorem noUnwrapE (v : Value) (xT : TypeId) (w : World) : (Instr.typeAssert (.iface 139 v) xT 119 true).run Tryd.prog w = .ok (.tuple #[.nilIface, .bool false]) w := run_typeAssert_lacksB Tryd.underlying119 (by kernel_rfl) (by kernel_rfl) v xT w

theorem noUnwrapsE (v : Value) (xT : TypeId) (w : World) : (Instr.typeAssert (.iface 139 v) xT 120 true).run Tryd.prog w = .ok (.tuple #[.nilIface, .bool false]) w := run_typeAssert_lacksB Tryd.underlying120 (by kernel_rfl) (by kernel_rfl) v xT w

set_option maxRecDepth 100000 in
set_option maxHeartbeats 1000000 in
/-- errors.Is(x, x), x a pointer to an errors.errorString. -/
theorem is_same (a : Addr) (w : World) :
    Calls Tryd.prog 65 #[.iface 139 (.pointer (some a)), .iface 139 (.pointer (some a))] w fun e w' => e = .returned (.bool true) ∧ w = w' := by
  obtain ⟨i, hi, hcmp⟩ := Option.map_eq_some_iff.1 isComp
  obtain ⟨j, hj, hjs⟩ := Option.map_eq_some_iff.1 isSize
  have h8 := @run_callFunc_extern Tryd.prog 56 _ Extern.ReflectliteType.typeOf Tryd.func56 (by kernel_rfl) (by kernel_rfl) (by kernel_rfl) (by kernel_rfl)
  have tT := isTypeOf
  have cT := isComparable
  have mR := isMethodComparable
  have heq := run_eql_iface_ptr_same (P := Tryd.prog) w a Tryd.underlying55 Tryd.underlying139 hi hcmp hj
  go_enter Tryd.func65, Tryd.ntmps65
  go_wp2
  refine wp_loop_rounds 1 ?_
  rw [rounds_succ]
  go_wp2
  go_ret
  exact ⟨rfl, rfl⟩

set_option maxRecDepth 100000 in
set_option maxHeartbeats 1000000 in
/-- errors.Is(x, y), two different pointers to errors.errorString. -/
theorem is_other (a b : Addr) (ca cb : Array Value) (ta tb : TypeId) (w : World) (hne : a ≠ b) (ha : w.heap[a.block]? = some (.cells ca ta (0, 0))) (hb : w.heap[b.block]? = some (.cells cb tb (0, 0))) :
    Calls Tryd.prog 65 #[.iface 139 (.pointer (some a)), .iface 139 (.pointer (some b))] w fun e w' => e = .returned (.bool false) ∧ w = w' := by
  obtain ⟨i, hi, hcmp⟩ := Option.map_eq_some_iff.1 isComp
  obtain ⟨j, hj, hjs⟩ := Option.map_eq_some_iff.1 isSize
  have h8 := @run_callFunc_extern Tryd.prog 56 _ Extern.ReflectliteType.typeOf Tryd.func56 (by kernel_rfl) (by kernel_rfl) (by kernel_rfl) (by kernel_rfl)
  have tT := isTypeOf
  have cT := isComparable
  have mR := isMethodComparable
  have nE := noIsE
  have uE := noUnwrapE
  have vE := noUnwrapsE
  have heq := run_eql_iface_ptr_other (P := Tryd.prog) w Tryd.underlying55 Tryd.underlying139 hi hcmp hj (by rw [hjs]; decide) hne ha hb
  go_enter Tryd.func65, Tryd.ntmps65
  go_wp2
  refine wp_loop_rounds 1 ?_
  rw [rounds_succ]
  go_wp2
  go_ret
  exact ⟨rfl, rfl⟩

/-- The three sentinels of package nums lie as the program's text lays them: three pointers, no two the same. -/
structure Env (a0 a1 a2 : Addr) (w : World) : Prop where
  g0 : w.cell? ⟨1, 0, none⟩ = some (.iface 139 (.pointer (some a0)))
  g1 : w.cell? ⟨2, 0, none⟩ = some (.iface 139 (.pointer (some a1)))
  g2 : w.cell? ⟨3, 0, none⟩ = some (.iface 139 (.pointer (some a2)))
  b0 : ∃ c t, w.heap[a0.block]? = some (.cells c t (0, 0))
  b1 : ∃ c t, w.heap[a1.block]? = some (.cells c t (0, 0))
  b2 : ∃ c t, w.heap[a2.block]? = some (.cells c t (0, 0))
  n01 : a0 ≠ a1
  n02 : a0 ≠ a2
  n12 : a1 ≠ a2

theorem lt_of_heap {w : World} {k : Nat} {x : Obj} (h : w.heap[k]? = some x) : k < w.heap.size := by
  rcases Nat.lt_or_ge k w.heap.size with h' | h'
  · exact h'
  · simp [Array.getElem?_eq_none h'] at h

theorem Env.below {a0 a1 a2 : Addr} {w w' : World} (h : Env a0 a1 a2 w) (hb : Below w.heap.size w w') : Env a0 a1 a2 w' := by
  have k : ∀ {a : Addr}, (∃ c t, w.heap[a.block]? = some (.cells c t (0, 0))) → ∃ c t, w'.heap[a.block]? = some (.cells c t (0, 0)) := fun ⟨c, t, e⟩ => ⟨c, t, (hb.block _ (lt_of_heap e)).trans e⟩
  exact ⟨(hb.cell (World.block_lt_of_cell? _ _ h.g0)).trans h.g0, (hb.cell (World.block_lt_of_cell? _ _ h.g1)).trans h.g1, (hb.cell (World.block_lt_of_cell? _ _ h.g2)).trans h.g2, k h.b0, k h.b1, k h.b2, h.n01, h.n02, h.n12⟩

set_option maxRecDepth 100000 in
set_option maxHeartbeats 1000000 in
theorem number0 (a0 a1 a2 : Addr) (w : World) (hE : Env a0 a1 a2 w) :
    Calls Tryd.prog 59 #[.iface 139 (.pointer (some a0))] w fun e w' => e = .returned (.int .i64 2) ∧ w = w' := by
  have g0 := hE.g0
  go_enter Tryd.func59, Tryd.ntmps59
  go_wp2_with (go_at_call 65; refine (is_same a0 _).mono ?_; rintro e w' ⟨rfl, rfl⟩)
  go_ret
  exact ⟨rfl, rfl⟩

set_option maxRecDepth 100000 in
set_option maxHeartbeats 1000000 in
theorem number1 (a0 a1 a2 : Addr) (w : World) (hE : Env a0 a1 a2 w) :
    Calls Tryd.prog 59 #[.iface 139 (.pointer (some a1))] w fun e w' => e = .returned (.int .i64 10) ∧ w = w' := by
  have g0 := hE.g0
  have g1 := hE.g1
  obtain ⟨c0, t0, b0⟩ := hE.b0
  obtain ⟨c1, t1, b1⟩ := hE.b1
  have H0 := Lib.hid b0
  have H1 := Lib.hid b1
  clear b0 b1
  go_enter Tryd.func59, Tryd.ntmps59
  go_wp2_with fail
  refine (is_other a1 a0 c1 c0 t1 t0 _ (Ne.symm hE.n01) H1.out H0.out).mono ?_
  rintro e w' ⟨rfl, rfl⟩
  go_wp2_with fail
  refine (is_same a1 _).mono ?_
  rintro e w' ⟨rfl, rfl⟩
  go_wp2
  go_ret
  exact ⟨rfl, rfl⟩

set_option maxRecDepth 100000 in
set_option maxHeartbeats 1000000 in
theorem number2 (a0 a1 a2 : Addr) (w : World) (hE : Env a0 a1 a2 w) :
    Calls Tryd.prog 59 #[.iface 139 (.pointer (some a2))] w fun e w' => e = .returned (.int .i64 11) ∧ w = w' := by
  have g0 := hE.g0
  have g1 := hE.g1
  obtain ⟨c0, t0, b0⟩ := hE.b0
  obtain ⟨c1, t1, b1⟩ := hE.b1
  obtain ⟨c2, t2, b2⟩ := hE.b2
  have H0 := Lib.hid b0
  have H1 := Lib.hid b1
  have H2 := Lib.hid b2
  clear b0 b1 b2
  go_enter Tryd.func59, Tryd.ntmps59
  go_wp2_with fail
  refine (is_other a2 a0 c2 c0 t2 t0 _ (Ne.symm hE.n02) H2.out H0.out).mono ?_
  rintro e w' ⟨rfl, rfl⟩
  go_wp2_with fail
  refine (is_other a2 a1 c2 c1 t2 t1 _ (Ne.symm hE.n12) H2.out H1.out).mono ?_
  rintro e w' ⟨rfl, rfl⟩
  go_wp2
  go_ret
  exact ⟨rfl, rfl⟩

/-- The sentinel at a is the one that stands for the error's number k. -/
def Sent (a0 a1 a2 a : Addr) (k : Int) : Prop := (a = a0 ∧ k = 2) ∨ (a = a1 ∧ k = 10) ∨ (a = a2 ∧ k = 11)

theorem number_any (a0 a1 a2 a : Addr) (k : Int) (w : World) (hE : Env a0 a1 a2 w) (hs : Sent a0 a1 a2 a k) :
    Calls Tryd.prog 59 #[.iface 139 (.pointer (some a))] w fun e w' => e = .returned (.int .i64 k) ∧ w = w' := by
  rcases hs with ⟨rfl, rfl⟩ | ⟨rfl, rfl⟩ | ⟨rfl, rfl⟩
  · exact number0 _ _ _ _ hE
  · exact number1 _ _ _ _ hE
  · exact number2 _ _ _ _ hE

set_option maxHeartbeats 400000 in
theorem tells_ok (s : ByteArray) (w : World) :
    Calls Tryd.prog 52 #[.agg #[.string s, .nilIface]] w fun e w' => e = .returned (.tuple #[.string s, .int .i64 0]) ∧ Below w.heap.size w w' := by
  go_enter Tryd.func52, Tryd.ntmps52
  go_wp2
  go_ret2
  exact ⟨rfl, (Below.refl _ _).alloc (Nat.le_refl _) _⟩

set_option maxHeartbeats 400000 in
theorem tells_bad (a0 a1 a2 a : Addr) (k : Int) (s : ByteArray) (w : World) (hE : Env a0 a1 a2 w) (hs : Sent a0 a1 a2 a k) :
    Calls Tryd.prog 52 #[.agg #[.string s, .iface 139 (.pointer (some a))]] w fun e w' => e = .returned (.tuple #[.string ⟨#[]⟩, .int .i64 k]) ∧ Below w.heap.size w w' := by
  go_enter Tryd.func52, Tryd.ntmps52
  go_wp2_with fail
  refine (number_any a0 a1 a2 a k _ (hE.below ((Below.refl _ _).alloc (Nat.le_refl _) _)) hs).mono ?_
  rintro e w' ⟨rfl, rfl⟩
  go_wp2
  go_ret2
  exact ⟨rfl, (Below.refl _ _).alloc (Nat.le_refl _) _⟩

theorem bcell {W w1 : World} (hb : Below W.heap.size W w1) : (∀ b o, b < W.heap.size → w1.cell? ⟨b, o, none⟩ = W.cell? ⟨b, o, none⟩) ∧ (∀ b o, b < W.heap.size → w1.frozen? ⟨b, o, none⟩ = W.frozen? ⟨b, o, none⟩) :=
  ⟨fun b o h => hb.cell (p := ⟨b, o, none⟩) h, fun b o h => hb.frozen (p := ⟨b, o, none⟩) h⟩

theorem two_cells {w : World} {b : Nat} {x y : Value} (c0 : w.cell? ⟨b, 0, none⟩ = some x) (c1 : w.cell? ⟨b, 1, none⟩ = some y) :
    (∀ u, (w.setCell ⟨b, 0, none⟩ u).cell? ⟨b, 0, none⟩ = some u) ∧ (∀ u v, ((w.setCell ⟨b, 0, none⟩ u).setCell ⟨b, 1, none⟩ v).cell? ⟨b, 1, none⟩ = some v) :=
  ⟨fun u => World.cell?_setCell_same' _ _ _ (by rw [c0]; rfl), fun u v => World.cell?_setCell_same' _ _ _ (by simp [go_sem, c1])⟩

set_option maxRecDepth 100000 in
set_option maxHeartbeats 1000000 in
theorem walk_ok (s : ByteArray) (at0 n : Int) (b : Nat) (w : World) (hs : s.size ≤ maxLen) (hb : b < w.heap.size) (c0 : w.cell? ⟨b, 0, none⟩ = some (.int .i64 at0)) (c1 : w.cell? ⟨b, 1, none⟩ = some (.int .i64 n))
    (h0 : 0 ≤ at0) (h1 : at0 ≤ s.size) (h2 : 0 ≤ n) (h3 : n ≤ s.size - at0) :
    Calls Tryd.prog 60 #[.string s, .slice (some ⟨b, 0, none⟩) 2 2] w fun e w' => e = .returned (.agg #[.int .i64 (at0 + n), .nilIface]) ∧ Below w.heap.size w w' := by
  unfold maxLen at hs
  go_enter Tryd.func60, Tryd.ntmps60
  go_wp2
  refine wp_loop_rounds 3 ?_
  rw [rounds_succ]
  go_wp2
  rw [rounds_succ]
  go_wp2
  rw [rounds_succ]
  go_wp2_with (go_at_call 67; refine (goodi_any _ _).mono ?_; rintro e w' ⟨rfl, rfl⟩)
  exact bodyPost_ret (v := .agg #[.int .i64 (at0 + n), .nilIface]) (by simp [results, Tryd.results60, go_sem]) rfl ⟨rfl, ((Below.refl _ _).alloc (Nat.le_refl _) _).alloc (by simp) _⟩

set_option maxRecDepth 100000 in
set_option maxHeartbeats 1000000 in
theorem walk_bad0 (a0 a1 a2 : Addr) (s : ByteArray) (at0 n : Int) (b : Nat) (w : World) (hE : Env a0 a1 a2 w) (hs : s.size ≤ maxLen) (hb : b < w.heap.size) (c0 : w.cell? ⟨b, 0, none⟩ = some (.int .i64 at0)) (h0 : at0 < 0 ∨ s.size < at0) :
    Calls Tryd.prog 60 #[.string s, .slice (some ⟨b, 0, none⟩) 2 2] w fun e w' => e = .returned (.agg #[.int .i64 0, .iface 139 (.pointer (some a2))]) ∧ Below w.heap.size w w' := by
  unfold maxLen at hs
  have g2 := hE.g2
  have hz := World.block_lt_of_cell? _ _ g2
  rcases h0 with h0 | h0
  · have h0' : decide (at0 < 0) = true := by simpa using h0
    go_enter Tryd.func60, Tryd.ntmps60
    go_wp2
    refine wp_loop_rounds 1 ?_
    rw [rounds_succ]
    go_wp2_with (go_at_call 66; refine (badi_any _ _).mono ?_; rintro e w' ⟨rfl, rfl⟩)
    exact bodyPost_ret (v := .agg #[.int .i64 0, .iface 139 (.pointer (some a2))]) (by simp [results, Tryd.results60, go_sem]) rfl ⟨rfl, ((Below.refl _ _).alloc (Nat.le_refl _) _).alloc (by simp) _⟩
  · have h0' : decide (at0 < 0) = false := by simp; omega
    have h0'' : ¬ at0 < 0 := by omega
    have h1 : 0 ≤ at0 := by omega
    go_enter Tryd.func60, Tryd.ntmps60
    go_wp2
    refine wp_loop_rounds 1 ?_
    rw [rounds_succ]
    go_wp2_with (go_at_call 66; refine (badi_any _ _).mono ?_; rintro e w' ⟨rfl, rfl⟩)
    exact bodyPost_ret (v := .agg #[.int .i64 0, .iface 139 (.pointer (some a2))]) (by simp [results, Tryd.results60, go_sem]) rfl ⟨rfl, ((Below.refl _ _).alloc (Nat.le_refl _) _).alloc (by simp) _⟩

set_option maxRecDepth 100000 in
set_option maxHeartbeats 1000000 in
theorem walk_bad1 (a0 a1 a2 : Addr) (s : ByteArray) (at0 n : Int) (b : Nat) (w : World) (hE : Env a0 a1 a2 w) (hs : s.size ≤ maxLen) (hb : b < w.heap.size) (c0 : w.cell? ⟨b, 0, none⟩ = some (.int .i64 at0)) (c1 : w.cell? ⟨b, 1, none⟩ = some (.int .i64 n))
    (h0 : 0 ≤ at0) (h1 : at0 ≤ s.size) (h2 : n < 0 ∨ s.size - at0 < n) :
    Calls Tryd.prog 60 #[.string s, .slice (some ⟨b, 0, none⟩) 2 2] w fun e w' => e = .returned (.agg #[.int .i64 0, .iface 139 (.pointer (some a2))]) ∧ Below w.heap.size w w' := by
  unfold maxLen at hs
  have g2 := hE.g2
  have hz := World.block_lt_of_cell? _ _ g2
  rcases h2 with h2 | h2
  · have h0' : decide (n < 0) = true := by simpa using h2
    go_enter Tryd.func60, Tryd.ntmps60
    go_wp2
    refine wp_loop_rounds 2 ?_
    rw [rounds_succ]
    go_wp2
    rw [rounds_succ]
    go_wp2_with (go_at_call 66; refine (badi_any _ _).mono ?_; rintro e w' ⟨rfl, rfl⟩)
    exact bodyPost_ret (v := .agg #[.int .i64 0, .iface 139 (.pointer (some a2))]) (by simp [results, Tryd.results60, go_sem]) rfl ⟨rfl, ((Below.refl _ _).alloc (Nat.le_refl _) _).alloc (by simp) _⟩
  · have h0'' : ¬ n < 0 := by omega
    go_enter Tryd.func60, Tryd.ntmps60
    go_wp2
    refine wp_loop_rounds 2 ?_
    rw [rounds_succ]
    go_wp2
    rw [rounds_succ]
    go_wp2_with (go_at_call 66; refine (badi_any _ _).mono ?_; rintro e w' ⟨rfl, rfl⟩)
    exact bodyPost_ret (v := .agg #[.int .i64 0, .iface 139 (.pointer (some a2))]) (by simp [results, Tryd.results60, go_sem]) rfl ⟨rfl, ((Below.refl _ _).alloc (Nat.le_refl _) _).alloc (by simp) _⟩

/-- n bytes of s stand at the place at0. -/
def fitsB (s : ByteArray) (at0 n : Int) : Prop := 0 ≤ at0 ∧ 0 ≤ n ∧ at0 + n ≤ s.size

instance (s : ByteArray) (at0 n : Int) : Decidable (fitsB s at0 n) := by unfold fitsB; infer_instance

theorem walk_bad (a0 a1 a2 : Addr) (s : ByteArray) (at0 n : Int) (b : Nat) (w : World) (hE : Env a0 a1 a2 w) (hs : s.size ≤ maxLen) (hb : b < w.heap.size) (c0 : w.cell? ⟨b, 0, none⟩ = some (.int .i64 at0)) (c1 : w.cell? ⟨b, 1, none⟩ = some (.int .i64 n)) (h : ¬ fitsB s at0 n) :
    Calls Tryd.prog 60 #[.string s, .slice (some ⟨b, 0, none⟩) 2 2] w fun e w' => e = .returned (.agg #[.int .i64 0, .iface 139 (.pointer (some a2))]) ∧ Below w.heap.size w w' := by
  unfold fitsB at h
  by_cases h0 : at0 < 0 ∨ s.size < at0
  · exact walk_bad0 a0 a1 a2 s at0 n b w hE hs hb c0 h0
  · exact walk_bad1 a0 a1 a2 s at0 n b w hE hs hb c0 c1 (by omega) (by omega) (by omega)

set_option maxRecDepth 100000 in
set_option maxHeartbeats 1000000 in
theorem piece_ok (s : ByteArray) (at0 n : Int) (w : World) (hs : s.size ≤ maxLen) (h : fitsB s at0 n) :
    Calls Tryd.prog 53 #[.string s, .int .i64 at0, .int .i64 n] w fun e w' => e = .returned (.agg #[.string (s.extract at0.toNat (at0 + n).toNat), .nilIface]) ∧ Below w.heap.size w w' := by
  unfold fitsB at h
  obtain ⟨h0, h1, h2⟩ := h
  have hs' := hs
  unfold maxLen at hs'
  go_enter Tryd.func53, Tryd.ntmps53
  go_wp2_with fail
  refine (walk_ok s at0 n _ _ hs (by simp) (by go_simp) (by go_simp) h0 (by omega) h1 (by omega)).mono ?_
  rintro e w1 ⟨rfl, hb1⟩
  obtain ⟨hc, hf⟩ := bcell hb1
  have hz : w.heap.size + 1 < w1.heap.size := by have := hb1.size; simp at this; omega
  have hz0 : w.heap.size < w1.heap.size := by omega
  go_wp2_with (go_at_call 62; refine (goods_any _ _).mono ?_; rintro e w' ⟨rfl, rfl⟩)
  obtain ⟨q0, q1⟩ := two_cells (w := w1) (b := w.heap.size) (x := .string ⟨#[]⟩) (y := .nilIface) ((hc w.heap.size 0 (by simp; omega)).trans (by go_simp)) ((hc w.heap.size 1 (by simp; omega)).trans (by go_simp))
  refine bodyPost_ret (v := .agg #[.string (s.extract at0.toNat (at0 + n).toNat), .nilIface]) (by simp [results, Tryd.results53, go_sem, hz0, Nat.lt_succ_of_lt hz0, Nat.ne_of_lt hz0, q0, q1]) rfl ⟨rfl, ?_⟩
  exact ((((((Below.refl _ _).alloc (Nat.le_refl _) _).alloc (by simp) _).trans (hb1.mono (by simp; omega))).setCell (by simp) _).setCell (by simp) _).alloc (by simp; omega) _ |>.alloc (by simp; omega) _

set_option maxRecDepth 100000 in
set_option maxHeartbeats 1000000 in
theorem piece_bad (a0 a1 a2 : Addr) (s : ByteArray) (at0 n : Int) (w : World) (hE : Env a0 a1 a2 w) (hs : s.size ≤ maxLen) (h : ¬ fitsB s at0 n) :
    Calls Tryd.prog 53 #[.string s, .int .i64 at0, .int .i64 n] w fun e w' => e = .returned (.agg #[.string ⟨#[]⟩, .iface 139 (.pointer (some a2))]) ∧ Below w.heap.size w w' := by
  have H := Lib.hid h
  clear h
  go_enter Tryd.func53, Tryd.ntmps53
  go_wp2_with fail
  refine (walk_bad a0 a1 a2 s at0 n _ _ (hE.below (((Below.refl _ _).alloc (Nat.le_refl _) _).alloc (by simp) _)) hs (by simp) (by go_simp) (by go_simp) H.out).mono ?_
  rintro e w1 ⟨rfl, hb1⟩
  obtain ⟨hc, hf⟩ := bcell hb1
  have hz : w.heap.size + 1 < w1.heap.size := by have := hb1.size; simp at this; omega
  have hz0 : w.heap.size < w1.heap.size := by omega
  go_wp2_with (go_at_call 61; refine (bads_any _ _).mono ?_; rintro e w' ⟨rfl, rfl⟩)
  obtain ⟨q0, q1⟩ := two_cells (w := w1) (b := w.heap.size) (x := .string ⟨#[]⟩) (y := .nilIface) ((hc w.heap.size 0 (by simp; omega)).trans (by go_simp)) ((hc w.heap.size 1 (by simp; omega)).trans (by go_simp))
  refine bodyPost_ret (v := .agg #[.string ⟨#[]⟩, .iface 139 (.pointer (some a2))]) (by simp [results, Tryd.results53, go_sem, hz0, Nat.lt_succ_of_lt hz0, Nat.ne_of_lt hz0, q0, q1]) rfl ⟨rfl, ?_⟩
  exact ((((((Below.refl _ _).alloc (Nat.le_refl _) _).alloc (by simp) _).trans (hb1.mono (by simp; omega))).setCell (by simp) _).setCell (by simp) _).alloc (by simp; omega) _ |>.alloc (by simp; omega) _

set_option maxHeartbeats 4000000 in
set_option maxRecDepth 100000 in
theorem liteClone_any (s : ByteArray) (w : World) (hlim : s.size ≤ 281474976710656) :
    Calls Tryd.prog 63 #[.string s] w fun e w' => e = .returned (.string s) ∧ Below w.heap.size w w' := by
  by_cases h0 : s.size = 0
  · have hs : s = ⟨#[]⟩ := by
      apply ByteArray.ext
      exact Array.eq_empty_of_size_eq_zero h0
    subst hs
    go_enter Tryd.func63, Tryd.ntmps63
    go_wp2
    go_ret
    exact ⟨rfl, Below.refl _ _⟩
  · obtain ⟨i0, hi, hz0, hz1, hz2⟩ := info_parts u8_info
    have hinfo : (Tryd.prog.info? 5).map (·.size) = some 1 := by rw [hi]; simp [hz1]
    have hco : Tryd.prog.cellsOf 5 = 1 := by simp [Program.cellsOf, hi, hz1]
    obtain ⟨M, hM⟩ : ∃ M, M = madeCells (Value.int .u8 0).cells (((s.size : Nat) : Int).toNat * i0.size) := ⟨_, rfl⟩
    have hMs : M.size = s.size := by rw [hM, size_madeCells, hz1]; simp
    have hmk : ∀ W : World, (Instr.makeSlice 58 (.int .i64 (s.size : Int)) (.int .i64 (s.size : Int))).run Tryd.prog W = .ok (.slice (some ⟨W.heap.size, 0, none⟩) s.size s.size) (W.alloc (.cells M 5)) := fun W => by
      have h := run_make (P := Tryd.prog) W 58 5 i0 (.int .u8 0) Tryd.underlying58 hi hz0 .i64 .i64 (s.size : Int) (s.size : Int) (by omega) (by omega) (by rw [hz2]; omega) (by omega)
      rw [← hM] at h
      simpa using h
    clear hM
    have hcp := Lib.run_copy_row_string (P := Tryd.prog) (w.alloc (.cells M 5)) 58 9 3 5 w.heap.size 0 s.size s.size s M 5 Tryd.underlying58 hinfo (heap_alloc_new w _) (Nat.le_refl _) (by omega)
    obtain ⟨Y, hY⟩ : ∃ Y, Y = (M.toList.take 0 ++ Lib.byteCells s.data.toList ++ M.toList.drop (0 + s.size)).toArray := ⟨_, rfl⟩
    rw [← hY] at hcp
    have hYl : Y.toList = Lib.byteCells s.data.toList := by
      rw [hY, List.toList_toArray, List.take_zero, List.nil_append, List.drop_of_length_le (by rw [Array.length_toList]; omega), List.append_nil]
    have hYs : Y.size = s.size := by rw [← Array.length_toList, hYl, Lib.byteCells_length, ← Lib.size_eq]
    have hgY : ((w.alloc (.cells M 5)).setRow w.heap.size Y).heap[w.heap.size]? = some (.cells Y 5 (0, 0)) := setRow_heap _ _ M _ 5 (0, 0) (heap_alloc_new w _)
    have hne : s.data.toList ≠ [] := fun e => h0 (by rw [Lib.size_eq, e]; rfl)
    have hUS := Lib.run_unsafeString_row (P := Tryd.prog) ((w.alloc (.cells M 5)).setRow w.heap.size Y) 133 3 9 5 Tryd.underlying133 hco w.heap.size Y.size (by unfold World.shape?; rw [hgY]) s.data.toList hne (by rw [← Lib.size_eq]; omega) (by rw [← Lib.size_eq]; omega)
      (fun j x hx => Lib.cells_of_row hgY Y.size j _ (by rw [List.take_of_length_le (by rw [Array.length_toList]; exact Nat.le_refl _), hYl]; simp [Lib.byteCells, hx]))
    rw [← Lib.size_eq] at hUS
    clear hY
    go_enter Tryd.func63, Tryd.ntmps63
    go_wp2
    go_ret
    have hb1 : Below w.heap.size w (w.alloc (.cells M 5)) := (Below.refl _ w).alloc (Nat.le_refl _) _
    have hb2 : Below w.heap.size (w.alloc (.cells M 5)) ((w.alloc (.cells M 5)).setRow w.heap.size Y) := ⟨rfl, rfl, rfl, by simp, fun k hk => setRow_other _ _ _ _ (by omega)⟩
    exact ⟨rfl, Lib.below_freeze (hb1.trans hb2) (p := ⟨w.heap.size, 0, none⟩) (Nat.le_refl _) _⟩

set_option maxHeartbeats 400000 in
theorem clone_any (s : ByteArray) (w : World) (hlim : s.size ≤ 281474976710656) :
    Calls Tryd.prog 54 #[.string s] w fun e w' => e = .returned (.string s) ∧ Below w.heap.size w w' := by
  go_enter Tryd.func54, Tryd.ntmps54
  go_wp2_with fail
  refine (liteClone_any s _ hlim).mono ?_
  rintro e w1 ⟨rfl, hb1⟩
  go_wp2
  go_ret
  exact ⟨rfl, hb1⟩

/-- What Cut answers: the bytes, and the error's number. -/
def cutR (s : ByteArray) (at0 n : Int) : ByteArray × Int := if fitsB s at0 n then (s.extract at0.toNat (at0 + n).toNat, 0) else (⟨#[]⟩, 11)

theorem cutR_ok {s : ByteArray} {at0 n : Int} (h : fitsB s at0 n) : cutR s at0 n = (s.extract at0.toNat (at0 + n).toNat, 0) := if_pos h

theorem cutR_bad {s : ByteArray} {at0 n : Int} (h : ¬ fitsB s at0 n) : cutR s at0 n = (⟨#[]⟩, 11) := if_neg h

theorem extract_le (s : ByteArray) (a b : Nat) : (s.extract a b).size ≤ s.size := by
  rw [ByteArray.size_extract]; omega

set_option maxHeartbeats 400000 in
theorem refCut_any (s : ByteArray) (at0 n : Int) (w : World) (hl : s.size ≤ 281474976710656) (hat : at0 ≤ 9223372036854775807) :
    Calls Tryd.prog 43 #[.string s, .int .i64 at0, .int .i64 n] w fun e w' => e = .returned (.tuple #[.string (cutR s at0 n).1, .int .i64 (cutR s at0 n).2]) ∧ w = w' := by
  by_cases h : fitsB s at0 n
  · rw [cutR_ok h]
    obtain ⟨h0, h1, h2⟩ := h
    have b0 : decide (at0 < 0) = false := by simp; omega
    have b1 : decide ((s.size : Int) < at0) = false := by simp; omega
    have b2 : decide (n < 0) = false := by simp; omega
    have b3 : decide ((s.size : Int) - at0 < n) = false := by simp; omega
    go_enter Tryd.func43, Tryd.ntmps43
    go_wp2
    go_ret2
    exact ⟨rfl, rfl⟩
  · rw [cutR_bad h]
    unfold fitsB at h
    by_cases h0 : at0 < 0
    · have b0 : decide (at0 < 0) = true := by simpa using h0
      clear h
      go_enter Tryd.func43, Tryd.ntmps43
      go_wp2
      go_ret2
      exact ⟨rfl, rfl⟩
    have b0 : decide (at0 < 0) = false := by simpa using h0
    by_cases h1 : (s.size : Int) < at0
    · have b1 : decide ((s.size : Int) < at0) = true := by simpa using h1
      clear h
      go_enter Tryd.func43, Tryd.ntmps43
      go_wp2
      go_ret2
      exact ⟨rfl, rfl⟩
    have b1 : decide ((s.size : Int) < at0) = false := by simpa using h1
    by_cases h2 : n < 0
    · have b2 : decide (n < 0) = true := by simpa using h2
      clear h
      go_enter Tryd.func43, Tryd.ntmps43
      go_wp2
      go_ret2
      exact ⟨rfl, rfl⟩
    have b2 : decide (n < 0) = false := by simpa using h2
    have h3 : (s.size : Int) - at0 < n := by omega
    have b3 : decide ((s.size : Int) - at0 < n) = true := by simpa using h3
    clear h
    go_enter Tryd.func43, Tryd.ntmps43
    go_wp2
    go_ret2
    exact ⟨rfl, rfl⟩

set_option maxHeartbeats 400000 in
theorem cut_ok (s : ByteArray) (at0 n : Int) (w : World) (hs : s.size ≤ maxLen) (hl : s.size ≤ 281474976710656) (h : fitsB s at0 n) :
    Calls Tryd.prog 46 #[.string s, .int .i64 at0, .int .i64 n] w fun e w' => e = .returned (.tuple #[.string (s.extract at0.toNat (at0 + n).toNat), .int .i64 0]) ∧ Below w.heap.size w w' := by
  have H := Lib.hid h
  clear h
  have hx := extract_le s at0.toNat (at0 + n).toNat
  generalize hq : s.extract at0.toNat (at0 + n).toNat = q at *
  have HQ := Lib.hid hq
  clear hq
  go_enter Tryd.func46, Tryd.ntmps46
  go_wp2_with fail
  refine (piece_ok s at0 n _ hs H.out).mono ?_
  rintro e w1 ⟨rfl, hb1⟩
  rw [HQ.out]
  go_wp2_with fail
  refine (tells_ok q _).mono ?_
  rintro e w2 ⟨rfl, hb2⟩
  go_wp2_with fail
  refine (clone_any q _ (by omega)).mono ?_
  rintro e w3 ⟨rfl, hb3⟩
  go_wp2
  go_ret2
  exact ⟨rfl, (hb1.trans (hb2.mono hb1.size)).trans (hb3.mono (Nat.le_trans hb1.size hb2.size))⟩

set_option maxHeartbeats 400000 in
theorem cut_bad (a0 a1 a2 : Addr) (s : ByteArray) (at0 n : Int) (w : World) (hE : Env a0 a1 a2 w) (hs : s.size ≤ maxLen) (h : ¬ fitsB s at0 n) :
    Calls Tryd.prog 46 #[.string s, .int .i64 at0, .int .i64 n] w fun e w' => e = .returned (.tuple #[.string ⟨#[]⟩, .int .i64 11]) ∧ Below w.heap.size w w' := by
  have H := Lib.hid h
  clear h
  go_enter Tryd.func46, Tryd.ntmps46
  go_wp2_with fail
  refine (piece_bad a0 a1 a2 s at0 n _ hE hs H.out).mono ?_
  rintro e w1 ⟨rfl, hb1⟩
  go_wp2_with fail
  refine (tells_bad a0 a1 a2 a2 11 _ _ (hE.below hb1) (.inr (.inr ⟨rfl, rfl⟩))).mono ?_
  rintro e w2 ⟨rfl, hb2⟩
  go_wp2_with fail
  refine (clone_any _ _ (by decide)).mono ?_
  rintro e w3 ⟨rfl, hb3⟩
  go_wp2
  go_ret2
  exact ⟨rfl, (hb1.trans (hb2.mono hb1.size)).trans (hb3.mono (Nat.le_trans hb1.size hb2.size))⟩

theorem cut_any (a0 a1 a2 : Addr) (s : ByteArray) (at0 n : Int) (w : World) (hE : Env a0 a1 a2 w) (hl : s.size ≤ 281474976710656) :
    Calls Tryd.prog 46 #[.string s, .int .i64 at0, .int .i64 n] w fun e w' => e = .returned (.tuple #[.string (cutR s at0 n).1, .int .i64 (cutR s at0 n).2]) ∧ Below w.heap.size w w' := by
  have hs : s.size ≤ maxLen := by unfold maxLen; omega
  by_cases h : fitsB s at0 n
  · rw [cutR_ok h]; exact cut_ok s at0 n w hs hl h
  · rw [cutR_bad h]; exact cut_bad a0 a1 a2 s at0 n w hE hs h

end Go.Proofs.YtpafpmefhfmndaaDoor
