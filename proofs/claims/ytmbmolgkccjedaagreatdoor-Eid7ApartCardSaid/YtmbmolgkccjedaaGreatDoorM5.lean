/- errors.As at a target of item's type fault: false of nil; of a fault, and of a fault that is wrapped once, true, and the target is that fault; nothing else that was there is changed. -/
import Derived.Test.YtmbmolgkccjedaaGreatDoorChecked
import Derived.WalkKit
import Derived.LaidEql
import Derived.Stop.Asserts
import Derived.RowKitTokens
import Derived.Deep.RegionWith
import Derived.BigQuiet
import Derived.Deep.QuietTactic
import Derived.Lib.Hide
set_option linter.unusedVariables false
set_option linter.unusedSimpArgs false
namespace Go.Proofs.YtmbmolgkccjedaaGreatDoor
open Go.RowKit Go.Extern.Stop Go.Stop Go.Extern

theorem as_nil (t : Value) (w : World) :
    Calls Tryz.prog 66 #[.nilIface, t] w fun e w' => e = .returned (.bool false) ∧ w = w' := by
  go_enter Tryz.func66, Tryz.ntmps66
  go_wp2
  go_ret
  exact ⟨rfl, rfl⟩

theorem asValueOfP (t : Addr) (w : World) : (ReflectliteValue.unpack (.iface 108 (.pointer (some t)))).run Tryz.prog w
    = .ok (.agg #[.pointer (some ⟨15, 108, none⟩), .pointer (some ⟨w.heap.size, 0, none⟩), .int .u64 150]) (w.alloc (.cells #[.pointer (some t)] 108)) := by kernel_rfl
theorem asTypeP (a : Addr) (w : World) : (ReflectliteValue.methodAny (ReflectliteValue.valueError "reflectlite.Value.Type" 0) (fun t _ _ _ => ReflectliteType.toType t) #[.agg #[.pointer (some ⟨15, 108, none⟩), .pointer (some a), .int .u64 150]]).run Tryz.prog w
    = .ok (.iface 191 (.agg #[.pointer (some ⟨15, 108, none⟩)])) w := by kernel_rfl
theorem asMethodKind (n : Nat) (h : Value) (w : World) : (Go.method (n + 1) 191 (.agg #[h]) "Kind").run Tryz.prog w = .ok (225, h) w := by kernel_rfl
theorem asMethodElem (n : Nat) (h : Value) (w : World) : (Go.method (n + 1) 191 (.agg #[h]) "Elem").run Tryz.prog w = .ok (235, .agg #[h]) w := by kernel_rfl
theorem asMethodImplements (n : Nat) (h : Value) (w : World) : (Go.method (n + 1) 191 (.agg #[h]) "Implements").run Tryz.prog w = .ok (236, .agg #[h]) w := by kernel_rfl
theorem asMethodAssignableTo (n : Nat) (h : Value) (w : World) : (Go.method (n + 1) 191 (.agg #[h]) "AssignableTo").run Tryz.prog w = .ok (233, .agg #[h]) w := by kernel_rfl
theorem asMethodUnwrap (n : Nat) (h : Value) (w : World) : (Go.method (n + 1) 247 h "Unwrap").run Tryz.prog w = .ok (244, h) w := by kernel_rfl
theorem asKindP (w : World) : ((ReflectliteType.abiMethod fun t => (fun a : Nat => Value.int IntKind.u8 (a : Int)) <$> Rtype.kind t) #[.pointer (some ⟨15, 108, none⟩)]).run Tryz.prog w = .ok (.int .u8 22) w := by kernel_rfl
theorem asKindF (w : World) : ((ReflectliteType.abiMethod fun t => (fun a : Nat => Value.int IntKind.u8 (a : Int)) <$> Rtype.kind t) #[.pointer (some ⟨15, 106, none⟩)]).run Tryz.prog w = .ok (.int .u8 25) w := by kernel_rfl
theorem one_match {α : Type} (v : Value) (h1 : Value → α) (h2 : Array Value → α) : ReflectliteValue.method.match_2 (fun _ => α) #[v] h1 h2 = h1 v := rfl
theorem two_match {α : Type} (v x : Value) (h1 : Value → Value → α) (h2 : Array Value → α) : ReflectliteValue.set.match_3 (fun _ => α) #[v, x] h1 h2 = h1 v x := rfl
theorem asPartsP (a : Addr) (w : World) : (ReflectliteValue.parts (.agg #[.pointer (some ⟨15, 108, none⟩), .pointer (some a), .int .u64 150])).run Tryz.prog w = .ok (some (108, a, 150)) w := by kernel_rfl
theorem asIsNil (a p : Addr) (W : World) (ha : W.cell? a = some (.pointer (some p))) :
    (ReflectliteValue.method (ReflectliteValue.valueError "reflectlite.Value.IsNil" 0) ReflectliteValue.isNil #[.agg #[.pointer (some ⟨15, 108, none⟩), .pointer (some a), .int .u64 150]]).run Tryz.prog W = .ok (.bool false) W := by
  unfold ReflectliteValue.method
  rw [one_match]
  simp only [Sem.run_bind, asPartsP, Result.andThen]
  simp [ReflectliteValue.isNil, loadVar, isAgg, underlying, Tryz.underlying108, ha, Result.andThen]
theorem asElemT (w : World) : (ReflectliteType.method ReflectliteType.elem #[.agg #[.pointer (some ⟨15, 108, none⟩)]]).run Tryz.prog w = .ok (.iface 191 (.agg #[.pointer (some ⟨15, 106, none⟩)])) w := by kernel_rfl
theorem asImplements (w : World) : (ReflectliteType.relation "Implements" ReflectliteType.implements_ #[.agg #[.pointer (some ⟨15, 106, none⟩)], .iface 191 (.agg #[.pointer (some ⟨15, 77, none⟩)])]).run Tryz.prog w = .ok (.bool true) w := by kernel_rfl
theorem asTypeOfF (v : Value) (w : World) : (ReflectliteType.typeOf #[.iface 106 v]).run Tryz.prog w = .ok (.iface 191 (.agg #[.pointer (some ⟨15, 106, none⟩)])) w := by kernel_rfl
theorem asTypeOfW (v : Value) (w : World) : (ReflectliteType.typeOf #[.iface 247 v]).run Tryz.prog w = .ok (.iface 191 (.agg #[.pointer (some ⟨15, 247, none⟩)])) w := by kernel_rfl
theorem asAssignF (w : World) : (ReflectliteType.relation "AssignableTo" ReflectliteType.assignableTo #[.agg #[.pointer (some ⟨15, 106, none⟩)], .iface 191 (.agg #[.pointer (some ⟨15, 106, none⟩)])]).run Tryz.prog w = .ok (.bool true) w := by kernel_rfl
theorem asAssignW (w : World) : (ReflectliteType.relation "AssignableTo" ReflectliteType.assignableTo #[.agg #[.pointer (some ⟨15, 247, none⟩)], .iface 191 (.agg #[.pointer (some ⟨15, 106, none⟩)])]).run Tryz.prog w = .ok (.bool false) w := by kernel_rfl
theorem asValueOfF (k : Int) (w : World) : (ReflectliteValue.unpack (.iface 106 (.agg #[.int .i64 k]))).run Tryz.prog w
    = .ok (.agg #[.pointer (some ⟨15, 106, none⟩), .pointer (some ⟨w.heap.size, 0, none⟩), .int .u64 153]) (w.alloc (.cells #[.int .i64 k] 106)) := by kernel_rfl
theorem asElemOf (w : World) : (Rtype.elem? 108).run Tryz.prog w = .ok (some 106) w := by kernel_rfl
theorem asMk (p : Addr) (w : World) : (ReflectliteValue.mk 106 p ReflectliteValue.flagAddr).run Tryz.prog w = .ok (.agg #[.pointer (some ⟨15, 106, none⟩), .pointer (some p), .int .u64 409]) w := by kernel_rfl
theorem asElemV (a p : Addr) (W : World) (ha : W.cell? a = some (.pointer (some p))) :
    (ReflectliteValue.method (ReflectliteValue.valueError "reflectlite.Value.Elem" 0) ReflectliteValue.elem #[.agg #[.pointer (some ⟨15, 108, none⟩), .pointer (some a), .int .u64 150]]).run Tryz.prog W
      = .ok (.agg #[.pointer (some ⟨15, 106, none⟩), .pointer (some p), .int .u64 409]) W := by
  unfold ReflectliteValue.method
  rw [one_match]
  simp only [Sem.run_bind, asPartsP, Result.andThen]
  simp [ReflectliteValue.elem, loadVar, isAgg, underlying, Tryz.underlying108, ha, Result.andThen, asElemOf, asMk]
theorem asPartsA (a : Addr) (w : World) : (ReflectliteValue.parts (.agg #[.pointer (some ⟨15, 106, none⟩), .pointer (some a), .int .u64 409])).run Tryz.prog w = .ok (some (106, a, 409)) w := by kernel_rfl
theorem asPartsF (a : Addr) (w : World) : (ReflectliteValue.parts (.agg #[.pointer (some ⟨15, 106, none⟩), .pointer (some a), .int .u64 153])).run Tryz.prog w = .ok (some (106, a, 153)) w := by kernel_rfl
theorem asDirect (w : World) : (Rtype.directlyAssignable 106 106).run Tryz.prog w = .ok true w := by kernel_rfl
theorem asSize (w : World) : (sizeOf 106).run Tryz.prog w = .ok 1 w := by kernel_rfl
theorem asSet (tb to b bo : Nat) (k : Int) (old : Value) (W : World) (hb : W.cell? ⟨b, bo, none⟩ = some (.int .i64 k)) (ht : W.cell? ⟨tb, to, none⟩ = some old) (hf : W.frozen? ⟨tb, to, none⟩ = false) :
    (ReflectliteValue.set #[.agg #[.pointer (some ⟨15, 106, none⟩), .pointer (some ⟨tb, to, none⟩), .int .u64 409], .agg #[.pointer (some ⟨15, 106, none⟩), .pointer (some ⟨b, bo, none⟩), .int .u64 153]]).run Tryz.prog W
      = .ok (.tuple #[]) (W.setCell ⟨tb, to, none⟩ (.int .i64 k)) := by
  unfold ReflectliteValue.set
  rw [two_match]
  simp only [Sem.run_bind, asPartsA, asPartsF, Result.andThen]
  simp [ReflectliteValue.flagAddr, loadVar, isAgg, underlying, Tryz.underlying106, hb, Result.andThen, asDirect, asSize, loadCells, loadCellsFrom, storeVar, Value.cells, storeCells, Addr.add]
  rw [run_store Tryz.prog W ⟨tb, to, none⟩ _ _ (by rfl)]
  simp [ht, hf]
theorem noAsF (v : Value) (xT : TypeId) (w : World) : (Instr.typeAssert (.iface 106 v) xT 196 true).run Tryz.prog w = .ok (.tuple #[.nilIface, .bool false]) w := run_typeAssert_lacksB Tryz.underlying196 (by kernel_rfl) (by kernel_rfl) v xT w
theorem noAsW (v : Value) (xT : TypeId) (w : World) : (Instr.typeAssert (.iface 247 v) xT 196 true).run Tryz.prog w = .ok (.tuple #[.nilIface, .bool false]) w := run_typeAssert_lacksB Tryz.underlying196 (by kernel_rfl) (by kernel_rfl) v xT w
theorem unwrapW (v : Value) (xT : TypeId) (w : World) : (Instr.typeAssert (.iface 247 v) xT 199 true).run Tryz.prog w = .ok (.tuple #[.iface 247 v, .bool true]) w := run_typeAssert_hasB Tryz.underlying199 (by kernel_rfl) v xT w
end Go.Proofs.YtmbmolgkccjedaaGreatDoor

/- errors.as and errors.As, walked: a fault is found, itself or wrapped once, and stored into the target. -/
set_option linter.unusedVariables false
set_option linter.unusedSimpArgs false
namespace Go.Proofs.YtmbmolgkccjedaaGreatDoor
open Go.RowKit Go.Extern.Stop Go.Stop Go.Extern

/-- errors.errorType lies as the program's text lays it. -/
structure EnvE (w : World) : Prop where
  g : w.cell? ⟨0, 0, none⟩ = some (.iface 191 (.agg #[.pointer (some ⟨15, 77, none⟩)]))

theorem EnvE.lt {w : World} (h : EnvE w) : 0 < w.heap.size := World.block_lt_of_cell? _ _ h.g
theorem EnvE.belowB {w w' : World} {B : Nat} (h : EnvE w) (hb : Below B w w') (hB : 0 < B) : EnvE w' := ⟨(hb.cell (p := ⟨0, 0, none⟩) hB).trans h.g⟩
theorem EnvE.below {w w' : World} (h : EnvE w) (hb : Below w.heap.size w w') : EnvE w' := h.belowB hb h.lt

/-- true, and the target at t holds k; what lies below t is as it was. -/
def AsHit (t : Nat) (k : Int) (w : World) (e : Ending) (w' : World) : Prop :=
  e = .returned (.bool true) ∧ w'.cell? ⟨t, 0, none⟩ = some (.int .i64 k) ∧ Below t w w'

set_option maxRecDepth 100000 in
set_option maxHeartbeats 1000000 in
theorem unwrap_any (p : Int) (v : Value) (w : World) :
    Calls Tryz.prog 244 #[.agg #[.int .i64 p, v]] w fun e w' => e = .returned v ∧ w.alloc (.cells #[.int .i64 p, v] 247) = w' := by
  go_enter Tryz.func244, Tryz.ntmps244
  go_wp2
  go_ret
  exact ⟨rfl, rfl⟩

set_option maxRecDepth 100000 in
set_option maxHeartbeats 4000000 in
theorem as_fault (a t : Nat) (k : Int) (old : Value) (w : World) (ha : w.cell? ⟨a, 0, none⟩ = some (.pointer (some ⟨t, 0, none⟩))) (ht : w.cell? ⟨t, 0, none⟩ = some old) (hf : w.frozen? ⟨t, 0, none⟩ = false) :
    Calls Tryz.prog 101 #[.iface 106 (.agg #[.int .i64 k]), .iface 108 (.pointer (some ⟨t, 0, none⟩)), .agg #[.pointer (some ⟨15, 108, none⟩), .pointer (some ⟨a, 0, none⟩), .int .u64 150], .iface 191 (.agg #[.pointer (some ⟨15, 106, none⟩)])] w (AsHit t k w) := by
  have hO := @run_callFunc_extern Tryz.prog 124 _ ReflectliteType.typeOf Tryz.func124 (by kernel_rfl) (by kernel_rfl) (by kernel_rfl) (by kernel_rfl)
  have hA := @run_callFunc_extern Tryz.prog 233 _ (ReflectliteType.relation "AssignableTo" ReflectliteType.assignableTo) Tryz.func233 (by kernel_rfl) (by kernel_rfl) (by kernel_rfl) (by kernel_rfl)
  have hE := @run_callFunc_extern Tryz.prog 125 _ (ReflectliteValue.method (ReflectliteValue.valueError "reflectlite.Value.Elem" 0) ReflectliteValue.elem) Tryz.func125 (by kernel_rfl) (by kernel_rfl) (by kernel_rfl) (by kernel_rfl)
  have hV := @run_callFunc_extern Tryz.prog 98 _ (fun args => ReflectliteValue.unpack (args.getD 0 (.tuple #[]))) Tryz.func98 (by kernel_rfl) (by kernel_rfl) (by kernel_rfl) (by kernel_rfl)
  have hS := @run_callFunc_extern Tryz.prog 126 _ ReflectliteValue.set Tryz.func126 (by kernel_rfl) (by kernel_rfl) (by kernel_rfl) (by kernel_rfl)
  have tO := asTypeOfF
  have mA := asMethodAssignableTo
  have aF := asAssignF
  have vF := asValueOfF
  have hal : a < w.heap.size := World.block_lt_of_cell? _ _ ha
  have htl : t < w.heap.size := World.block_lt_of_cell? _ _ ht
  have el := asElemV ⟨a, 0, none⟩ ⟨t, 0, none⟩ (w.alloc (.cells #[.pointer (some ⟨15, 108, none⟩), .pointer (some ⟨a, 0, none⟩), .int .u64 150] 147)) (by rw [World.cell?_alloc_lt _ _ ⟨a, 0, none⟩ hal]; exact ha)
  have st := asSet t 0 (w.heap.size + 1) 0 k old ((w.alloc (.cells #[.pointer (some ⟨15, 108, none⟩), .pointer (some ⟨a, 0, none⟩), .int .u64 150] 147)).alloc (.cells #[.int .i64 k] 106))
    (by rw [World.cell?_alloc_at _ _ _ _ (by simp)]; rfl)
    (by rw [World.cell?_alloc_lt _ _ ⟨t, 0, none⟩ (by simp; omega), World.cell?_alloc_lt _ _ ⟨t, 0, none⟩ htl]; exact ht)
    (by rw [World.frozen?_alloc_old _ _ ⟨t, 0, none⟩ (by simp; omega), World.frozen?_alloc_old _ _ ⟨t, 0, none⟩ (Nat.ne_of_lt htl)]; exact hf)
  go_enter Tryz.func101, Tryz.ntmps101
  go_wp2
  refine wp_loop_rounds 1 ?_
  rw [rounds_succ]
  go_wp2
  go_ret
  refine ⟨rfl, ?_, ?_⟩
  · rw [World.cell?_alloc_lt _ _ ⟨t, 0, none⟩ (by simp; omega), World.cell?_alloc_lt _ _ ⟨t, 0, none⟩ (by simp; omega)]
    exact World.cell?_setCell_same' _ _ _ (by rw [ht]; rfl)
  · exact (((Below.refl t w).setCell (p := ⟨t, 0, none⟩) (Nat.le_refl _) _).alloc (by simp; omega) _).alloc (by simp; omega) _

set_option maxRecDepth 100000 in
set_option maxHeartbeats 4000000 in
theorem as_placed (a t : Nat) (p k : Int) (old : Value) (w : World) (ha : w.cell? ⟨a, 0, none⟩ = some (.pointer (some ⟨t, 0, none⟩))) (ht : w.cell? ⟨t, 0, none⟩ = some old) (hf : w.frozen? ⟨t, 0, none⟩ = false) :
    Calls Tryz.prog 101 #[.iface 247 (.agg #[.int .i64 p, .iface 106 (.agg #[.int .i64 k])]), .iface 108 (.pointer (some ⟨t, 0, none⟩)), .agg #[.pointer (some ⟨15, 108, none⟩), .pointer (some ⟨a, 0, none⟩), .int .u64 150], .iface 191 (.agg #[.pointer (some ⟨15, 106, none⟩)])] w (AsHit t k w) := by
  have hO := @run_callFunc_extern Tryz.prog 124 _ ReflectliteType.typeOf Tryz.func124 (by kernel_rfl) (by kernel_rfl) (by kernel_rfl) (by kernel_rfl)
  have hA := @run_callFunc_extern Tryz.prog 233 _ (ReflectliteType.relation "AssignableTo" ReflectliteType.assignableTo) Tryz.func233 (by kernel_rfl) (by kernel_rfl) (by kernel_rfl) (by kernel_rfl)
  have hE := @run_callFunc_extern Tryz.prog 125 _ (ReflectliteValue.method (ReflectliteValue.valueError "reflectlite.Value.Elem" 0) ReflectliteValue.elem) Tryz.func125 (by kernel_rfl) (by kernel_rfl) (by kernel_rfl) (by kernel_rfl)
  have hV := @run_callFunc_extern Tryz.prog 98 _ (fun args => ReflectliteValue.unpack (args.getD 0 (.tuple #[]))) Tryz.func98 (by kernel_rfl) (by kernel_rfl) (by kernel_rfl) (by kernel_rfl)
  have hS := @run_callFunc_extern Tryz.prog 126 _ ReflectliteValue.set Tryz.func126 (by kernel_rfl) (by kernel_rfl) (by kernel_rfl) (by kernel_rfl)
  have tO := asTypeOfF
  have tW := asTypeOfW
  have mA := asMethodAssignableTo
  have mU := asMethodUnwrap
  have aF := asAssignF
  have aW := asAssignW
  have vF := asValueOfF
  have nW := noAsW
  have uW := unwrapW
  have hal : a < w.heap.size := World.block_lt_of_cell? _ _ ha
  have htl : t < w.heap.size := World.block_lt_of_cell? _ _ ht
  have el := asElemV ⟨a, 0, none⟩ ⟨t, 0, none⟩ ((w.alloc (.cells #[.pointer (some ⟨15, 108, none⟩), .pointer (some ⟨a, 0, none⟩), .int .u64 150] 147)).alloc (.cells #[.int .i64 p, .iface 106 (.agg #[.int .i64 k])] 247)) (by rw [World.cell?_alloc_lt _ _ ⟨a, 0, none⟩ (by simp; omega), World.cell?_alloc_lt _ _ ⟨a, 0, none⟩ hal]; exact ha)
  have st := asSet t 0 (w.heap.size + 1 + 1) 0 k old (((w.alloc (.cells #[.pointer (some ⟨15, 108, none⟩), .pointer (some ⟨a, 0, none⟩), .int .u64 150] 147)).alloc (.cells #[.int .i64 p, .iface 106 (.agg #[.int .i64 k])] 247)).alloc (.cells #[.int .i64 k] 106))
    (by rw [World.cell?_alloc_at _ _ _ _ (by simp)]; rfl)
    (by rw [World.cell?_alloc_lt _ _ ⟨t, 0, none⟩ (by simp; omega), World.cell?_alloc_lt _ _ ⟨t, 0, none⟩ (by simp; omega), World.cell?_alloc_lt _ _ ⟨t, 0, none⟩ htl]; exact ht)
    (by rw [World.frozen?_alloc_old _ _ ⟨t, 0, none⟩ (by simp; omega), World.frozen?_alloc_old _ _ ⟨t, 0, none⟩ (by simp; omega), World.frozen?_alloc_old _ _ ⟨t, 0, none⟩ (Nat.ne_of_lt htl)]; exact hf)
  go_enter Tryz.func101, Tryz.ntmps101
  go_wp2
  refine wp_loop_rounds 2 ?_
  rw [rounds_succ]
  go_wp2_with (go_at_call 244; refine (unwrap_any _ _ _).mono ?_; rintro e w' ⟨rfl, rfl⟩)
  rw [rounds_succ]
  go_wp2
  go_ret
  refine ⟨rfl, ?_, ?_⟩
  · refine World.cell?_setCell_same' _ _ _ ?_
    rw [World.cell?_alloc_lt _ _ ⟨t, 0, none⟩ (by simp; omega), World.cell?_alloc_lt _ _ ⟨t, 0, none⟩ (by simp; omega), World.cell?_alloc_lt _ _ ⟨t, 0, none⟩ htl, ht]
    rfl
  · exact ((((Below.refl t w).alloc (by omega) _).alloc (by simp; omega) _).alloc (by simp; omega) _).setCell (p := ⟨t, 0, none⟩) (Nat.le_refl _) _

/-- A fault of the number k, itself or wrapped once. -/
def Wrong (k : Int) (v : Value) : Prop := v = .iface 106 (.agg #[.int .i64 k]) ∨ ∃ p : Int, v = .iface 247 (.agg #[.int .i64 p, .iface 106 (.agg #[.int .i64 k])])

theorem as_wrong (a t : Nat) (v : Value) (k : Int) (hv : Wrong k v) (old : Value) (w : World) (ha : w.cell? ⟨a, 0, none⟩ = some (.pointer (some ⟨t, 0, none⟩))) (ht : w.cell? ⟨t, 0, none⟩ = some old) (hf : w.frozen? ⟨t, 0, none⟩ = false) :
    Calls Tryz.prog 101 #[v, .iface 108 (.pointer (some ⟨t, 0, none⟩)), .agg #[.pointer (some ⟨15, 108, none⟩), .pointer (some ⟨a, 0, none⟩), .int .u64 150], .iface 191 (.agg #[.pointer (some ⟨15, 106, none⟩)])] w (AsHit t k w) := by
  rcases hv with rfl | ⟨p, rfl⟩
  · exact as_fault a t k old w ha ht hf
  · exact as_placed a t p k old w ha ht hf

set_option maxRecDepth 100000 in
set_option maxHeartbeats 4000000 in
theorem As_iface (t : Nat) (tv : TypeId) (v : Value) (k : Int) (hv : Wrong k (.iface tv v)) (old : Value) (w : World) (hG : EnvE w) (ht : w.cell? ⟨t, 0, none⟩ = some old) (hf : w.frozen? ⟨t, 0, none⟩ = false) :
    Calls Tryz.prog 66 #[.iface tv v, .iface 108 (.pointer (some ⟨t, 0, none⟩))] w (AsHit t k w) := by
  have HW := Lib.hid hv
  clear hv
  have hV := @run_callFunc_extern Tryz.prog 98 _ (fun args => ReflectliteValue.unpack (args.getD 0 (.tuple #[]))) Tryz.func98 (by kernel_rfl) (by kernel_rfl) (by kernel_rfl) (by kernel_rfl)
  have hT := @run_callFunc_extern Tryz.prog 99 _ (ReflectliteValue.methodAny (ReflectliteValue.valueError "reflectlite.Value.Type" 0) (fun t _ _ _ => ReflectliteType.toType t)) Tryz.func99 (by kernel_rfl) (by kernel_rfl) (by kernel_rfl) (by kernel_rfl)
  have hN := @run_callFunc_extern Tryz.prog 100 _ (ReflectliteValue.method (ReflectliteValue.valueError "reflectlite.Value.IsNil" 0) ReflectliteValue.isNil) Tryz.func100 (by kernel_rfl) (by kernel_rfl) (by kernel_rfl) (by kernel_rfl)
  have hK := @run_callFunc_extern Tryz.prog 225 _ (ReflectliteType.abiMethod fun t => do pure (.int .u8 (← Rtype.kind t))) Tryz.func225 (by kernel_rfl) (by kernel_rfl) (by kernel_rfl) (by kernel_rfl)
  have hE := @run_callFunc_extern Tryz.prog 235 _ (ReflectliteType.method ReflectliteType.elem) Tryz.func235 (by kernel_rfl) (by kernel_rfl) (by kernel_rfl) (by kernel_rfl)
  have hI := @run_callFunc_extern Tryz.prog 236 _ (ReflectliteType.relation "Implements" ReflectliteType.implements_) Tryz.func236 (by kernel_rfl) (by kernel_rfl) (by kernel_rfl) (by kernel_rfl)
  have f6 := asValueOfP
  have f7 := asTypeP
  have mK := asMethodKind
  have mE := asMethodElem
  have mI := asMethodImplements
  have kP := asKindP
  have kF := asKindF
  have eP := asElemT
  have iF := asImplements
  have htl : t < w.heap.size := World.block_lt_of_cell? _ _ ht
  have hg := hG.g
  have hgl := hG.lt
  have n8 := asIsNil ⟨w.heap.size, 0, none⟩ ⟨t, 0, none⟩ ((w.alloc (.cells #[.pointer (some ⟨t, 0, none⟩)] 108)).alloc (.cells #[.pointer (some ⟨15, 108, none⟩), .pointer (some ⟨w.heap.size, 0, none⟩), .int .u64 150] 147)) (by simp)
  have hg2 : ((w.alloc (.cells #[.pointer (some ⟨t, 0, none⟩)] 108)).alloc (.cells #[.pointer (some ⟨15, 108, none⟩), .pointer (some ⟨w.heap.size, 0, none⟩), .int .u64 150] 147)).cell? ⟨0, 0, none⟩ = some (.iface 191 (.agg #[.pointer (some ⟨15, 77, none⟩)])) := by
    rw [World.cell?_alloc_lt _ _ ⟨0, 0, none⟩ (by simp only [World.size_alloc]; omega), World.cell?_alloc_lt _ _ ⟨0, 0, none⟩ hgl]; exact hg
  go_enter Tryz.func66, Tryz.ntmps66
  go_wp2_with (go_at_call 101; refine (as_wrong w.heap.size t (.iface tv v) k HW.out old _ (by simp) (by rw [World.cell?_alloc_lt _ _ ⟨t, 0, none⟩ (by simp; omega), World.cell?_alloc_lt _ _ ⟨t, 0, none⟩ htl]; exact ht) (by rw [World.frozen?_alloc_old _ _ ⟨t, 0, none⟩ (by simp; omega), World.frozen?_alloc_old _ _ ⟨t, 0, none⟩ (Nat.ne_of_lt htl)]; exact hf)).mono ?_; rintro e w1 ⟨rfl, hc1, hb1⟩)
  go_ret
  exact ⟨rfl, hc1, (((Below.refl _ _).alloc (by omega) _).alloc (by simp; omega) _).trans hb1⟩

theorem As_wrong (t : Nat) (v : Value) (k : Int) (hv : Wrong k v) (old : Value) (w : World) (hG : EnvE w) (ht : w.cell? ⟨t, 0, none⟩ = some old) (hf : w.frozen? ⟨t, 0, none⟩ = false) :
    Calls Tryz.prog 66 #[v, .iface 108 (.pointer (some ⟨t, 0, none⟩))] w (AsHit t k w) := by
  rcases hv with rfl | ⟨p, rfl⟩
  · exact As_iface t _ _ k (.inl rfl) old w hG ht hf
  · exact As_iface t _ _ k (.inr ⟨p, rfl⟩) old w hG ht hf
end Go.Proofs.YtmbmolgkccjedaaGreatDoor
