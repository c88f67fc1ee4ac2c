/- errors.as and errors.As, walked: a fault is found, itself or wrapped once, and stored into the target. -/
import Derived.Test.YtpafpmefhfmndaaDoorKAs
set_option linter.unusedVariables false
set_option linter.unusedSimpArgs false
namespace Go.Proofs.YtpafpmefhfmndaaDoor
open Go.RowKit Go.Extern.Stop Go.Stop Go.Extern

/-- errors.errorType lies as the program's text lays it. -/
structure EnvE (w : World) : Prop where
  g : w.cell? ⟨0, 0, none⟩ = some (.iface 111 (.agg #[.pointer (some ⟨4, 55, none⟩)]))

theorem EnvE.lt {w : World} (h : EnvE w) : 0 < w.heap.size := World.block_lt_of_cell? _ _ h.g
theorem EnvE.belowB {w w' : World} {B : Nat} (h : EnvE w) (hb : Below B w w') (hB : 0 < B) : EnvE w' := ⟨(hb.cell (p := ⟨0, 0, none⟩) hB).trans h.g⟩
theorem EnvE.below {w w' : World} (h : EnvE w) (hb : Below w.heap.size w w') : EnvE w' := h.belowB hb h.lt

/-- true, and the target at t holds k; what lies below t is as it was. -/
def AsHit (t : Nat) (k : Int) (w : World) (e : Ending) (w' : World) : Prop :=
  e = .returned (.bool true) ∧ w'.cell? ⟨t, 0, none⟩ = some (.int .i64 k) ∧ Below t w w'

set_option maxRecDepth 100000 in
set_option maxHeartbeats 1000000 in
theorem unwrap_any (p : ByteArray) (v : Value) (w : World) :
    Calls Tryd.prog 89 #[.agg #[.string p, v]] w fun e w' => e = .returned v ∧ w.alloc (.cells #[.string p, v] 89) = w' := by
  go_enter Tryd.func89, Tryd.ntmps89
  go_wp2
  go_ret
  exact ⟨rfl, rfl⟩

set_option maxRecDepth 100000 in
set_option maxHeartbeats 4000000 in
theorem as_fault (a t : Nat) (k : Int) (old : Value) (w : World) (ha : w.cell? ⟨a, 0, none⟩ = some (.pointer (some ⟨t, 0, none⟩))) (ht : w.cell? ⟨t, 0, none⟩ = some old) (hf : w.frozen? ⟨t, 0, none⟩ = false) :
    Calls Tryd.prog 51 #[.iface 83 (.agg #[.int .i64 k]), .iface 85 (.pointer (some ⟨t, 0, none⟩)), .agg #[.pointer (some ⟨4, 85, none⟩), .pointer (some ⟨a, 0, none⟩), .int .u64 150], .iface 111 (.agg #[.pointer (some ⟨4, 83, none⟩)])] w (AsHit t k w) := by
  have hO := @run_callFunc_extern Tryd.prog 56 _ ReflectliteType.typeOf Tryd.func56 (by kernel_rfl) (by kernel_rfl) (by kernel_rfl) (by kernel_rfl)
  have hA := @run_callFunc_extern Tryd.prog 94 _ (ReflectliteType.relation "AssignableTo" ReflectliteType.assignableTo) Tryd.func94 (by kernel_rfl) (by kernel_rfl) (by kernel_rfl) (by kernel_rfl)
  have hE := @run_callFunc_extern Tryd.prog 57 _ (ReflectliteValue.method (ReflectliteValue.valueError "reflectlite.Value.Elem" 0) ReflectliteValue.elem) Tryd.func57 (by kernel_rfl) (by kernel_rfl) (by kernel_rfl) (by kernel_rfl)
  have hV := @run_callFunc_extern Tryd.prog 48 _ (fun args => ReflectliteValue.unpack (args.getD 0 (.tuple #[]))) Tryd.func48 (by kernel_rfl) (by kernel_rfl) (by kernel_rfl) (by kernel_rfl)
  have hS := @run_callFunc_extern Tryd.prog 58 _ ReflectliteValue.set Tryd.func58 (by kernel_rfl) (by kernel_rfl) (by kernel_rfl) (by kernel_rfl)
  have tO := asTypeOfF
  have mA := asMethodAssignableTo
  have aF := asAssignF
  have vF := asValueOfF
  have hal : a < w.heap.size := World.block_lt_of_cell? _ _ ha
  have htl : t < w.heap.size := World.block_lt_of_cell? _ _ ht
  have el := asElemV ⟨a, 0, none⟩ ⟨t, 0, none⟩ (w.alloc (.cells #[.pointer (some ⟨4, 85, none⟩), .pointer (some ⟨a, 0, none⟩), .int .u64 150] 93)) (by rw [World.cell?_alloc_lt _ _ ⟨a, 0, none⟩ hal]; exact ha)
  have st := asSet t 0 (w.heap.size + 1) 0 k old ((w.alloc (.cells #[.pointer (some ⟨4, 85, none⟩), .pointer (some ⟨a, 0, none⟩), .int .u64 150] 93)).alloc (.cells #[.int .i64 k] 83))
    (by rw [World.cell?_alloc_at _ _ _ _ (by simp)]; rfl)
    (by rw [World.cell?_alloc_lt _ _ ⟨t, 0, none⟩ (by simp; omega), World.cell?_alloc_lt _ _ ⟨t, 0, none⟩ htl]; exact ht)
    (by rw [World.frozen?_alloc_old _ _ ⟨t, 0, none⟩ (by simp; omega), World.frozen?_alloc_old _ _ ⟨t, 0, none⟩ (Nat.ne_of_lt htl)]; exact hf)
  go_enter Tryd.func51, Tryd.ntmps51
  go_wp2
  refine wp_loop_rounds 1 ?_
  rw [rounds_succ]
  go_wp2
  go_ret
  refine ⟨rfl, ?_, ?_⟩
  · rw [World.cell?_alloc_lt _ _ ⟨t, 0, none⟩ (by simp; omega), World.cell?_alloc_lt _ _ ⟨t, 0, none⟩ (by simp; omega)]
    exact World.cell?_setCell_same' _ _ _ (by rw [ht]; rfl)
  · exact (((Below.refl t w).setCell (p := ⟨t, 0, none⟩) (Nat.le_refl _) _).alloc (by simp; omega) _).alloc (by simp; omega) _

set_option maxRecDepth 100000 in
set_option maxHeartbeats 4000000 in
theorem as_placed (a t : Nat) (p : ByteArray) (k : Int) (old : Value) (w : World) (ha : w.cell? ⟨a, 0, none⟩ = some (.pointer (some ⟨t, 0, none⟩))) (ht : w.cell? ⟨t, 0, none⟩ = some old) (hf : w.frozen? ⟨t, 0, none⟩ = false) :
    Calls Tryd.prog 51 #[.iface 89 (.agg #[.string p, .iface 83 (.agg #[.int .i64 k])]), .iface 85 (.pointer (some ⟨t, 0, none⟩)), .agg #[.pointer (some ⟨4, 85, none⟩), .pointer (some ⟨a, 0, none⟩), .int .u64 150], .iface 111 (.agg #[.pointer (some ⟨4, 83, none⟩)])] w (AsHit t k w) := by
  have hO := @run_callFunc_extern Tryd.prog 56 _ ReflectliteType.typeOf Tryd.func56 (by kernel_rfl) (by kernel_rfl) (by kernel_rfl) (by kernel_rfl)
  have hA := @run_callFunc_extern Tryd.prog 94 _ (ReflectliteType.relation "AssignableTo" ReflectliteType.assignableTo) Tryd.func94 (by kernel_rfl) (by kernel_rfl) (by kernel_rfl) (by kernel_rfl)
  have hE := @run_callFunc_extern Tryd.prog 57 _ (ReflectliteValue.method (ReflectliteValue.valueError "reflectlite.Value.Elem" 0) ReflectliteValue.elem) Tryd.func57 (by kernel_rfl) (by kernel_rfl) (by kernel_rfl) (by kernel_rfl)
  have hV := @run_callFunc_extern Tryd.prog 48 _ (fun args => ReflectliteValue.unpack (args.getD 0 (.tuple #[]))) Tryd.func48 (by kernel_rfl) (by kernel_rfl) (by kernel_rfl) (by kernel_rfl)
  have hS := @run_callFunc_extern Tryd.prog 58 _ ReflectliteValue.set Tryd.func58 (by kernel_rfl) (by kernel_rfl) (by kernel_rfl) (by kernel_rfl)
  have tO := asTypeOfF
  have tW := asTypeOfW
  have mA := asMethodAssignableTo
  have mU := asMethodUnwrap
  have aF := asAssignF
  have aW := asAssignW
  have vF := asValueOfF
  have nW := noAsW
  have uW := unwrapW
  have hal : a < w.heap.size := World.block_lt_of_cell? _ _ ha
  have htl : t < w.heap.size := World.block_lt_of_cell? _ _ ht
  have el := asElemV ⟨a, 0, none⟩ ⟨t, 0, none⟩ ((w.alloc (.cells #[.pointer (some ⟨4, 85, none⟩), .pointer (some ⟨a, 0, none⟩), .int .u64 150] 93)).alloc (.cells #[.string p, .iface 83 (.agg #[.int .i64 k])] 89)) (by rw [World.cell?_alloc_lt _ _ ⟨a, 0, none⟩ (by simp; omega), World.cell?_alloc_lt _ _ ⟨a, 0, none⟩ hal]; exact ha)
  have st := asSet t 0 (w.heap.size + 1 + 1) 0 k old (((w.alloc (.cells #[.pointer (some ⟨4, 85, none⟩), .pointer (some ⟨a, 0, none⟩), .int .u64 150] 93)).alloc (.cells #[.string p, .iface 83 (.agg #[.int .i64 k])] 89)).alloc (.cells #[.int .i64 k] 83))
    (by rw [World.cell?_alloc_at _ _ _ _ (by simp)]; rfl)
    (by rw [World.cell?_alloc_lt _ _ ⟨t, 0, none⟩ (by simp; omega), World.cell?_alloc_lt _ _ ⟨t, 0, none⟩ (by simp; omega), World.cell?_alloc_lt _ _ ⟨t, 0, none⟩ htl]; exact ht)
    (by rw [World.frozen?_alloc_old _ _ ⟨t, 0, none⟩ (by simp; omega), World.frozen?_alloc_old _ _ ⟨t, 0, none⟩ (by simp; omega), World.frozen?_alloc_old _ _ ⟨t, 0, none⟩ (Nat.ne_of_lt htl)]; exact hf)
  go_enter Tryd.func51, Tryd.ntmps51
  go_wp2
  refine wp_loop_rounds 2 ?_
  rw [rounds_succ]
  go_wp2_with (go_at_call 89; refine (unwrap_any _ _ _).mono ?_; rintro e w' ⟨rfl, rfl⟩)
  rw [rounds_succ]
  go_wp2
  go_ret
  refine ⟨rfl, ?_, ?_⟩
  · refine World.cell?_setCell_same' _ _ _ ?_
    rw [World.cell?_alloc_lt _ _ ⟨t, 0, none⟩ (by simp; omega), World.cell?_alloc_lt _ _ ⟨t, 0, none⟩ (by simp; omega), World.cell?_alloc_lt _ _ ⟨t, 0, none⟩ htl, ht]
    rfl
  · exact ((((Below.refl t w).alloc (by omega) _).alloc (by simp; omega) _).alloc (by simp; omega) _).setCell (p := ⟨t, 0, none⟩) (Nat.le_refl _) _

/-- A fault of the number k, itself or wrapped once. -/
def Wrong (k : Int) (v : Value) : Prop := v = .iface 83 (.agg #[.int .i64 k]) ∨ ∃ p : ByteArray, v = .iface 89 (.agg #[.string p, .iface 83 (.agg #[.int .i64 k])])

theorem as_wrong (a t : Nat) (v : Value) (k : Int) (hv : Wrong k v) (old : Value) (w : World) (ha : w.cell? ⟨a, 0, none⟩ = some (.pointer (some ⟨t, 0, none⟩))) (ht : w.cell? ⟨t, 0, none⟩ = some old) (hf : w.frozen? ⟨t, 0, none⟩ = false) :
    Calls Tryd.prog 51 #[v, .iface 85 (.pointer (some ⟨t, 0, none⟩)), .agg #[.pointer (some ⟨4, 85, none⟩), .pointer (some ⟨a, 0, none⟩), .int .u64 150], .iface 111 (.agg #[.pointer (some ⟨4, 83, none⟩)])] w (AsHit t k w) := by
  rcases hv with rfl | ⟨p, rfl⟩
  · exact as_fault a t k old w ha ht hf
  · exact as_placed a t p k old w ha ht hf

set_option maxRecDepth 100000 in
set_option maxHeartbeats 4000000 in
theorem As_iface (t : Nat) (tv : TypeId) (v : Value) (k : Int) (hv : Wrong k (.iface tv v)) (old : Value) (w : World) (hG : EnvE w) (ht : w.cell? ⟨t, 0, none⟩ = some old) (hf : w.frozen? ⟨t, 0, none⟩ = false) :
    Calls Tryd.prog 44 #[.iface tv v, .iface 85 (.pointer (some ⟨t, 0, none⟩))] w (AsHit t k w) := by
  have HW := Lib.hid hv
  clear hv
  have hV := @run_callFunc_extern Tryd.prog 48 _ (fun args => ReflectliteValue.unpack (args.getD 0 (.tuple #[]))) Tryd.func48 (by kernel_rfl) (by kernel_rfl) (by kernel_rfl) (by kernel_rfl)
  have hT := @run_callFunc_extern Tryd.prog 49 _ (ReflectliteValue.methodAny (ReflectliteValue.valueError "reflectlite.Value.Type" 0) (fun t _ _ _ => ReflectliteType.toType t)) Tryd.func49 (by kernel_rfl) (by kernel_rfl) (by kernel_rfl) (by kernel_rfl)
  have hN := @run_callFunc_extern Tryd.prog 50 _ (ReflectliteValue.method (ReflectliteValue.valueError "reflectlite.Value.IsNil" 0) ReflectliteValue.isNil) Tryd.func50 (by kernel_rfl) (by kernel_rfl) (by kernel_rfl) (by kernel_rfl)
  have hK := @run_callFunc_extern Tryd.prog 84 _ (ReflectliteType.abiMethod fun t => do pure (.int .u8 (← Rtype.kind t))) Tryd.func84 (by kernel_rfl) (by kernel_rfl) (by kernel_rfl) (by kernel_rfl)
  have hE := @run_callFunc_extern Tryd.prog 96 _ (ReflectliteType.method ReflectliteType.elem) Tryd.func96 (by kernel_rfl) (by kernel_rfl) (by kernel_rfl) (by kernel_rfl)
  have hI := @run_callFunc_extern Tryd.prog 97 _ (ReflectliteType.relation "Implements" ReflectliteType.implements_) Tryd.func97 (by kernel_rfl) (by kernel_rfl) (by kernel_rfl) (by kernel_rfl)
  have f6 := asValueOfP
  have f7 := asTypeP
  have mK := asMethodKind
  have mE := asMethodElem
  have mI := asMethodImplements
  have kP := asKindP
  have kF := asKindF
  have eP := asElemT
  have iF := asImplements
  have htl : t < w.heap.size := World.block_lt_of_cell? _ _ ht
  have hg := hG.g
  have hgl := hG.lt
  have n8 := asIsNil ⟨w.heap.size, 0, none⟩ ⟨t, 0, none⟩ ((w.alloc (.cells #[.pointer (some ⟨t, 0, none⟩)] 85)).alloc (.cells #[.pointer (some ⟨4, 85, none⟩), .pointer (some ⟨w.heap.size, 0, none⟩), .int .u64 150] 93)) (by simp)
  have hg2 : ((w.alloc (.cells #[.pointer (some ⟨t, 0, none⟩)] 85)).alloc (.cells #[.pointer (some ⟨4, 85, none⟩), .pointer (some ⟨w.heap.size, 0, none⟩), .int .u64 150] 93)).cell? ⟨0, 0, none⟩ = some (.iface 111 (.agg #[.pointer (some ⟨4, 55, none⟩)])) := by
    rw [World.cell?_alloc_lt _ _ ⟨0, 0, none⟩ (by simp), World.cell?_alloc_lt _ _ ⟨0, 0, none⟩ hgl]; exact hg
  go_enter Tryd.func44, Tryd.ntmps44
  go_wp2_with (go_at_call 51; refine (as_wrong w.heap.size t (.iface tv v) k HW.out old _ (by simp) (by rw [World.cell?_alloc_lt _ _ ⟨t, 0, none⟩ (by simp; omega), World.cell?_alloc_lt _ _ ⟨t, 0, none⟩ htl]; exact ht) (by rw [World.frozen?_alloc_old _ _ ⟨t, 0, none⟩ (by simp; omega), World.frozen?_alloc_old _ _ ⟨t, 0, none⟩ (Nat.ne_of_lt htl)]; exact hf)).mono ?_; rintro e w1 ⟨rfl, hc1, hb1⟩)
  go_ret
  exact ⟨rfl, hc1, (((Below.refl _ _).alloc (by omega) _).alloc (by simp; omega) _).trans hb1⟩

theorem As_wrong (t : Nat) (v : Value) (k : Int) (hv : Wrong k v) (old : Value) (w : World) (hG : EnvE w) (ht : w.cell? ⟨t, 0, none⟩ = some old) (hf : w.frozen? ⟨t, 0, none⟩ = false) :
    Calls Tryd.prog 44 #[v, .iface 85 (.pointer (some ⟨t, 0, none⟩))] w (AsHit t k w) := by
  rcases hv with rfl | ⟨p, rfl⟩
  · exact As_iface t _ _ k (.inl rfl) old w hG ht hf
  · exact As_iface t _ _ k (.inr ⟨p, rfl⟩) old w hG ht hf
end Go.Proofs.YtpafpmefhfmndaaDoor
