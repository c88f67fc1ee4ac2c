/- Contracts of each, only, has and part of package signs, of bundles' flags and of blocks'. -/
import Derived.RangeFuncNested
import Derived.RangeFuncBound
import Derived.RangeFuncCalls
import Derived.RangeFuncLeaves
import Derived.RangeFuncFrom
import Derived.Shelf.Abstract
import Derived.Shelf.RegionOpen
import Derived.WalkKit
import Derived.OwnWalkIn
import Derived.TacticsInMore
import Derived.LoopNIn
import Derived.LoopIn
import Derived.Scope
import Derived.IntWalk
import Derived.Test.YtlddkoblicnepaaDoorGCheck
set_option linter.unusedVariables false
set_option linter.unusedSimpArgs false
namespace Go.Proofs.YtlddkoblicnepaaDoor
open Go.RowKit Go.Shelf

attribute [local go_sem] Oper.semAt_some

/-- The first k flags, the lowest one first. -/
def flK : Nat → BitVec 64 → List (BitVec 64)
  | 0, _ => []
  | k + 1, X => flK k X ++ [lowF (leftN k X)]
theorem flK_length : ∀ (k : Nat) (X : BitVec 64), (flK k X).length = k
  | 0, _ => rfl
  | k + 1, X => by simp [flK, flK_length k X]
theorem only_sub {X : BitVec 64} (Y : BitVec 64) {M : BitVec 64} (h : onlyB X M = true) : onlyB (X &&& Y) M = true := by
  unfold onlyB at *
  have h := eq_of_beq h
  rw [BitVec.and_comm X Y, BitVec.and_assoc, h]
  simp
theorem only_left {X M : BitVec 64} (h : onlyB X M = true) : ∀ k, onlyB (leftN k X) M = true
  | 0 => h
  | k + 1 => by rw [left_succ]; exact only_sub _ (only_left h k)
theorem only_all {X M : BitVec 64} : ∀ (k : Nat), (∀ x ∈ flK k X, x &&& M ≠ 0#64) → onlyB (leftN k X) M = onlyB X M
  | 0, _ => rfl
  | k + 1, h => by
    have h1 := h (lowF (leftN k X)) (by simp [flK])
    have h0 : leftN k X ≠ 0#64 := by
      intro e
      rw [e, show lowF 0#64 = 0#64 by decide] at h1
      exact h1 (by simp)
    rw [left_succ, only_good h0 h1]
    exact only_all k fun x hx => h x (by simp [flK, hx])
theorem only_yes {X M : BitVec 64} {k : Nat} (hk : leftN k X = 0#64) (h : ∀ x ∈ flK k X, x &&& M ≠ 0#64) : onlyB X M = true := by
  rw [← only_all k h, hk]
  exact only_zero M
theorem only_no {X M : BitVec 64} : ∀ {k : Nat}, (∀ j, j < k → leftN j X ≠ 0#64) → (∃ x ∈ flK k X, x &&& M = 0#64) → onlyB X M = false
  | 0, _, ⟨x, hx, _⟩ => by cases hx
  | k + 1, h0, ⟨x, hx, hm⟩ => by
    rcases List.mem_append.1 hx with hx | hx
    · exact only_no (fun j hj => h0 j (by omega)) ⟨x, hx, hm⟩
    · obtain rfl := List.mem_singleton.1 hx
      have hb := only_bad (h0 k (by omega)) hm
      cases h : onlyB X M with
      | false => rfl
      | true => rw [only_left h k] at hb; cases hb

theorem cell_new_l (W : World) (v : Value) (t : TypeId) : (W.alloc (.cells #[v] t)).cell? ⟨W.heap.size, 0, none⟩ = some v ∧ (W.alloc (.cells #[v] t)).frozen? ⟨W.heap.size, 0, none⟩ = false := by
  constructor <;> go_simp
theorem cell_alloc_l {W : World} {a : Addr} {v : Value} (o : Obj) (h : W.cell? a = some v) : (W.alloc o).cell? a = some v := cell_kept h (World.grownBy_alloc W o none) (fun r e => by cases e)
theorem frozen_alloc_l {W : World} {a : Addr} {v : Value} (o : Obj) (h : W.cell? a = some v) (hf : W.frozen? a = false) : (W.alloc o).frozen? a = false := (frozen_kept h (World.grownBy_alloc W o none) (fun r e => by cases e)).trans hf
theorem wpIn_scope_wide {n : Nat} {P : Program} {c : Code} {Q : Exit → Act → World → Prop} {a : Act} {w : World} (h : c.wpIn Fence.wide n P (Exit.noGoto Q) a w) : (Code.scope c).wpIn Fence.wide n P Q a w :=
  wpIn_wide.2 (wp_scope_straight (wpIn_wide.1 h))

set_option maxRecDepth 100000 in
set_option maxHeartbeats 2000000 in
theorem each1b_in (F : Fence) (n : Nat) (hf : F.fn 53) (hro : F.round = none) (hn : 1 ≤ n) (l Bs : Nat) (X : BitVec 64) (J Jx : List (BitVec 64) → World → Prop)
    (hY : ∀ pre (x : BitVec 64) W, J pre W → pre.length < 64 → YieldAt F (n - 1) Tryd.prog l #[.int .i64 (tI x)] W fun e W' =>
      (e = .returned (.bool true) ∧ J (pre ++ [x]) W' ∧ True) ∨ (e = .returned (.bool false) ∧ Jx (pre ++ [x]) W'))
    (W : World) (hBs : W.cell? ⟨Bs, 0, none⟩ = some (.int .i64 (tI X))) (h0 : J [] W) :
    CallsIn F n Tryd.prog 53 #[.func (.yield l) #[] #[], .pointer (some ⟨Bs, 0, none⟩)] W fun e W' => (∃ v, e = .returned v) ∧
      ((∃ ys, (∃ k, ys = flK k X ∧ leftN k X = 0#64) ∧ J ys W') ∨ (∃ pre, (∃ k, pre = flK k X ∧ ∀ j, j < k → leftN j X ≠ 0#64) ∧ Jx pre W')) := by
  refine callsIn_of_wp Tryd.func53 rfl hf ?_ hro
  simp only [Tryd.ntmps53, List.size_toArray, List.length_cons, List.length_nil, Nat.reduceAdd, Nat.reduceSub, Array.replicate_succ, Array.replicate_zero, List.push_toArray, List.append_toArray, List.nil_append, List.cons_append]
  gi_wp2
  gi_loopw [3] (fun q wr => ∃ k : Nat, k ≤ 64 ∧ q = .int .i64 (tI (leftN k X)) ∧ J (flK k X) wr ∧ ∀ j, j < k → leftN j X ≠ 0#64)
    (fun q _ => (BitVec.ofInt 64 (intOf q)).toNat)
  case atStart => exact ⟨0, Nat.zero_le _, rfl, h0, fun j hj => by omega⟩
  case round =>
    obtain ⟨k, hk, rfl, hJs, hnz⟩ := hrel
    have HN := Lib.hid hnz
    clear hBs hnz
    by_cases hz : leftN k X = 0#64
    · have HZ := Lib.hid hz
      have hq : (tI (leftN k X) != 0) = false := by rw [hz]; rfl
      clear hz
      gi_wp2
      go_end0
      exact ⟨⟨_, rfl⟩, .inl ⟨_, ⟨k, rfl, HZ.out⟩, hJs⟩⟩
    · have hk64 : k < 64 := by
        rcases Nat.lt_or_ge k 64 with h | h
        · exact h
        · obtain rfl : k = 64 := by omega
          exact absurd (left_64 X) hz
      have hq : (tI (leftN k X) != 0) = true := by
        rw [bne, beq0, beq_eq_false_iff_ne.2 hz]; rfl
      obtain ⟨fn, tmps, assign, body, hy, hR⟩ := hY _ (lowF (leftN k X)) wr hJs (by rw [flK_length]; exact hk64)
      have HS := Lib.hid (show flK (k + 1) X = flK k X ++ [lowF (leftN k X)] from rfl)
      have HL := Lib.hid (left_succ k X)
      have HLT := Lib.hid (low_less hz)
      have HN1 := Lib.hid (show ∀ j, j < k + 1 → leftN j X ≠ 0#64 from fun j hj => by
        rcases Nat.lt_or_ge j k with h | h
        · exact HN.out j h
        · obtain rfl : j = k := by omega
          exact hz)
      have HZ := Lib.hid hz
      clear hz
      generalize leftN k X = Y at *
      have e1 : IntKind.i64.wrap (-tI Y) = tI (-Y) := bneg Y
      have e2 : bits BinOp.and IntKind.i64 (tI Y) (tI (-Y)) = tI (lowF Y) := band Y (-Y)
      have e3 : IntKind.i64.wrap (tI Y - 1) = tI (Y - 1#64) := bsub Y 1#64
      have e4 : bits BinOp.and IntKind.i64 (tI Y) (tI (Y - 1#64)) = tI (othF Y) := band Y (Y - 1#64)
      generalize -Y = Y1 at *
      generalize Y - 1#64 = Y2 at *
      generalize hF : lowF Y = F1 at *
      generalize hO : othF Y = O1 at *
      gi_wp2
      refine hR.mono ?_
      rintro e W3 (⟨rfl, hJ3, _⟩ | ⟨rfl, hJx3⟩)
      · gi_wp2
        go_roundw
        case rel => exact ⟨k + 1, by omega, by rw [HL.out], by rw [HS.out]; exact hJ3, HN1.out⟩
        case measure =>
          show (BitVec.ofInt 64 (tI O1)).toNat < (BitVec.ofInt 64 (tI Y)).toNat
          rw [ofInt_tI, ofInt_tI]
          exact HLT.out
      · gi_wp2
        refine bodyPost_ret (results_none rfl _ _ _) rfl ?_
        exact ⟨⟨_, rfl⟩, .inr ⟨_, ⟨k + 1, HS.out.symm, HN1.out⟩, hJx3⟩⟩

set_option maxHeartbeats 1000000 in
theorem eachb_in (F : Fence) (n : Nat) (hf : F.fn 49) (hro : F.round = none) (X : BitVec 64) (w : World) :
    CallsIn F n Tryd.prog 49 #[.agg #[.int .i64 (tI X)]] w fun e w' => e = .returned (.func (.func 53) #[] #[.pointer (some ⟨w.heap.size, 0, none⟩)]) ∧ w' = w.alloc (.cells #[.int .i64 (tI X)] 39) := by
  have hmf : ∀ (fn : Fn) (first cap : Array Value) (w : World), (Instr.makeFunc fn first cap).run Tryd.prog w = .ok (.func fn first cap) w := fun _ _ _ _ => rfl
  refine callsIn_of_wp Tryd.func49 rfl hf ?_ hro
  simp only [Tryd.ntmps49, List.size_toArray, List.length_cons, List.length_nil, Nat.reduceAdd, Nat.reduceSub, Array.replicate_succ, Array.replicate_zero, List.push_toArray, List.append_toArray, List.nil_append, List.cons_append]
  gi_wp2
  go_ret
  exact ⟨rfl, rfl⟩

theorem eachb_stops (F : Fence) (n : Nat) (hf : F.fn 53) (hro : F.round = none) (hn : 1 ≤ n) (Bs : Nat) (X : BitVec 64) (w : World) (hBs : Bs < w.heap.size) (hc : w.cell? ⟨Bs, 0, none⟩ = some (.int .i64 (tI X))) :
    SeqStopsK F n Tryd.prog 53 #[.pointer (some ⟨Bs, 0, none⟩)] (fun x : BitVec 64 => #[Value.int .i64 (tI x)]) (fun _ _ => True) (fun ys => ∃ k, ys = flK k X ∧ leftN k X = 0#64) (fun pre => ∃ k, pre = flK k X ∧ ∀ j, j < k → leftN j X ≠ 0#64) 64 w := fun l J Jx W hW _ _ hY h0 => by
  have hc' := (hW.cell (p := ⟨Bs, 0, none⟩) hBs).trans hc
  refine (each1b_in F n hf hro hn l Bs X J Jx hY W hc' h0).mono ?_
  rintro e W' ⟨he, ⟨ys, hk, hj⟩ | ⟨pre, hk, hj⟩⟩
  · exact ⟨he, .inl ⟨_, hk, hj⟩⟩
  · exact ⟨he, .inr ⟨_, hk, hj⟩⟩

set_option maxRecDepth 100000 in
set_option maxHeartbeats 2000000 in
theorem onlyb_any (X M : BitVec 64) (w : World) :
    Calls Tryd.prog 42 #[.agg #[.int .i64 (tI X)], .int .i64 (tI M)] w fun e w' => e = .returned (.bool (onlyB X M)) ∧ Below w.heap.size w w' := by
  refine (callsIn_wide (n := 9)).1 ?_
  refine callsIn_of_wp_marks Tryd.func42 rfl trivial ?_ rfl
  simp only [Tryd.ntmps42, List.size_toArray, List.length_cons, List.length_nil, Nat.reduceAdd, Nat.reduceSub, Array.replicate_succ, Array.replicate_zero, List.push_toArray, List.append_toArray, List.nil_append, List.cons_append]
  gi_wp2
  refine wpIn_scope_wide ?_
  gi_wp2
  refine wpIn_label ?_
  gi_wp2_with (refine ⟨trivial, ?_⟩; gi_at_call 49; refine (eachb_in Fence.wide _ trivial rfl X _).mono ?_; rintro e w' ⟨rfl, rfl⟩)
  obtain ⟨w0, hw0⟩ : ∃ w0, w0 = (((w.alloc (.cells #[.int .i64 (tI X)] 39)).alloc (.cells #[.int .i64 (tI M)] 37)).alloc (.cells #[.bool true] 4)).alloc (.cells #[.int .i64 (tI X)] 39) := ⟨_, rfl⟩
  have q1 : w0.cell? ⟨w.heap.size + 1, 0, none⟩ = some (.int .i64 (tI M)) := by rw [hw0]; go_simp
  have q2 : w0.cell? ⟨w.heap.size + 1 + 1, 0, none⟩ = some (.bool true) := by rw [hw0]; go_simp
  have q2f : w0.frozen? ⟨w.heap.size + 1 + 1, 0, none⟩ = false := by rw [hw0]; go_simp
  have q3 : w0.cell? ⟨w.heap.size + 1 + 1 + 1, 0, none⟩ = some (.int .i64 (tI X)) := by rw [hw0]; go_simp
  have hsz : w0.heap.size = w.heap.size + 1 + 1 + 1 + 1 := by rw [hw0]; simp
  have hB0 : Below w.heap.size w w0 := by rw [hw0]; exact ((((Below.refl _ w).alloc (Nat.le_refl _) _).alloc (by simp) _).alloc (by simp; omega) _).alloc (by simp; omega) _
  rw [← hw0]
  clear hw0
  refine wpIn_rangeFunc_ownF rfl (by omega) (gf := 53) (lb := #[.pointer (some ⟨w.heap.size + 1 + 1 + 1, 0, none⟩)]) rfl trivial (enters_of Tryd.func53 (by kernel_rfl) rfl)
    (eachb_stops Fence.wide _ trivial rfl (by omega) (w.heap.size + 1 + 1 + 1) X _ (by omega) q3) (fun _ _ => trivial) (fun _ _ _ _ _ _ _ _ => trivial) (Below.refl _ _) (fun _ => rfl)
    (fun pre W => (W.cell? ⟨w.heap.size + 1, 0, none⟩ = some (.int .i64 (tI M)) ∧ W.cell? ⟨w.heap.size + 1 + 1, 0, none⟩ = some (.bool true) ∧ W.frozen? ⟨w.heap.size + 1 + 1, 0, none⟩ = false ∧ ∀ x ∈ pre, x &&& M ≠ 0#64) ∧ Below w.heap.size w W)
    (fun c pre W => (c = .exit 0 ∧ W.cell? ⟨w.heap.size + 1 + 1, 0, none⟩ = some (.bool false) ∧ ∃ x ∈ pre, x &&& M = 0#64) ∧ Below w.heap.size w W)
    (OwnFrom.and (Own.from (fun s A B row hs hg hr => ⟨cell_kept hs.1 hg hr, cell_kept hs.2.1 hg hr, (frozen_kept hs.2.1 hg hr).trans hs.2.2.1, hs.2.2.2⟩) _) (ownFrom_below (Nat.le_refl _) (by omega)))
    (fun c => OwnFrom.and (Own.from (fun s A B row hs hg hr => ⟨hs.1, cell_kept hs.2.1 hg hr, hs.2.2⟩) _) (ownFrom_below (Nat.le_refl _) (by omega)))
    ⟨⟨q1, q2, q2f, fun x hx => by cases hx⟩, hB0⟩
    (fun x => { tmps := #[.agg #[.int .i64 (tI X)], .int .i64 (tI M), .pointer (some ⟨w.heap.size, 0, none⟩), .pointer (some ⟨w.heap.size + 1, 0, none⟩), .bool false, .pointer (some ⟨w.heap.size + 1 + 1, 0, none⟩), .int .i64 (tI x), .agg #[.int .i64 (tI X)], .func (.func 53) #[] #[.pointer (some ⟨w.heap.size + 1 + 1 + 1, 0, none⟩)], .int .i64 (tI x), undef, undef, undef, undef, undef], defers := [] }) ?assign ?body ?done ?stop
  case assign =>
    intro l x W K hK
    gi_wp2
    exact hK
  case body =>
    rintro l pre x W ⟨⟨h1, h2, h3, h4⟩, hB⟩ _
    clear q1 q2 q2f q3
    have H4 := Lib.hid h4
    clear h4
    have hand := band x M
    by_cases hx : x &&& M = 0#64
    · have hz : (tI (x &&& M) == 0) = true := by rw [hx]; rfl
      have HX := Lib.hid hx
      clear hx
      generalize hY : x &&& M = Y at *
      have HY := Lib.hid hY
      clear hY
      gi_wp2
      refine ⟨KeepsOthers.setCell _ _ _, ⟨rfl, World.cell?_setCell_same' _ _ _ (by rw [h2]; rfl), x, by simp, HY.out.trans HX.out⟩, hB.setCell (p := ⟨w.heap.size + 1 + 1, 0, none⟩) (by simp; omega) _⟩
    · have hz : (tI (x &&& M) == 0) = false := by rw [beq0, beq_eq_false_iff_ne]; exact hx
      have HX := Lib.hid hx
      clear hx
      generalize hY : x &&& M = Y at *
      have HY := Lib.hid hY
      clear hY
      gi_wp2
      refine ⟨KeepsOthers.refl _, trivial, ⟨h1, h2, h3, fun y hy => ?_⟩, hB⟩
      rcases List.mem_append.1 hy with hy | hy
      · exact H4.out y hy
      · obtain rfl := List.mem_singleton.1 hy
        rw [HY.out]; exact HX.out
  case done =>
    rintro D ys W hD ⟨k, rfl, hk⟩ ⟨⟨_, h2, _, h4⟩, hB⟩ hK
    have HH := Lib.hid (only_yes hk h4)
    clear h4 hk q1 q2 q2f q3
    gi_wp2
    refine ⟨by simp, .inl ⟨_, _, rfl, run_takeDeferred hK, ?_⟩⟩
    exact ⟨_, results_tmp rfl _ _ _, by rw [HH.out]; rfl, hB.trans (belowK_b (w := w) (Nat.le_refl _) W D _ _ (by omega) hK rfl rfl)⟩
  case stop =>
    rintro D c pre W hD ⟨k, rfl, hk⟩ ⟨⟨rfl, h2, hx⟩, hB⟩ hK
    have HH := Lib.hid (only_no hk hx)
    clear hx hk q1 q2 q2f q3
    gi_wp2
    refine ⟨by simp, .inl ⟨_, _, rfl, run_takeDeferred hK, ?_⟩⟩
    exact ⟨_, results_tmp rfl _ _ _, by rw [HH.out]; rfl, hB.trans (belowK_b (w := w) (Nat.le_refl _) W D _ _ (by omega) hK rfl rfl)⟩

set_option maxHeartbeats 400000 in
theorem hasb_any (X M : BitVec 64) (w : World) :
    Calls Tryd.prog 40 #[.agg #[.int .i64 (tI X)], .int .i64 (tI M)] w fun e w' => e = .returned (.bool !(X &&& M == 0#64)) ∧ Below w.heap.size w w' := by
  have hand := band X M
  have hz : (tI (X &&& M) != 0) = !(X &&& M == 0#64) := by rw [bne, beq0]
  generalize X &&& M = Y at *
  go_enter Tryd.func40, Tryd.ntmps40
  go_wp2
  go_ret
  exact ⟨rfl, (Below.refl _ _).alloc (Nat.le_refl _) _⟩

set_option maxHeartbeats 400000 in
theorem partb_any (X M : BitVec 64) (w : World) :
    Calls Tryd.prog 39 #[.agg #[.int .i64 (tI X)], .int .i64 (tI M)] w fun e w' => e = .returned (.int .i64 (tI (X &&& M))) ∧ Below w.heap.size w w' := by
  have hand := band X M
  generalize X &&& M = Y at *
  go_enter Tryd.func39, Tryd.ntmps39
  go_wp2
  go_ret
  exact ⟨rfl, (Below.refl _ _).alloc (Nat.le_refl _) _⟩

set_option maxRecDepth 100000 in
set_option maxHeartbeats 2000000 in
theorem each1k_in (F : Fence) (n : Nat) (hf : F.fn 54) (hro : F.round = none) (hn : 1 ≤ n) (l Bs : Nat) (X : BitVec 64) (J Jx : List (BitVec 64) → World → Prop)
    (hY : ∀ pre (x : BitVec 64) W, J pre W → pre.length < 64 → YieldAt F (n - 1) Tryd.prog l #[.int .i64 (tI x)] W fun e W' =>
      (e = .returned (.bool true) ∧ J (pre ++ [x]) W' ∧ True) ∨ (e = .returned (.bool false) ∧ Jx (pre ++ [x]) W'))
    (W : World) (hBs : W.cell? ⟨Bs, 0, none⟩ = some (.int .i64 (tI X))) (h0 : J [] W) :
    CallsIn F n Tryd.prog 54 #[.func (.yield l) #[] #[], .pointer (some ⟨Bs, 0, none⟩)] W fun e W' => (∃ v, e = .returned v) ∧
      ((∃ ys, (∃ k, ys = flK k X ∧ leftN k X = 0#64) ∧ J ys W') ∨ (∃ pre, (∃ k, pre = flK k X ∧ ∀ j, j < k → leftN j X ≠ 0#64) ∧ Jx pre W')) := by
  refine callsIn_of_wp Tryd.func54 rfl hf ?_ hro
  simp only [Tryd.ntmps54, List.size_toArray, List.length_cons, List.length_nil, Nat.reduceAdd, Nat.reduceSub, Array.replicate_succ, Array.replicate_zero, List.push_toArray, List.append_toArray, List.nil_append, List.cons_append]
  gi_wp2
  gi_loopw [3] (fun q wr => ∃ k : Nat, k ≤ 64 ∧ q = .int .i64 (tI (leftN k X)) ∧ J (flK k X) wr ∧ ∀ j, j < k → leftN j X ≠ 0#64)
    (fun q _ => (BitVec.ofInt 64 (intOf q)).toNat)
  case atStart => exact ⟨0, Nat.zero_le _, rfl, h0, fun j hj => by omega⟩
  case round =>
    obtain ⟨k, hk, rfl, hJs, hnz⟩ := hrel
    have HN := Lib.hid hnz
    clear hBs hnz
    by_cases hz : leftN k X = 0#64
    · have HZ := Lib.hid hz
      have hq : (tI (leftN k X) != 0) = false := by rw [hz]; rfl
      clear hz
      gi_wp2
      go_end0
      exact ⟨⟨_, rfl⟩, .inl ⟨_, ⟨k, rfl, HZ.out⟩, hJs⟩⟩
    · have hk64 : k < 64 := by
        rcases Nat.lt_or_ge k 64 with h | h
        · exact h
        · obtain rfl : k = 64 := by omega
          exact absurd (left_64 X) hz
      have hq : (tI (leftN k X) != 0) = true := by
        rw [bne, beq0, beq_eq_false_iff_ne.2 hz]; rfl
      obtain ⟨fn, tmps, assign, body, hy, hR⟩ := hY _ (lowF (leftN k X)) wr hJs (by rw [flK_length]; exact hk64)
      have HS := Lib.hid (show flK (k + 1) X = flK k X ++ [lowF (leftN k X)] from rfl)
      have HL := Lib.hid (left_succ k X)
      have HLT := Lib.hid (low_less hz)
      have HN1 := Lib.hid (show ∀ j, j < k + 1 → leftN j X ≠ 0#64 from fun j hj => by
        rcases Nat.lt_or_ge j k with h | h
        · exact HN.out j h
        · obtain rfl : j = k := by omega
          exact hz)
      have HZ := Lib.hid hz
      clear hz
      generalize leftN k X = Y at *
      have e1 : IntKind.i64.wrap (-tI Y) = tI (-Y) := bneg Y
      have e2 : bits BinOp.and IntKind.i64 (tI Y) (tI (-Y)) = tI (lowF Y) := band Y (-Y)
      have e3 : IntKind.i64.wrap (tI Y - 1) = tI (Y - 1#64) := bsub Y 1#64
      have e4 : bits BinOp.and IntKind.i64 (tI Y) (tI (Y - 1#64)) = tI (othF Y) := band Y (Y - 1#64)
      generalize -Y = Y1 at *
      generalize Y - 1#64 = Y2 at *
      generalize hF : lowF Y = F1 at *
      generalize hO : othF Y = O1 at *
      gi_wp2
      refine hR.mono ?_
      rintro e W3 (⟨rfl, hJ3, _⟩ | ⟨rfl, hJx3⟩)
      · gi_wp2
        go_roundw
        case rel => exact ⟨k + 1, by omega, by rw [HL.out], by rw [HS.out]; exact hJ3, HN1.out⟩
        case measure =>
          show (BitVec.ofInt 64 (tI O1)).toNat < (BitVec.ofInt 64 (tI Y)).toNat
          rw [ofInt_tI, ofInt_tI]
          exact HLT.out
      · gi_wp2
        refine bodyPost_ret (results_none rfl _ _ _) rfl ?_
        exact ⟨⟨_, rfl⟩, .inr ⟨_, ⟨k + 1, HS.out.symm, HN1.out⟩, hJx3⟩⟩

set_option maxHeartbeats 1000000 in
theorem eachk_in (F : Fence) (n : Nat) (hf : F.fn 50) (hro : F.round = none) (X : BitVec 64) (w : World) :
    CallsIn F n Tryd.prog 50 #[.agg #[.int .i64 (tI X)]] w fun e w' => e = .returned (.func (.func 54) #[] #[.pointer (some ⟨w.heap.size, 0, none⟩)]) ∧ w' = w.alloc (.cells #[.int .i64 (tI X)] 53) := by
  have hmf : ∀ (fn : Fn) (first cap : Array Value) (w : World), (Instr.makeFunc fn first cap).run Tryd.prog w = .ok (.func fn first cap) w := fun _ _ _ _ => rfl
  refine callsIn_of_wp Tryd.func50 rfl hf ?_ hro
  simp only [Tryd.ntmps50, List.size_toArray, List.length_cons, List.length_nil, Nat.reduceAdd, Nat.reduceSub, Array.replicate_succ, Array.replicate_zero, List.push_toArray, List.append_toArray, List.nil_append, List.cons_append]
  gi_wp2
  go_ret
  exact ⟨rfl, rfl⟩

theorem eachk_stops (F : Fence) (n : Nat) (hf : F.fn 54) (hro : F.round = none) (hn : 1 ≤ n) (Bs : Nat) (X : BitVec 64) (w : World) (hBs : Bs < w.heap.size) (hc : w.cell? ⟨Bs, 0, none⟩ = some (.int .i64 (tI X))) :
    SeqStopsK F n Tryd.prog 54 #[.pointer (some ⟨Bs, 0, none⟩)] (fun x : BitVec 64 => #[Value.int .i64 (tI x)]) (fun _ _ => True) (fun ys => ∃ k, ys = flK k X ∧ leftN k X = 0#64) (fun pre => ∃ k, pre = flK k X ∧ ∀ j, j < k → leftN j X ≠ 0#64) 64 w := fun l J Jx W hW _ _ hY h0 => by
  have hc' := (hW.cell (p := ⟨Bs, 0, none⟩) hBs).trans hc
  refine (each1k_in F n hf hro hn l Bs X J Jx hY W hc' h0).mono ?_
  rintro e W' ⟨he, ⟨ys, hk, hj⟩ | ⟨pre, hk, hj⟩⟩
  · exact ⟨he, .inl ⟨_, hk, hj⟩⟩
  · exact ⟨he, .inr ⟨_, hk, hj⟩⟩

set_option maxRecDepth 100000 in
set_option maxHeartbeats 2000000 in
theorem onlyk_any (X M : BitVec 64) (w : World) :
    Calls Tryd.prog 45 #[.agg #[.int .i64 (tI X)], .int .i64 (tI M)] w fun e w' => e = .returned (.bool (onlyB X M)) ∧ Below w.heap.size w w' := by
  refine (callsIn_wide (n := 9)).1 ?_
  refine callsIn_of_wp_marks Tryd.func45 rfl trivial ?_ rfl
  simp only [Tryd.ntmps45, List.size_toArray, List.length_cons, List.length_nil, Nat.reduceAdd, Nat.reduceSub, Array.replicate_succ, Array.replicate_zero, List.push_toArray, List.append_toArray, List.nil_append, List.cons_append]
  gi_wp2
  refine wpIn_scope_wide ?_
  gi_wp2
  refine wpIn_label ?_
  gi_wp2_with (refine ⟨trivial, ?_⟩; gi_at_call 50; refine (eachk_in Fence.wide _ trivial rfl X _).mono ?_; rintro e w' ⟨rfl, rfl⟩)
  obtain ⟨w0, hw0⟩ : ∃ w0, w0 = (((w.alloc (.cells #[.int .i64 (tI X)] 53)).alloc (.cells #[.int .i64 (tI M)] 51)).alloc (.cells #[.bool true] 4)).alloc (.cells #[.int .i64 (tI X)] 53) := ⟨_, rfl⟩
  have q1 : w0.cell? ⟨w.heap.size + 1, 0, none⟩ = some (.int .i64 (tI M)) := by rw [hw0]; go_simp
  have q2 : w0.cell? ⟨w.heap.size + 1 + 1, 0, none⟩ = some (.bool true) := by rw [hw0]; go_simp
  have q2f : w0.frozen? ⟨w.heap.size + 1 + 1, 0, none⟩ = false := by rw [hw0]; go_simp
  have q3 : w0.cell? ⟨w.heap.size + 1 + 1 + 1, 0, none⟩ = some (.int .i64 (tI X)) := by rw [hw0]; go_simp
  have hsz : w0.heap.size = w.heap.size + 1 + 1 + 1 + 1 := by rw [hw0]; simp
  have hB0 : Below w.heap.size w w0 := by rw [hw0]; exact ((((Below.refl _ w).alloc (Nat.le_refl _) _).alloc (by simp) _).alloc (by simp; omega) _).alloc (by simp; omega) _
  rw [← hw0]
  clear hw0
  refine wpIn_rangeFunc_ownF rfl (by omega) (gf := 54) (lb := #[.pointer (some ⟨w.heap.size + 1 + 1 + 1, 0, none⟩)]) rfl trivial (enters_of Tryd.func54 (by kernel_rfl) rfl)
    (eachk_stops Fence.wide _ trivial rfl (by omega) (w.heap.size + 1 + 1 + 1) X _ (by omega) q3) (fun _ _ => trivial) (fun _ _ _ _ _ _ _ _ => trivial) (Below.refl _ _) (fun _ => rfl)
    (fun pre W => (W.cell? ⟨w.heap.size + 1, 0, none⟩ = some (.int .i64 (tI M)) ∧ W.cell? ⟨w.heap.size + 1 + 1, 0, none⟩ = some (.bool true) ∧ W.frozen? ⟨w.heap.size + 1 + 1, 0, none⟩ = false ∧ ∀ x ∈ pre, x &&& M ≠ 0#64) ∧ Below w.heap.size w W)
    (fun c pre W => (c = .exit 0 ∧ W.cell? ⟨w.heap.size + 1 + 1, 0, none⟩ = some (.bool false) ∧ ∃ x ∈ pre, x &&& M = 0#64) ∧ Below w.heap.size w W)
    (OwnFrom.and (Own.from (fun s A B row hs hg hr => ⟨cell_kept hs.1 hg hr, cell_kept hs.2.1 hg hr, (frozen_kept hs.2.1 hg hr).trans hs.2.2.1, hs.2.2.2⟩) _) (ownFrom_below (Nat.le_refl _) (by omega)))
    (fun c => OwnFrom.and (Own.from (fun s A B row hs hg hr => ⟨hs.1, cell_kept hs.2.1 hg hr, hs.2.2⟩) _) (ownFrom_below (Nat.le_refl _) (by omega)))
    ⟨⟨q1, q2, q2f, fun x hx => by cases hx⟩, hB0⟩
    (fun x => { tmps := #[.agg #[.int .i64 (tI X)], .int .i64 (tI M), .pointer (some ⟨w.heap.size, 0, none⟩), .pointer (some ⟨w.heap.size + 1, 0, none⟩), .bool false, .pointer (some ⟨w.heap.size + 1 + 1, 0, none⟩), .int .i64 (tI x), .agg #[.int .i64 (tI X)], .func (.func 54) #[] #[.pointer (some ⟨w.heap.size + 1 + 1 + 1, 0, none⟩)], .int .i64 (tI x), undef, undef, undef, undef, undef], defers := [] }) ?assign ?body ?done ?stop
  case assign =>
    intro l x W K hK
    gi_wp2
    exact hK
  case body =>
    rintro l pre x W ⟨⟨h1, h2, h3, h4⟩, hB⟩ _
    clear q1 q2 q2f q3
    have H4 := Lib.hid h4
    clear h4
    have hand := band x M
    by_cases hx : x &&& M = 0#64
    · have hz : (tI (x &&& M) == 0) = true := by rw [hx]; rfl
      have HX := Lib.hid hx
      clear hx
      generalize hY : x &&& M = Y at *
      have HY := Lib.hid hY
      clear hY
      gi_wp2
      refine ⟨KeepsOthers.setCell _ _ _, ⟨rfl, World.cell?_setCell_same' _ _ _ (by rw [h2]; rfl), x, by simp, HY.out.trans HX.out⟩, hB.setCell (p := ⟨w.heap.size + 1 + 1, 0, none⟩) (by simp; omega) _⟩
    · have hz : (tI (x &&& M) == 0) = false := by rw [beq0, beq_eq_false_iff_ne]; exact hx
      have HX := Lib.hid hx
      clear hx
      generalize hY : x &&& M = Y at *
      have HY := Lib.hid hY
      clear hY
      gi_wp2
      refine ⟨KeepsOthers.refl _, trivial, ⟨h1, h2, h3, fun y hy => ?_⟩, hB⟩
      rcases List.mem_append.1 hy with hy | hy
      · exact H4.out y hy
      · obtain rfl := List.mem_singleton.1 hy
        rw [HY.out]; exact HX.out
  case done =>
    rintro D ys W hD ⟨k, rfl, hk⟩ ⟨⟨_, h2, _, h4⟩, hB⟩ hK
    have HH := Lib.hid (only_yes hk h4)
    clear h4 hk q1 q2 q2f q3
    gi_wp2
    refine ⟨by simp, .inl ⟨_, _, rfl, run_takeDeferred hK, ?_⟩⟩
    exact ⟨_, results_tmp rfl _ _ _, by rw [HH.out]; rfl, hB.trans (belowK_b (w := w) (Nat.le_refl _) W D _ _ (by omega) hK rfl rfl)⟩
  case stop =>
    rintro D c pre W hD ⟨k, rfl, hk⟩ ⟨⟨rfl, h2, hx⟩, hB⟩ hK
    have HH := Lib.hid (only_no hk hx)
    clear hx hk q1 q2 q2f q3
    gi_wp2
    refine ⟨by simp, .inl ⟨_, _, rfl, run_takeDeferred hK, ?_⟩⟩
    exact ⟨_, results_tmp rfl _ _ _, by rw [HH.out]; rfl, hB.trans (belowK_b (w := w) (Nat.le_refl _) W D _ _ (by omega) hK rfl rfl)⟩

set_option maxHeartbeats 400000 in
theorem hask_any (X M : BitVec 64) (w : World) :
    Calls Tryd.prog 46 #[.agg #[.int .i64 (tI X)], .int .i64 (tI M)] w fun e w' => e = .returned (.bool !(X &&& M == 0#64)) ∧ Below w.heap.size w w' := by
  have hand := band X M
  have hz : (tI (X &&& M) != 0) = !(X &&& M == 0#64) := by rw [bne, beq0]
  generalize X &&& M = Y at *
  go_enter Tryd.func46, Tryd.ntmps46
  go_wp2
  go_ret
  exact ⟨rfl, (Below.refl _ _).alloc (Nat.le_refl _) _⟩

set_option maxHeartbeats 400000 in
theorem partk_any (X M : BitVec 64) (w : World) :
    Calls Tryd.prog 44 #[.agg #[.int .i64 (tI X)], .int .i64 (tI M)] w fun e w' => e = .returned (.int .i64 (tI (X &&& M))) ∧ Below w.heap.size w w' := by
  have hand := band X M
  generalize X &&& M = Y at *
  go_enter Tryd.func44, Tryd.ntmps44
  go_wp2
  go_ret
  exact ⟨rfl, (Below.refl _ _).alloc (Nat.le_refl _) _⟩

end Go.Proofs.YtlddkoblicnepaaDoor
