/- Contract of each of package eid: the parts in a row, as an iterator. -/
import Derived.Test.YtmbmolgkccjedaaGreatDoorEEnv
import Derived.RangeFuncNested
import Derived.RangeFuncBound
import Derived.RangeFuncCalls
import Derived.RangeFuncLeaves
import Derived.RangeFuncFrom
import Derived.Shelf.Abstract
import Derived.Shelf.RegionOpen
import Derived.OwnWalkIn
import Derived.TacticsInMore
import Derived.LoopNIn
import Derived.LoopIn
import Derived.Scope
import Derived.IntWalk
set_option linter.unusedVariables false
set_option linter.unusedSimpArgs false
namespace Go.Proofs.YtmbmolgkccjedaaGreatDoor
open Go.RowKit Go.Shelf

attribute [local go_sem] Oper.semAt_some

/-- Parts lie in block A. -/
structure PtsRd (A : Nat) (ps : List (ByteArray × Bool)) (w : World) : Prop where
  c0 : ∀ j x, ps[j]? = some x → w.cell? ⟨A, j * 2, none⟩ = some (.string x.1)
  c1 : ∀ j x, ps[j]? = some x → w.cell? ⟨A, j * 2 + 1, none⟩ = some (.bool x.2)
/-- The cells of block A stay. -/
def KeepA (A : Nat) (W W' : World) : Prop := ∀ (i : Nat) (u : Value), W.cell? ⟨A, i, none⟩ = some u → W'.cell? ⟨A, i, none⟩ = some u
theorem KeepA.trans {A : Nat} {X Y Z : World} (h : KeepA A X Y) (k : KeepA A Y Z) : KeepA A X Z := fun i u e => k i u (h i u e)
theorem KeepA.refl (A : Nat) (W : World) : KeepA A W W := fun _ _ e => e
theorem KeepA.below {A : Nat} {X Y : World} (h : Below X.heap.size X Y) : KeepA A X Y := fun i u e => (h.cell (World.block_lt_of_cell? _ _ e)).trans e
theorem KeepA.alloc {A : Nat} (X : World) (o : Obj) : KeepA A X (X.alloc o) := KeepA.below ((Below.refl _ _).alloc (Nat.le_refl _) _)
theorem KeepA.other {A : Nat} (X : World) (p : Addr) (v : Value) (h : p.block ≠ A) : KeepA A X (X.setCell p v) := fun i u e => by
  rw [World.cell?_setCell_other _ _ _ _ (by intro h2; exact h (congrArg Addr.block h2))]
  exact e
theorem keepA_b {A : Nat} {w : World} (W : World) (l : Nat) (o o' : Obj) (_ : w.heap.size ≤ l) (h : W.heap[l]? = some o) (hc : o.isCells = false) (_ : o.isWalk = false) : KeepA A W (W.putObj l o') := fun i u e =>
  cell_kept e (grownBy_putObj' _ l o') (fun r e => by cases e; exact ⟨_, h, hc⟩)
theorem PtsRd.keep {A : Nat} {ps : List (ByteArray × Bool)} {X Y : World} (h : PtsRd A ps X) (k : KeepA A X Y) : PtsRd A ps Y := ⟨fun j x e => k _ _ (h.c0 j x e), fun j x e => k _ _ (h.c1 j x e)⟩

set_option maxRecDepth 100000 in
set_option maxHeartbeats 2000000 in
theorem each1_inE (l n : Nat) (J Jx : List (ByteArray × Bool) → World → Prop) (A Q m : Nat) (ps : List (ByteArray × Bool)) (hm : ps.length = m) (hmx : m ≤ 1000)
    (hJ : ∀ pre W o, J pre W → J pre (W.alloc o))
    (hY : ∀ pre (x : ByteArray × Bool) W, J pre W → pre.length < m → YieldAt Fence.wide (n - 1) Tryz.prog l #[.agg #[.string x.1, .bool x.2]] W fun e W' =>
      (e = .returned (.bool true) ∧ J (pre ++ [x]) W' ∧ KeepA A W W') ∨ (e = .returned (.bool false) ∧ Jx (pre ++ [x]) W'))
    (W : World) (hQ : W.cell? ⟨Q, 0, none⟩ = some (.slice (some ⟨A, 0, none⟩) m m)) (hP : PtsRd A ps W) (h0 : J [] W) :
    CallsIn Fence.wide n Tryz.prog 118 #[.func (.yield l) #[] #[], .pointer (some ⟨Q, 0, none⟩)] W fun e W' => (∃ v, e = .returned v) ∧
      ((∃ ys, ys = ps ∧ J ys W') ∨ (∃ pre, pre <+: ps ∧ Jx pre W')) := by
  have HP := Lib.hid hP
  have HL := Lib.hid hm
  clear hP hm
  refine callsIn_of_wp Tryz.func118 rfl trivial ?_ rfl
  simp only [Tryz.ntmps118, List.size_toArray, List.length_cons, List.length_nil, Nat.reduceAdd, Nat.reduceSub, Array.replicate_succ, Array.replicate_zero, List.push_toArray, List.append_toArray, List.nil_append, List.cons_append]
  gi_wp2
  clear hQ
  gi_loopw [7] (fun i wr => ∃ k : Nat, k ≤ m ∧ i = .int .i64 (k : Int) ∧ J (ps.take k) wr ∧ KeepA A W wr) (fun i _ => m - (intOf i).toNat)
  case atStart => exact ⟨0, Nat.zero_le _, rfl, h0, KeepA.refl _ _⟩
  case round =>
    obtain ⟨k, hk, rfl, hJs, hkw⟩ := hrel
    have HKW := Lib.hid hkw
    clear hkw
    by_cases hlt : k < m
    · obtain ⟨x, hx⟩ : ∃ x, ps[k]? = some x := ⟨_, List.getElem?_eq_getElem (by have := HL.out; omega)⟩
      have hP1 := HP.out.keep HKW.out
      have k0 := hP1.c0 k x hx
      have k1 := hP1.c1 k x hx
      have HX := Lib.hid (show ps.take (k + 1) = ps.take k ++ [x] by rw [List.take_add_one, hx]; rfl)
      have HLT := Lib.hid (show (ps.take k).length < m by rw [List.length_take, HL.out]; omega)
      clear hP1 hx
      obtain ⟨fn, tmps, assign, body, hy, hR⟩ := hY (ps.take k) x (wr.alloc (.cells #[.string x.1, .bool x.2] 74)) (hJ _ _ _ hJs) HLT.out
      have HR := Lib.hid hR
      have HJ := Lib.hid hJ
      have HY := Lib.hid hY
      clear hR hJ hY hJs h0
      obtain ⟨xs, xb⟩ := x
      simp only at k0 k1 HR
      gi_wp2
      refine ⟨fun h => (by cases h), ?_⟩
      refine HR.out.mono ?_
      clear HR k0 k1
      rintro e W3 (⟨rfl, hJ3, hk3⟩ | ⟨rfl, hJx3⟩)
      · have HK3 := Lib.hid (HKW.out.trans ((KeepA.alloc _ _).trans hk3))
        have HJ3 := Lib.hid hJ3
        clear hk3 hJ3
        gi_wp2
        go_roundw
        case rel => exact ⟨k + 1, by omega, by go_num, by rw [HX.out]; exact HJ3.out, HK3.out⟩
        case measure => simp [intOf]; omega
      · have HJ3 := Lib.hid hJx3
        clear hJx3
        gi_wp2
        refine bodyPost_ret (results_none rfl _ _ _) rfl ?_
        refine ⟨⟨_, rfl⟩, .inr ⟨_, ?_, HJ3.out⟩⟩
        rw [← HX.out]
        exact List.take_prefix _ _
    · obtain rfl : k = m := by omega
      have HJS := Lib.hid hJs
      clear hJs h0
      gi_wp2
      go_end0
      exact ⟨⟨_, rfl⟩, .inl ⟨_, rfl, by rw [List.take_of_length_le (by rw [HL.out]; exact Nat.le_refl _)] at HJS; exact HJS.out⟩⟩

/-- The parts in a row, as an iterator that a round may stop. -/
theorem each_stopsE (n : Nat) (A Q m : Nat) (ps : List (ByteArray × Bool)) (hm : ps.length = m) (hmx : m ≤ 1000) (w : World) (hQ : w.cell? ⟨Q, 0, none⟩ = some (.slice (some ⟨A, 0, none⟩) m m)) (hP : PtsRd A ps w) :
    SeqStopsK Fence.wide n Tryz.prog 118 #[.pointer (some ⟨Q, 0, none⟩)] (fun x : ByteArray × Bool => #[Value.agg #[.string x.1, .bool x.2]]) (KeepA A) (fun ys => ys = ps) (fun pre => pre <+: ps) m w := fun l J Jx W hW hJ _ hY h0 => by
  refine (each1_inE l n J Jx A Q m ps hm hmx (fun pre W' o h => hJ _ _ _ none h (World.grownBy_alloc W' o none) (fun r e => by cases e)) hY W ((hW.cell (World.block_lt_of_cell? _ _ hQ)).trans hQ) (hP.keep (KeepA.below hW)) h0).mono ?_
  rintro e W' ⟨he, ⟨ys, hk, hj⟩ | ⟨ys, hk, hj⟩⟩
  · exact ⟨he, .inl ⟨_, hk, hj⟩⟩
  · exact ⟨he, .inr ⟨_, hk, hj⟩⟩

set_option maxHeartbeats 1000000 in
theorem each_any (A m : Nat) (w : World) :
    Calls Tryz.prog 92 #[.slice (some ⟨A, 0, none⟩) m m] w fun e w' => e = .returned (.func (.func 118) #[] #[.pointer (some ⟨w.heap.size, 0, none⟩)]) ∧ w' = w.alloc (.cells #[.slice (some ⟨A, 0, none⟩) m m] 180) := by
  go_enter Tryz.func92, Tryz.ntmps92
  go_wp2
  go_ret
  exact ⟨rfl, rfl⟩

/-- A row of parts as an iterator's value. -/
def Pts (n : Nat) (ps : List (ByteArray × Bool)) (v : Value) (w : World) : Prop :=
  ∃ A Q : Nat, v = .func (.func 118) #[] #[.pointer (some ⟨Q, 0, none⟩)] ∧ n ≤ A ∧ A < w.heap.size ∧ w.cell? ⟨Q, 0, none⟩ = some (.slice (some ⟨A, 0, none⟩) ps.length ps.length) ∧ PtsRd A ps w
end Go.Proofs.YtmbmolgkccjedaaGreatDoor

/- The iterator of each of package eid again, over parts that bear a fact each. -/
set_option linter.unusedVariables false
set_option linter.unusedSimpArgs false
namespace Go.Proofs.YtmbmolgkccjedaaGreatDoor
open Go.RowKit Go.Shelf

attribute [local go_sem] Oper.semAt_some

set_option maxRecDepth 100000 in
set_option maxHeartbeats 2000000 in
theorem each1_of {α : Type} (val : α → ByteArray × Bool) (l n : Nat) (J Jx : List α → World → Prop) (A Q m : Nat) (ps : List α) (hm : ps.length = m) (hmx : m ≤ 1000)
    (hJ : ∀ pre W o, J pre W → J pre (W.alloc o))
    (hY : ∀ pre (x : α) W, J pre W → pre.length < m → YieldAt Fence.wide (n - 1) Tryz.prog l #[.agg #[.string (val x).1, .bool (val x).2]] W fun e W' =>
      (e = .returned (.bool true) ∧ J (pre ++ [x]) W' ∧ KeepA A W W') ∨ (e = .returned (.bool false) ∧ Jx (pre ++ [x]) W'))
    (W : World) (hQ : W.cell? ⟨Q, 0, none⟩ = some (.slice (some ⟨A, 0, none⟩) m m)) (hP : PtsRd A (ps.map val) W) (h0 : J [] W) :
    CallsIn Fence.wide n Tryz.prog 118 #[.func (.yield l) #[] #[], .pointer (some ⟨Q, 0, none⟩)] W fun e W' => (∃ v, e = .returned v) ∧
      ((∃ ys, ys = ps ∧ J ys W') ∨ (∃ pre, pre <+: ps ∧ Jx pre W')) := by
  have HP := Lib.hid hP
  have HL := Lib.hid hm
  clear hP hm
  refine callsIn_of_wp Tryz.func118 rfl trivial ?_ rfl
  simp only [Tryz.ntmps118, List.size_toArray, List.length_cons, List.length_nil, Nat.reduceAdd, Nat.reduceSub, Array.replicate_succ, Array.replicate_zero, List.push_toArray, List.append_toArray, List.nil_append, List.cons_append]
  gi_wp2
  clear hQ
  gi_loopw [7] (fun i wr => ∃ k : Nat, k ≤ m ∧ i = .int .i64 (k : Int) ∧ J (ps.take k) wr ∧ KeepA A W wr) (fun i _ => m - (intOf i).toNat)
  case atStart => exact ⟨0, Nat.zero_le _, rfl, h0, KeepA.refl _ _⟩
  case round =>
    obtain ⟨k, hk, rfl, hJs, hkw⟩ := hrel
    have HKW := Lib.hid hkw
    clear hkw
    by_cases hlt : k < m
    · obtain ⟨x, hx⟩ : ∃ x, ps[k]? = some x := ⟨_, List.getElem?_eq_getElem (by have := HL.out; omega)⟩
      have hP1 := HP.out.keep HKW.out
      have hxv : (ps.map val)[k]? = some (val x) := by rw [List.getElem?_map, hx]; rfl
      have k0 := hP1.c0 k _ hxv
      have k1 := hP1.c1 k _ hxv
      have HX := Lib.hid (show ps.take (k + 1) = ps.take k ++ [x] by rw [List.take_add_one, hx]; rfl)
      have HLT := Lib.hid (show (ps.take k).length < m by rw [List.length_take, HL.out]; omega)
      clear hP1 hx hxv
      obtain ⟨fn, tmps, assign, body, hy, hR⟩ := hY (ps.take k) x (wr.alloc (.cells #[.string (val x).1, .bool (val x).2] 74)) (hJ _ _ _ hJs) HLT.out
      have HR := Lib.hid hR
      have HJ := Lib.hid hJ
      have HY := Lib.hid hY
      clear hR hJ hY hJs h0
      generalize val x = vx at k0 k1 HR hy
      obtain ⟨xs, xb⟩ := vx
      simp only at k0 k1 HR hy
      gi_wp2
      refine ⟨fun h => (by cases h), ?_⟩
      refine HR.out.mono ?_
      clear HR k0 k1
      rintro e W3 (⟨rfl, hJ3, hk3⟩ | ⟨rfl, hJx3⟩)
      · have HK3 := Lib.hid (HKW.out.trans ((KeepA.alloc _ _).trans hk3))
        have HJ3 := Lib.hid hJ3
        clear hk3 hJ3
        gi_wp2
        go_roundw
        case rel => exact ⟨k + 1, by omega, by go_num, by rw [HX.out]; exact HJ3.out, HK3.out⟩
        case measure => simp [intOf]; omega
      · have HJ3 := Lib.hid hJx3
        clear hJx3
        gi_wp2
        refine bodyPost_ret (results_none rfl _ _ _) rfl ?_
        refine ⟨⟨_, rfl⟩, .inr ⟨_, ?_, HJ3.out⟩⟩
        rw [← HX.out]
        exact List.take_prefix _ _
    · obtain rfl : k = m := by omega
      have HJS := Lib.hid hJs
      clear hJs h0
      gi_wp2
      go_end0
      exact ⟨⟨_, rfl⟩, .inl ⟨_, rfl, by rw [List.take_of_length_le (by rw [HL.out]; exact Nat.le_refl _)] at HJS; exact HJS.out⟩⟩

/-- The parts in a row, as an iterator that a round may stop. -/
theorem each_stops_of {α : Type} (val : α → ByteArray × Bool) (n : Nat) (A Q m : Nat) (ps : List α) (hm : ps.length = m) (hmx : m ≤ 1000) (w : World) (hQ : w.cell? ⟨Q, 0, none⟩ = some (.slice (some ⟨A, 0, none⟩) m m)) (hP : PtsRd A (ps.map val) w) :
    SeqStopsK Fence.wide n Tryz.prog 118 #[.pointer (some ⟨Q, 0, none⟩)] (fun x : α => #[Value.agg #[.string (val x).1, .bool (val x).2]]) (KeepA A) (fun ys => ys = ps) (fun pre => pre <+: ps) m w := fun l J Jx W hW hJ _ hY h0 => by
  refine (each1_of val l n J Jx A Q m ps hm hmx (fun pre W' o h => hJ _ _ _ none h (World.grownBy_alloc W' o none) (fun r e => by cases e)) hY W ((hW.cell (World.block_lt_of_cell? _ _ hQ)).trans hQ) (hP.keep (KeepA.below hW)) h0).mono ?_
  rintro e W' ⟨he, ⟨ys, hk, hj⟩ | ⟨ys, hk, hj⟩⟩
  · exact ⟨he, .inl ⟨_, hk, hj⟩⟩
  · exact ⟨he, .inr ⟨_, hk, hj⟩⟩
end Go.Proofs.YtmbmolgkccjedaaGreatDoor
