/- Contract of left of package sdnv, a text's bytes from a place on, as an iterator. -/
import Derived.RangeFuncNested
import Derived.RangeFuncBound
import Derived.RangeFuncCalls
import Derived.RangeFuncLeaves
import Derived.RangeFuncFrom
import Derived.Shelf.Abstract
import Derived.Shelf.RegionOpen
import Derived.WalkKit
import Derived.OwnWalkIn
import Derived.TacticsInMore
import Derived.LoopNIn
import Derived.LoopIn
import Derived.Scope
import Derived.IntWalk
import Derived.Test.YtajeanmmelldnaaDoorSLay
set_option linter.unusedVariables false
set_option linter.unusedSimpArgs false
namespace Go.Proofs.YtajeanmmelldnaaDoor
open Go.RowKit Go.Shelf

attribute [local go_sem] Oper.semAt_some

theorem cell_new_l (W : World) (v : Value) (t : TypeId) : (W.alloc (.cells #[v] t)).cell? ⟨W.heap.size, 0, none⟩ = some v ∧ (W.alloc (.cells #[v] t)).frozen? ⟨W.heap.size, 0, none⟩ = false := by
  constructor <;> go_simp
theorem cell_alloc_l {W : World} {a : Addr} {v : Value} (o : Obj) (h : W.cell? a = some v) : (W.alloc o).cell? a = some v := cell_kept h (World.grownBy_alloc W o none) (fun r e => by cases e)
theorem frozen_alloc_l {W : World} {a : Addr} {v : Value} (o : Obj) (h : W.cell? a = some v) (hf : W.frozen? a = false) : (W.alloc o).frozen? a = false := (frozen_kept h (World.grownBy_alloc W o none) (fun r e => by cases e)).trans hf

/-- What a loop's round keeps: the box at Bs. -/
def KeepCell (Bs : Nat) (v : Value) (W W' : World) : Prop := W.cell? ⟨Bs, 0, none⟩ = some v → W'.cell? ⟨Bs, 0, none⟩ = some v
theorem keepCell_t {Bs : Nat} {v : Value} {A B C : World} (h : KeepCell Bs v A B) (k : KeepCell Bs v B C) : KeepCell Bs v A C := fun e => k (h e)
theorem keepCell_b {Bs : Nat} {v : Value} {w : World} (W : World) (l : Nat) (o o' : Obj) (_ : w.heap.size ≤ l) (h : W.heap[l]? = some o) (hc : o.isCells = false) (_ : o.isWalk = false) : KeepCell Bs v W (W.putObj l o') :=
  fun e => cell_kept e (grownBy_putObj' _ l o') (fun r e => by cases e; exact ⟨_, h, hc⟩)
theorem wpIn_scope_wide {n : Nat} {P : Program} {c : Code} {Q : Exit → Act → World → Prop} {a : Act} {w : World} (h : c.wpIn Fence.wide n P (Exit.noGoto Q) a w) : (Code.scope c).wpIn Fence.wide n P Q a w :=
  wpIn_wide.2 (wp_scope_straight (wpIn_wide.1 h))

/-- The bytes of a text from a place on; none, if it is no place. -/
def dropB (s : ByteArray) (at0 : Int) : List UInt8 := if at0 < 0 then [] else s.data.toList.drop at0.toNat
/-- The first k bytes from the place a on. -/
def midB (s : ByteArray) (a k : Nat) : List UInt8 := (s.data.toList.drop a).take k
theorem midB_succ (s : ByteArray) (a k : Nat) (h : a + k < s.size) : midB s a (k + 1) = midB s a k ++ [s[a + k]] := by
  unfold midB
  rw [take_snoc' (x := s[a + k])]
  rw [List.getElem?_drop, List.getElem?_eq_getElem (by simpa using h)]
  rfl
theorem midB_length (s : ByteArray) (a k : Nat) (h : a + k ≤ s.size) : (midB s a k).length = k := by
  unfold midB
  rw [List.length_take, List.length_drop]; simp; omega
theorem midB_all (s : ByteArray) (a k : Nat) (h : a + k = s.size) : midB s a k = dropB s (a : Int) := by
  unfold midB dropB
  rw [if_neg (by omega), List.take_of_length_le]
  · simp
  · rw [List.length_drop]; simp; omega
theorem dropB_out (s : ByteArray) (at0 : Int) (h : at0 < 0 ∨ (s.size : Int) ≤ at0) : dropB s at0 = [] := by
  unfold dropB
  by_cases h0 : at0 < 0
  · rw [if_pos h0]
  · rw [if_neg h0]
    exact List.drop_of_length_le (by simp; omega)

set_option maxRecDepth 100000 in
set_option maxHeartbeats 2000000 in
theorem left1_in (F : Fence) (n : Nat) (hf : F.fn 45) (hro : F.round = none) (hn : 1 ≤ n) (l Bs a : Nat) (s : ByteArray) (hs : s.size ≤ 4611686018427387904) (ha : a ≤ s.size) (J Jx : List UInt8 → World → Prop)
    (hY : ∀ pre x W, J pre W → pre.length < s.size → YieldAt F (n - 1) Tryd.prog l #[.int .u8 ((x.toNat : Nat) : Int)] W fun e W' =>
      (e = .returned (.bool true) ∧ J (pre ++ [x]) W' ∧ KeepCell Bs (.string s) W W') ∨ (e = .returned (.bool false) ∧ Jx (pre ++ [x]) W'))
    (W : World) (hBs : W.cell? ⟨Bs, 0, none⟩ = some (.string s)) (hBa : W.cell? ⟨Bs, 1, none⟩ = some (.int .i64 (a : Int))) (h0 : J [] W) :
    CallsIn F n Tryd.prog 45 #[.func (.yield l) #[] #[], .pointer (some ⟨Bs, 0, none⟩)] W fun e W' => (∃ v, e = .returned v) ∧
      ((∃ ys, ys = dropB s (a : Int) ∧ J ys W') ∨ (∃ pre, (∃ k, a + k ≤ s.size ∧ pre = midB s a k) ∧ Jx pre W')) := by
  refine callsIn_of_wp Tryd.func45 rfl hf ?_ hro
  simp only [Tryd.ntmps45, List.size_toArray, List.length_cons, List.length_nil, Nat.reduceAdd, Nat.reduceSub, Array.replicate_succ, Array.replicate_zero, List.push_toArray, List.append_toArray, List.nil_append, List.cons_append]
  gi_wp2
  gi_loopw [3] (fun i wr => ∃ k : Nat, a + k ≤ s.size ∧ i = .int .i64 ((a + k : Nat) : Int) ∧ J (midB s a k) wr ∧ wr.cell? ⟨Bs, 0, none⟩ = some (.string s))
    (fun i _ => s.size - (intOf i).toNat)
  case atStart => exact ⟨0, by omega, by simp, by simpa [midB] using h0, hBs⟩
  case round =>
    obtain ⟨k, hk, rfl, hJs, hcx⟩ := hrel
    clear hBs hBa
    by_cases hlt : a + k < s.size
    · obtain ⟨fn, tmps, assign, body, hy, hR⟩ := hY _ s[a + k] wr hJs (by rw [midB_length s a k hk]; omega)
      gi_wp2
      refine hR.mono ?_
      rintro e W3 (⟨rfl, hJ3, hk3⟩ | ⟨rfl, hJx3⟩)
      · have hcx3 := hk3 hcx
        gi_wp2
        go_roundw
        case rel => exact ⟨k + 1, by omega, by simp; omega, by rw [midB_succ s a k hlt]; exact hJ3, hcx3⟩
        case measure => simp [intOf]; omega
      · gi_wp2
        refine bodyPost_ret (results_none rfl _ _ _) rfl ?_
        exact ⟨⟨_, rfl⟩, .inr ⟨_, ⟨k + 1, by omega, (midB_succ s a k hlt).symm⟩, hJx3⟩⟩
    · have he : a + k = s.size := by omega
      have HE := Lib.hid (midB_all s a k he)
      clear he
      gi_wp2
      go_end0
      exact ⟨⟨_, rfl⟩, .inl ⟨_, HE.out, hJs⟩⟩

set_option maxRecDepth 100000 in
set_option maxHeartbeats 2000000 in
theorem left1_out (F : Fence) (n : Nat) (hf : F.fn 45) (hro : F.round = none) (hn : 1 ≤ n) (l Bs : Nat) (at0 : Int) (s : ByteArray) (hs : s.size ≤ 4611686018427387904) (ha : at0 < 0 ∨ (s.size : Int) ≤ at0) (J : List UInt8 → World → Prop)
    (W : World) (hBs : W.cell? ⟨Bs, 0, none⟩ = some (.string s)) (hBa : W.cell? ⟨Bs, 1, none⟩ = some (.int .i64 at0)) (h0 : J [] W) :
    CallsIn F n Tryd.prog 45 #[.func (.yield l) #[] #[], .pointer (some ⟨Bs, 0, none⟩)] W fun e W' => (∃ v, e = .returned v) ∧ J [] W' := by
  refine callsIn_of_wp Tryd.func45 rfl hf ?_ hro
  simp only [Tryd.ntmps45, List.size_toArray, List.length_cons, List.length_nil, Nat.reduceAdd, Nat.reduceSub, Array.replicate_succ, Array.replicate_zero, List.push_toArray, List.append_toArray, List.nil_append, List.cons_append]
  rcases ha with ha | ha
  · have h1 : decide (0 ≤ at0) = false := by simp; omega
    have h2 : ¬ 0 ≤ at0 := by omega
    gi_wp2
    gi_loopw [3] (fun i wr => i = .int .i64 at0 ∧ wr = W) (fun i _ => 0)
    case atStart => exact ⟨rfl, rfl⟩
    case round =>
      obtain ⟨rfl, rfl⟩ := hrel
      gi_wp2
      go_end0
      exact ⟨⟨_, rfl⟩, h0⟩
  · have h1 : 0 ≤ at0 := by omega
    gi_wp2
    gi_loopw [3] (fun i wr => i = .int .i64 at0 ∧ wr = W) (fun i _ => 0)
    case atStart => exact ⟨rfl, rfl⟩
    case round =>
      obtain ⟨rfl, rfl⟩ := hrel
      gi_wp2
      go_end0
      exact ⟨⟨_, rfl⟩, h0⟩

set_option maxHeartbeats 1000000 in
theorem left_in (F : Fence) (n : Nat) (hf : F.fn 41) (hro : F.round = none) (s : ByteArray) (at0 : Int) (w : World) :
    CallsIn F n Tryd.prog 41 #[.agg #[.string s, .int .i64 at0]] w fun e w' => e = .returned (.func (.func 45) #[] #[.pointer (some ⟨w.heap.size, 0, none⟩)]) ∧ w' = w.alloc (.cells #[.string s, .int .i64 at0] 51) := by
  have hmf : ∀ (fn : Fn) (first cap : Array Value) (w : World), (Instr.makeFunc fn first cap).run Tryd.prog w = .ok (.func fn first cap) w := fun _ _ _ _ => rfl
  refine callsIn_of_wp Tryd.func41 rfl hf ?_ hro
  simp only [Tryd.ntmps41, List.size_toArray, List.length_cons, List.length_nil, Nat.reduceAdd, Nat.reduceSub, Array.replicate_succ, Array.replicate_zero, List.push_toArray, List.append_toArray, List.nil_append, List.cons_append]
  gi_wp2
  go_ret
  exact ⟨rfl, rfl⟩

theorem left_stops (F : Fence) (n : Nat) (hf : F.fn 45) (hro : F.round = none) (hn : 1 ≤ n) (Bs : Nat) (s : ByteArray) (at0 : Int) (hs : s.size ≤ 4611686018427387904) (w : World) (hBs : Bs < w.heap.size) (hc : w.cell? ⟨Bs, 0, none⟩ = some (.string s)) (hc1 : w.cell? ⟨Bs, 1, none⟩ = some (.int .i64 at0)) :
    SeqStopsK F n Tryd.prog 45 #[.pointer (some ⟨Bs, 0, none⟩)] (fun x : UInt8 => #[Value.int .u8 ((x.toNat : Nat) : Int)]) (KeepCell Bs (.string s)) (fun ys => ys = dropB s at0) (fun pre => pre <+: dropB s at0) s.size w := fun l J Jx W hW _ _ hY h0 => by
  have hc' := (hW.cell (p := ⟨Bs, 0, none⟩) hBs).trans hc
  have hc1' := (hW.cell (p := ⟨Bs, 1, none⟩) hBs).trans hc1
  by_cases ha : 0 ≤ at0 ∧ at0 ≤ s.size
  · obtain ⟨a, rfl⟩ := Int.eq_ofNat_of_zero_le ha.1
    refine (left1_in F n hf hro hn l Bs a s hs (by omega) J Jx hY W hc' hc1' h0).mono ?_
    rintro e W' ⟨he, ⟨ys, rfl, hj⟩ | ⟨pre, ⟨k, hk, rfl⟩, hj⟩⟩
    · exact ⟨he, .inl ⟨_, rfl, hj⟩⟩
    · refine ⟨he, .inr ⟨_, ?_, hj⟩⟩
      unfold midB dropB
      rw [if_neg (by omega)]
      exact List.take_prefix _ _
  · have ha' : at0 < 0 ∨ (s.size : Int) ≤ at0 := by omega
    refine (left1_out F n hf hro hn l Bs at0 s hs ha' J W hc' hc1' h0).mono ?_
    rintro e W' ⟨he, hj⟩
    exact ⟨he, .inl ⟨[], (dropB_out s at0 ha').symm, hj⟩⟩
end Go.Proofs.YtajeanmmelldnaaDoor
