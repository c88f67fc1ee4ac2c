/- What package crc stands on, where no more of package nums is reached than its Bytes at numbers that fit: texts of stage 1 (NumsA, Errs, NumsB, Told, Laid, NumsD, Pure, Refs), picked by wip/tools/pick.py. -/
import Derived.Test.YtpccbiopljmnlaaDoorChecked
import Derived.WalkKit
import Derived.WalkSpells
import Derived.WalkLawsBesides
import Derived.Lib.Hide
import Derived.Laws.ResultCell
import Derived.BigQuiet
import Derived.Deep.QuietTactic
import Derived.LaidEql
import Derived.Stop.Asserts
import Derived.RowKitTokens
import Derived.Deep.RegionWith
import Derived.Laws.MakeOwn
import Derived.LoopTactic
import Derived.Deep.OwnRows
import Derived.Laws.IdiomStrings
import Derived.RegionTactic
import Derived.RangeFuncNested
import Derived.RangeFuncBound
import Derived.RangeFuncCalls
import Derived.RangeFuncLeaves
import Derived.RangeFuncFrom
import Derived.Shelf.Abstract
import Derived.Shelf.RegionOpen
import Derived.OwnWalkIn
import Derived.TacticsInMore
import Derived.LoopNIn
import Derived.LoopIn
import Derived.Scope
import Derived.IntWalk
import Derived.Laws.BitsAllLaws
set_option linter.unusedVariables false
set_option linter.unusedSimpArgs false
namespace Go.Proofs.YtpccbiopljmnlaaDoor
open Go.RowKit Go.Extern.Stop Go.Stop Go.Extern Go.Shelf

theorem u8_info : (Tryd.prog.info? 5).map (fun i => (i.zero, i.size, i.bytes)) = some (some (.int .u8 0), 1, 1) := by kernel_rfl

def rightB (n : Int) : Bool := decide (0 ≤ n) && decide (n ≤ 281474976710655)

def widthB (n : Int) : Bool := decide (1 ≤ n) && decide (n ≤ 8)

set_option maxHeartbeats 400000 in
theorem right_any (n : Int) (w : World) :
    Calls Tryd.prog 58 #[.int .i64 n] w fun e w' => e = .returned (.bool (rightB n)) ∧ w = w' := by
  unfold rightB
  by_cases h0 : 0 ≤ n
  · by_cases h1 : n ≤ 281474976710655
    · go_enter Tryd.func58, Tryd.ntmps58
      go_wp2
      go_ret
      exact ⟨by simp [h0, h1], rfl⟩
    · have h1' : decide (n ≤ 281474976710655) = false := by simpa using h1
      go_enter Tryd.func58, Tryd.ntmps58
      go_wp2
      go_ret
      exact ⟨by simp [h0, h1], rfl⟩
  · have h0' : decide (0 ≤ n) = false := by simpa using h0
    go_enter Tryd.func58, Tryd.ntmps58
    go_wp2
    go_ret
    exact ⟨by simp [h0], rfl⟩

set_option maxHeartbeats 400000 in
theorem width_any (n : Int) (w : World) :
    Calls Tryd.prog 56 #[.int .i64 n] w fun e w' => e = .returned (.bool (widthB n)) ∧ w = w' := by
  unfold widthB
  by_cases h0 : 1 ≤ n
  · by_cases h1 : n ≤ 8
    · go_enter Tryd.func56, Tryd.ntmps56
      go_wp2
      go_ret
      exact ⟨by simp [h0, h1], rfl⟩
    · have h1' : decide (n ≤ 8) = false := by simpa using h1
      go_enter Tryd.func56, Tryd.ntmps56
      go_wp2
      go_ret
      exact ⟨by simp [h0, h1], rfl⟩
  · have h0' : decide (1 ≤ n) = false := by simpa using h0
    go_enter Tryd.func56, Tryd.ntmps56
    go_wp2
    go_ret
    exact ⟨by simp [h0], rfl⟩

set_option maxHeartbeats 400000 in
theorem refRight_any (n : Int) (w : World) :
    Calls Tryd.prog 37 #[.int .i64 n] w fun e w' => e = .returned (.bool (rightB n)) ∧ w = w' := by
  unfold rightB
  by_cases h0 : 0 ≤ n
  · by_cases h1 : n ≤ 281474976710655
    · go_enter Tryd.func37, Tryd.ntmps37
      go_wp2
      go_ret
      exact ⟨by simp [h0, h1], rfl⟩
    · have h1' : decide (n ≤ 281474976710655) = false := by simpa using h1
      go_enter Tryd.func37, Tryd.ntmps37
      go_wp2
      go_ret
      exact ⟨by simp [h0, h1], rfl⟩
  · have h0' : decide (0 ≤ n) = false := by simpa using h0
    go_enter Tryd.func37, Tryd.ntmps37
    go_wp2
    go_ret
    exact ⟨by simp [h0], rfl⟩

set_option maxHeartbeats 400000 in
theorem goods_any (s : ByteArray) (w : World) :
    Calls Tryd.prog 59 #[.string s] w fun e w' => e = .returned (.agg #[.string s, .nilIface]) ∧ w.alloc (.cells #[.string s, .nilIface] 78) = w' := by
  go_enter Tryd.func59, Tryd.ntmps59
  go_wp2
  exact bodyPost_ret (v := .agg #[.string s, .nilIface]) (by simp [results, Tryd.results59, go_sem]) rfl ⟨rfl, rfl⟩

theorem isTypeOf (v : Value) (w : World) : (Extern.ReflectliteType.typeOf #[.iface 117 v]).run Tryd.prog w = .ok (.iface 83 (.agg #[.pointer (some ⟨5, 117, none⟩)])) w := by kernel_rfl

theorem isComparable (w : World) : (callFunc 85 #[.agg #[.pointer (some ⟨5, 117, none⟩)]]).run Tryd.prog w = .ok (Next.value (.bool true)) w := by
  rw [run_callFunc_extern (e := Extern.ReflectliteType.method fun t => do Rtype.noPackHeld "Comparable" t; pure (.bool (← typeInfo t).comparable)) Tryd.func85 (by kernel_rfl) (by kernel_rfl) (by kernel_rfl) (by kernel_rfl)]
  kernel_rfl

theorem isMethodComparable (n : Nat) (v : Value) (w : World) : (Go.method (n + 1) 83 v "Comparable").run Tryd.prog w = .ok (85, v) w := by kernel_rfl

theorem isComp : (Tryd.prog.info? 117).map (·.comparable) = some true := by kernel_rfl

theorem isSize : (Tryd.prog.info? 142).map (·.size) = some 1 := by kernel_rfl

theorem noIsE (v : Value) (xT : TypeId) (w : World) : (Instr.typeAssert (.iface 117 v) xT 85 true).run Tryd.prog w = .ok (.tuple #[.nilIface, .bool false]) w := run_typeAssert_lacksB Tryd.underlying85 (by kernel_rfl) (by kernel_rfl) v xT w

theorem noUnwrapE (v : Value) (xT : TypeId) (w : World) : (Instr.typeAssert (.iface 117 v) xT 88 true).run Tryd.prog w = .ok (.tuple #[.nilIface, .bool false]) w := run_typeAssert_lacksB Tryd.underlying88 (by kernel_rfl) (by kernel_rfl) v xT w

theorem noUnwrapsE (v : Value) (xT : TypeId) (w : World) : (Instr.typeAssert (.iface 117 v) xT 90 true).run Tryd.prog w = .ok (.tuple #[.nilIface, .bool false]) w := run_typeAssert_lacksB Tryd.underlying90 (by kernel_rfl) (by kernel_rfl) v xT w

set_option maxRecDepth 100000 in
set_option maxHeartbeats 1000000 in
/-- errors.Is(x, x), x a pointer to an errors.errorString. -/
theorem is_same (a : Addr) (w : World) :
    Calls Tryd.prog 32 #[.iface 117 (.pointer (some a)), .iface 117 (.pointer (some a))] w fun e w' => e = .returned (.bool true) ∧ w = w' := by
  obtain ⟨i, hi, hcmp⟩ := Option.map_eq_some_iff.1 isComp
  obtain ⟨j, hj, hjs⟩ := Option.map_eq_some_iff.1 isSize
  have h8 := @run_callFunc_extern Tryd.prog 39 _ Extern.ReflectliteType.typeOf Tryd.func39 (by kernel_rfl) (by kernel_rfl) (by kernel_rfl) (by kernel_rfl)
  have tT := isTypeOf
  have cT := isComparable
  have mR := isMethodComparable
  have heq := run_eql_iface_ptr_same (P := Tryd.prog) w a Tryd.underlying47 Tryd.underlying117 hi hcmp hj
  go_enter Tryd.func32, Tryd.ntmps32
  go_wp2
  refine wp_loop_rounds 1 ?_
  rw [rounds_succ]
  go_wp2
  go_ret
  exact ⟨rfl, rfl⟩

set_option maxRecDepth 100000 in
set_option maxHeartbeats 1000000 in
/-- errors.Is(x, y), two different pointers to errors.errorString. -/
theorem is_other (a b : Addr) (ca cb : Array Value) (ta tb : TypeId) (w : World) (hne : a ≠ b) (ha : w.heap[a.block]? = some (.cells ca ta (0, 0))) (hb : w.heap[b.block]? = some (.cells cb tb (0, 0))) :
    Calls Tryd.prog 32 #[.iface 117 (.pointer (some a)), .iface 117 (.pointer (some b))] w fun e w' => e = .returned (.bool false) ∧ w = w' := by
  obtain ⟨i, hi, hcmp⟩ := Option.map_eq_some_iff.1 isComp
  obtain ⟨j, hj, hjs⟩ := Option.map_eq_some_iff.1 isSize
  have h8 := @run_callFunc_extern Tryd.prog 39 _ Extern.ReflectliteType.typeOf Tryd.func39 (by kernel_rfl) (by kernel_rfl) (by kernel_rfl) (by kernel_rfl)
  have tT := isTypeOf
  have cT := isComparable
  have mR := isMethodComparable
  have nE := noIsE
  have uE := noUnwrapE
  have vE := noUnwrapsE
  have heq := run_eql_iface_ptr_other (P := Tryd.prog) w Tryd.underlying47 Tryd.underlying117 hi hcmp hj (by rw [hjs]; decide) hne ha hb
  go_enter Tryd.func32, Tryd.ntmps32
  go_wp2
  refine wp_loop_rounds 1 ?_
  rw [rounds_succ]
  go_wp2
  go_ret
  exact ⟨rfl, rfl⟩

theorem lt_of_heap {w : World} {k : Nat} {x : Obj} (h : w.heap[k]? = some x) : k < w.heap.size := by
  rcases Nat.lt_or_ge k w.heap.size with h' | h'
  · exact h'
  · simp [Array.getElem?_eq_none h'] at h

set_option maxHeartbeats 400000 in
theorem tells_ok (s : ByteArray) (w : World) :
    Calls Tryd.prog 45 #[.agg #[.string s, .nilIface]] w fun e w' => e = .returned (.tuple #[.string s, .int .i64 0]) ∧ Below w.heap.size w w' := by
  go_enter Tryd.func45, Tryd.ntmps45
  go_wp2
  go_ret2
  exact ⟨rfl, (Below.refl _ _).alloc (Nat.le_refl _) _⟩

theorem bcell {W w1 : World} (hb : Below W.heap.size W w1) : (∀ b o, b < W.heap.size → w1.cell? ⟨b, o, none⟩ = W.cell? ⟨b, o, none⟩) ∧ (∀ b o, b < W.heap.size → w1.frozen? ⟨b, o, none⟩ = W.frozen? ⟨b, o, none⟩) :=
  ⟨fun b o h => hb.cell (p := ⟨b, o, none⟩) h, fun b o h => hb.frozen (p := ⟨b, o, none⟩) h⟩

theorem two_cells {w : World} {b : Nat} {x y : Value} (c0 : w.cell? ⟨b, 0, none⟩ = some x) (c1 : w.cell? ⟨b, 1, none⟩ = some y) :
    (∀ u, (w.setCell ⟨b, 0, none⟩ u).cell? ⟨b, 0, none⟩ = some u) ∧ (∀ u v, ((w.setCell ⟨b, 0, none⟩ u).setCell ⟨b, 1, none⟩ v).cell? ⟨b, 1, none⟩ = some v) :=
  ⟨fun u => World.cell?_setCell_same' _ _ _ (by rw [c0]; rfl), fun u v => World.cell?_setCell_same' _ _ _ (by simp [go_sem, c1])⟩

/-- The number whose bytes these are, the greatest part first. -/
def valL (l : List UInt8) : Nat := l.foldl (fun a b => 256 * a + b.toNat) 0

theorem valL_snoc (l : List UInt8) (b : UInt8) : valL (l ++ [b]) = 256 * valL l + b.toNat := by simp [valL]

theorem foldl_val (l : List UInt8) : ∀ a : Nat, l.foldl (fun a b => 256 * a + b.toNat) a = 256 ^ l.length * a + valL l := by
  induction l with
  | nil => intro a; simp [valL]
  | cons b r ih =>
    intro a
    have e1 := ih (256 * a + b.toNat)
    have e2 := ih (256 * 0 + b.toNat)
    simp only [List.foldl_cons, List.length_cons, valL] at *
    rw [e1, e2, Nat.pow_succ]
    simp only [Nat.mul_add, Nat.mul_zero, Nat.zero_add, Nat.mul_assoc, Nat.add_assoc]

theorem valL_append (l r : List UInt8) : valL (l ++ r) = 256 ^ r.length * valL l + valL r := by
  unfold valL
  rw [List.foldl_append, foldl_val r]
  rfl

theorem valL_le_append (l r : List UInt8) : valL l ≤ valL (l ++ r) := by
  rw [valL_append]
  have : 1 ≤ 256 ^ r.length := Nat.one_le_pow _ _ (by omega)
  calc valL l = 1 * valL l := by simp
    _ ≤ 256 ^ r.length * valL l := Nat.mul_le_mul_right _ this
    _ ≤ _ := by omega

theorem valL_lt (l : List UInt8) : valL l < 256 ^ l.length := by
  have h : ∀ (k : Nat) (l : List UInt8), l.length = k → valL l < 256 ^ k := by
    intro k
    induction k with
    | zero => intro l hl; have : l = [] := List.eq_nil_of_length_eq_zero hl; subst this; simp [valL]
    | succ k ih =>
      intro l hl
      obtain ⟨r, b, rfl⟩ : ∃ r b, l = r ++ [b] := by
        rcases List.eq_nil_or_concat l with rfl | ⟨r, b, rfl⟩
        · simp at hl
        · exact ⟨r, b, by simp⟩
      have := ih r (by simpa using hl)
      have hb := b.toNat_lt
      rw [valL_snoc, Nat.pow_succ]
      omega
  exact h _ l rfl

theorem cell_new_l (W : World) (v : Value) (t : TypeId) : (W.alloc (.cells #[v] t)).cell? ⟨W.heap.size, 0, none⟩ = some v ∧ (W.alloc (.cells #[v] t)).frozen? ⟨W.heap.size, 0, none⟩ = false := by
  constructor <;> go_simp

theorem cell_alloc_l {W : World} {a : Addr} {v : Value} (o : Obj) (h : W.cell? a = some v) : (W.alloc o).cell? a = some v := cell_kept h (World.grownBy_alloc W o none) (fun r e => by cases e)

theorem frozen_alloc_l {W : World} {a : Addr} {v : Value} (o : Obj) (h : W.cell? a = some v) (hf : W.frozen? a = false) : (W.alloc o).frozen? a = false := (frozen_kept h (World.grownBy_alloc W o none) (fun r e => by cases e)).trans hf

/-- What a loop's round keeps: the box at Bs. -/
def KeepCell (Bs : Nat) (v : Value) (W W' : World) : Prop := W.cell? ⟨Bs, 0, none⟩ = some v → W'.cell? ⟨Bs, 0, none⟩ = some v

theorem keepCell_t {Bs : Nat} {v : Value} {A B C : World} (h : KeepCell Bs v A B) (k : KeepCell Bs v B C) : KeepCell Bs v A C := fun e => k (h e)

theorem keepCell_b {Bs : Nat} {v : Value} {w : World} (W : World) (l : Nat) (o o' : Obj) (_ : w.heap.size ≤ l) (h : W.heap[l]? = some o) (hc : o.isCells = false) (_ : o.isWalk = false) : KeepCell Bs v W (W.putObj l o') :=
  fun e => cell_kept e (grownBy_putObj' _ l o') (fun r e => by cases e; exact ⟨_, h, hc⟩)

/-- The first k bytes of a text. -/
def firstB (s : ByteArray) (k : Nat) : List UInt8 := s.data.toList.take k

theorem firstB_succ (s : ByteArray) (k : Nat) (h : k < s.size) : firstB s (k + 1) = firstB s k ++ [s[k]] := by
  unfold firstB
  rw [List.take_succ_eq_append_getElem (by simpa using h)]; rfl

theorem firstB_length (s : ByteArray) (k : Nat) (h : k ≤ s.size) : (firstB s k).length = k := by
  unfold firstB
  rw [List.length_take]; simp; omega

theorem firstB_all (s : ByteArray) : firstB s s.size = s.data.toList := List.take_of_length_le (by simp)

theorem wpIn_scope_wide {n : Nat} {P : Program} {c : Code} {Q : Exit → Act → World → Prop} {a : Act} {w : World} (h : c.wpIn Fence.wide n P (Exit.noGoto Q) a w) : (Code.scope c).wpIn Fence.wide n P Q a w :=
  wpIn_wide.2 (wp_scope_straight (wpIn_wide.1 h))

theorem rightB_yes {m : Nat} (h : m ≤ 281474976710655) : rightB (m : Int) = true := by unfold rightB; simp; omega

theorem rightB_no {m : Nat} (h : 281474976710655 < m) : rightB (m : Int) = false := by unfold rightB; simp; omega

set_option maxRecDepth 100000 in
set_option maxHeartbeats 1000000 in
theorem lay_at (x : Int) (p len cap R bs bl : Nat) (v : Value) (w : World) (hx : 0 ≤ x) (hx' : x ≤ 281474976710655) (hp : p < len) (hlen : len ≤ 8)
    (c0 : w.cell? ⟨bs, 0, none⟩ = some (.slice (some ⟨R, 0, none⟩) len cap)) (c1 : w.cell? ⟨bl, 0, none⟩ = some (.int .i64 x)) (c2 : w.cell? ⟨R, p, none⟩ = some v) (f1 : w.frozen? ⟨bl, 0, none⟩ = false) (f2 : w.frozen? ⟨R, p, none⟩ = false) (hne : R ≠ bl) :
    Calls Tryd.prog 66 #[.int .i64 (p : Int), .pointer (some ⟨bl, 0, none⟩), .pointer (some ⟨bs, 0, none⟩)] w fun e w' => (∃ v, e = .returned v) ∧ (w.setCell ⟨R, p, none⟩ (.int .u8 (x % 256))).setCell ⟨bl, 0, none⟩ (.int .i64 (x / 256)) = w' := by
  go_enter Tryd.func66, Tryd.ntmps66
  go_wp2
  go_end0
  exact ⟨⟨_, rfl⟩, rfl⟩

theorem lay_any (x q : Int) (p len cap R bs bl : Nat) (v : Value) (w : World) (hq : q = p) (hx : 0 ≤ x) (hx' : x ≤ 281474976710655) (hp : p < len) (hlen : len ≤ 8)
    (c0 : w.cell? ⟨bs, 0, none⟩ = some (.slice (some ⟨R, 0, none⟩) len cap)) (c1 : w.cell? ⟨bl, 0, none⟩ = some (.int .i64 x)) (c2 : w.cell? ⟨R, p, none⟩ = some v) (f1 : w.frozen? ⟨bl, 0, none⟩ = false) (f2 : w.frozen? ⟨R, p, none⟩ = false) (hne : R ≠ bl) :
    Calls Tryd.prog 66 #[.int .i64 q, .pointer (some ⟨bl, 0, none⟩), .pointer (some ⟨bs, 0, none⟩)] w fun e w' => (∃ v, e = .returned v) ∧ (w.setCell ⟨R, p, none⟩ (.int .u8 (x % 256))).setCell ⟨bl, 0, none⟩ (.int .i64 (x / 256)) = w' := by
  subst hq
  exact lay_at x p len cap R bs bl v w hx hx' hp hlen c0 c1 c2 f1 f2 hne

/-- The byte j of the number n in the width k. -/
def byteAt (n : Nat) (k j : Nat) : Nat := n / 256 ^ (k - 1 - j) % 256

/-- The bytes of the number n in the width k, the greatest part first. -/
def beL (n k : Nat) : List UInt8 := (List.range k).map fun j => UInt8.ofNat (byteAt n k j)

theorem beL_length (n k : Nat) : (beL n k).length = k := by simp [beL]

/-- What holds of memory at a round's head, i places being left: the list's box, what is left of the number, the row. -/
structure LaidAt (n k : Nat) (w0 : World) (R i : Nat) (w : World) : Prop where
  list : w.cell? ⟨R + 1, 0, none⟩ = some (.slice (some ⟨R, 0, none⟩) k k)
  left : w.cell? ⟨R + 1 + 1, 0, none⟩ = some (.int .i64 ((n / 256 ^ (k - i) : Nat) : Int))
  fleft : w.frozen? ⟨R + 1 + 1, 0, none⟩ = false
  row : ∀ j, j < k → w.cell? ⟨R, j, none⟩ = some (.int .u8 (if j < i then 0 else (byteAt n k j : Int)))
  frow : ∀ j, j < k → w.frozen? ⟨R, j, none⟩ = false
  below : Below R w0 w
  le : i ≤ k

theorem LaidAt.step {n k R i : Nat} {w0 w : World} (h : LaidAt n k w0 R (i + 1) w) (hR : R = w0.heap.size) :
    LaidAt n k w0 R i ((w.setCell ⟨R, i, none⟩ (.int .u8 (((n / 256 ^ (k - (i + 1)) : Nat) : Int) % 256))).setCell ⟨R + 1 + 1, 0, none⟩ (.int .i64 (((n / 256 ^ (k - (i + 1)) : Nat) : Int) / 256))) := by
  have hle := h.le
  refine ⟨?_, ?_, ?_, ?_, ?_, ?_, by omega⟩
  · simp [go_sem, h.list]
  · rw [World.cell?_setCell_same' _ _ _ (by simp [go_sem, h.left])]
    congr 2
    have : k - i = (k - (i + 1)) + 1 := by omega
    rw [this, Nat.pow_succ, ← Nat.div_div_eq_div_mul]
    simp
  · simp [h.fleft]
  · intro j hj
    by_cases e : j = i
    · subst e
      have hr := h.row j hj
      have : k - (j + 1) = k - 1 - j := by omega
      simp [go_sem, hr, byteAt, this]
    · have hr := h.row j hj
      have hij : (j < i + 1) = (j < i) := by simp; omega
      simp only [hij] at hr
      rw [← hr]
      simp [go_sem, e]
  · intro j hj
    simp [h.frow j hj]
  · exact (h.below.setCell (p := ⟨R, i, none⟩) (Nat.le_refl _) _).setCell (p := ⟨R + 1 + 1, 0, none⟩) (by simp; omega) _

theorem LaidAt.start (n k : Nat) (w : World) :
    LaidAt n k w w.heap.size k (((w.alloc (.cells (madeCells #[.int .u8 0] k) 5)).alloc (.cells #[.slice (some ⟨w.heap.size, 0, none⟩) k k] 39)).alloc (.cells #[.int .i64 (n : Int)] 3)) := by
  refine ⟨by go_simp, ?_, by go_simp, ?_, ?_, (((Below.refl _ _).alloc (Nat.le_refl _) _).alloc (by simp) _).alloc (by simp; omega) _, Nat.le_refl _⟩
  · simp; go_simp
  · intro j hj
    rw [if_pos hj]
    exact (((World.rowIs_made w (.int .u8 0) k 5).alloc _).alloc _).cell hj
  · intro j hj
    exact (((World.rowIs_made w (.int .u8 0) k 5).alloc _).alloc _).frozen j

set_option maxRecDepth 100000 in
set_option maxHeartbeats 1000000 in
theorem laid_any (n k : Nat) (w : World) (hn : n ≤ 281474976710655) (hk1 : 1 ≤ k) (hk : k ≤ 8) :
    Calls Tryd.prog 60 #[.int .i64 (n : Int), .int .i64 (k : Int)] w fun e w' => e = .returned (.string ⟨(beL n k).toArray⟩) ∧ Below w.heap.size w w' := by
  have hmf : ∀ (fn : Fn) (first cap : Array Value) (w : World), (Instr.makeFunc fn first cap).run Tryd.prog w = .ok (.func fn first cap) w := fun _ _ _ _ => rfl
  have hmk := run_make_row' (P := Tryd.prog) 39 5 (.int .u8 0) 1 Tryd.underlying39 u8_info rfl .i64 .i64 k (by omega) (by omega)
  have hst := LaidAt.start n k w
  go_enter Tryd.func60, Tryd.ntmps60
  go_wp2
  go_loopw [8] (fun i wr => ∃ j : Nat, i = .int .i64 ((j : Int) - 1) ∧ LaidAt n k w w.heap.size j wr) (fun i _ => (intOf i + 1).toNat)
  case atStart => exact ⟨k, rfl, hst⟩
  case round =>
    obtain ⟨j, rfl, hL⟩ := hrel
    clear hst hmk
    cases j with
    | zero =>
      have c0 := hL.list
      have hcv := run_convert_bytes_back (P := Tryd.prog) wr 39 9 5 ⟨w.heap.size, 0, none⟩ k (beL n k) Tryd.underlying39 Tryd.underlying5 Tryd.underlying9 (fun j hj => by
        have hj' : j < k := by rw [beL_length] at hj; exact hj
        have hr := hL.row j hj'
        have hlt : byteAt n k j % 256 = byteAt n k j := by unfold byteAt; simp
        rcases j with _ | j <;> simp [beL, Addr.add, hr, hlt])
      rw [beL_length] at hcv
      have hb := hL.below
      go_wp2
      go_ret
      exact ⟨rfl, hb⟩
    | succ i =>
      have hle := hL.le
      have c0 := hL.list
      have c1 := hL.left
      have f1 := hL.fleft
      have c2 := hL.row i (by omega)
      have f2 := hL.frow i (by omega)
      have hx : n / 256 ^ (k - (i + 1)) ≤ 281474976710655 := Nat.le_trans (Nat.div_le_self _ _) hn
      have hS := hL.step rfl
      generalize n / 256 ^ (k - (i + 1)) = x at *
      go_wp2_with fail
      refine (lay_any _ _ i k k _ _ _ _ _ (by omega) (by omega) (by omega) (by omega) hk c0 c1 c2 f1 f2 (by omega)).mono ?_
      rintro e w' ⟨⟨v, rfl⟩, rfl⟩
      generalize (wr.setCell ⟨w.heap.size, i, none⟩ (.int .u8 ((x : Int) % 256))).setCell ⟨w.heap.size + 1 + 1, 0, none⟩ (.int .i64 ((x : Int) / 256)) = wn at *
      clear c0 c1 c2 f1 f2 hL
      go_wp2
      go_roundw
      case rel => exact ⟨i, by go_num, hS⟩
      case measure => simp [intOf]

theorem widthB_yes {k : Int} (h1 : 1 ≤ k) (h2 : k ≤ 8) : widthB k = true := by unfold widthB; simp; omega

theorem pow_256 (k : Nat) : 2 ^ (8 * k) = 256 ^ k := by rw [Nat.pow_mul]

theorem shr_no {n k : Nat} (h : n < 256 ^ k) : ((n : Int) / 2 ^ (8 * k) != 0) = false := by
  have e : (n : Int) / 2 ^ (8 * k) = ((n / 2 ^ (8 * k) : Nat) : Int) := by simp
  rw [e, Nat.div_eq_of_lt (by rw [pow_256]; exact h)]
  rfl

set_option maxRecDepth 100000 in
set_option maxHeartbeats 1000000 in
theorem spread_ok (n k : Nat) (w : World) (hn : n ≤ 281474976710655) (hk1 : 1 ≤ k) (hk : k ≤ 8) (hf : n < 256 ^ k) :
    Calls Tryd.prog 46 #[.int .i64 (n : Int), .int .i64 (k : Int)] w fun e w' => e = .returned (.agg #[.string ⟨(beL n k).toArray⟩, .nilIface]) ∧ Below w.heap.size w w' := by
  have hw := widthB_yes (k := (k : Int)) (by omega) (by omega)
  have hr := rightB_yes hn
  have hsh := shr_no hf
  clear hf
  have hL := Lib.hid (laid_any n k (w.alloc (.cells #[.string ⟨#[]⟩, .nilIface] 78)) hn hk1 hk)
  generalize (⟨(beL n k).toArray⟩ : ByteArray) = q at *
  go_enter Tryd.func46, Tryd.ntmps46
  go_wp2_with fail
  refine (width_any _ _).mono ?_
  rintro e w' ⟨rfl, rfl⟩
  go_wp2_with fail
  refine (right_any _ _).mono ?_
  rintro e w' ⟨rfl, rfl⟩
  go_wp2_with fail
  refine hL.out.mono ?_
  rintro e w1 ⟨rfl, hb1⟩
  obtain ⟨hc, hff⟩ := bcell hb1
  have hz0 : w.heap.size < w1.heap.size := by have := hb1.size; simp at this; omega
  go_wp2_with (go_at_call 59; refine (goods_any _ _).mono ?_; rintro e w' ⟨rfl, rfl⟩)
  obtain ⟨q0, q1⟩ := two_cells (w := w1) (b := w.heap.size) (x := .string ⟨#[]⟩) (y := .nilIface) ((hc w.heap.size 0 (by simp)).trans (by go_simp)) ((hc w.heap.size 1 (by simp)).trans (by go_simp))
  refine bodyPost_ret (v := .agg #[.string q, .nilIface]) (by simp [results, Tryd.results46, go_sem, hz0, Nat.lt_succ_of_lt hz0, Nat.ne_of_lt hz0, q0, q1]) rfl ⟨rfl, ?_⟩
  exact (((((Below.refl _ _).alloc (Nat.le_refl _) _).trans (hb1.mono (by simp))).setCell (by simp) _).setCell (by simp) _).alloc (by simp; omega) _

set_option maxHeartbeats 400000 in
theorem bytes_of_ok (q : ByteArray) (n k : Int) (w : World)
    (h : Calls Tryd.prog 46 #[.int .i64 n, .int .i64 k] w fun e w' => e = .returned (.agg #[.string q, .nilIface]) ∧ Below w.heap.size w w') :
    Calls Tryd.prog 36 #[.int .i64 n, .int .i64 k] w fun e w' => e = .returned (.tuple #[.string q, .int .i64 0]) ∧ Below w.heap.size w w' := by
  have H := Lib.hid h
  clear h
  go_enter Tryd.func36, Tryd.ntmps36
  go_wp2_with fail
  refine H.out.mono ?_
  rintro e w1 ⟨rfl, hb1⟩
  go_wp2_with fail
  refine (tells_ok q _).mono ?_
  rintro e w2 ⟨rfl, hb2⟩
  go_wp2
  go_ret2
  exact ⟨rfl, hb1.trans (hb2.mono hb1.size)⟩

theorem byteAt_lt (n k j : Nat) : byteAt n k j < 256 := Nat.mod_lt _ (by omega)

theorem beL_zero (n : Nat) : beL n 0 = [] := rfl

theorem beL_succ (n k : Nat) : beL n (k + 1) = beL (n / 256) k ++ [UInt8.ofNat (n % 256)] := by
  unfold beL
  rw [List.range_succ, List.map_append]
  congr 1
  · apply List.map_congr_left
    intro j hj
    rw [List.mem_range] at hj
    unfold byteAt
    have : k + 1 - 1 - j = (k - 1 - j) + 1 := by omega
    rw [this, Nat.pow_succ, Nat.mul_comm, ← Nat.div_div_eq_div_mul]
  · simp [byteAt]

theorem valL_beL (k : Nat) : ∀ n : Nat, valL (beL n k) = n % 256 ^ k := by
  induction k with
  | zero => intro n; simp [beL, valL, Nat.mod_one]
  | succ k ih =>
    intro n
    rw [beL_succ, valL_snoc, ih]
    have h1 : (UInt8.ofNat (n % 256)).toNat = n % 256 := by simp
    rw [h1, Nat.pow_succ, Nat.mul_comm (256 ^ k) 256, Nat.mod_mul]
    omega

theorem valL_beL_of_lt {n k : Nat} (h : n < 256 ^ k) : valL (beL n k) = n := by rw [valL_beL, Nat.mod_eq_of_lt h]

theorem beL_valL (k : Nat) : ∀ l : List UInt8, l.length = k → beL (valL l) k = l := by
  induction k with
  | zero => intro l hl; rw [List.eq_nil_of_length_eq_zero hl]; rfl
  | succ k ih =>
    intro l hl
    obtain ⟨r, b, rfl⟩ : ∃ r b, l = r ++ [b] := by
      rcases List.eq_nil_or_concat l with rfl | ⟨r, b, rfl⟩
      · simp at hl
      · exact ⟨r, b, by simp⟩
    have hb := b.toNat_lt
    rw [beL_succ, valL_snoc]
    have e1 : (256 * valL r + b.toNat) / 256 = valL r := by omega
    have e2 : (256 * valL r + b.toNat) % 256 = b.toNat := by omega
    rw [e1, e2, ih r (by simpa using hl)]
    simp

theorem beL_inj {n m k : Nat} (hn : n < 256 ^ k) (hm : m < 256 ^ k) (h : beL n k = beL m k) : n = m := by
  rw [← valL_beL_of_lt hn, ← valL_beL_of_lt hm, h]

theorem beL_head (n j : Nat) : beL n (j + 1) = UInt8.ofNat (n / 256 ^ j % 256) :: beL n j := by
  unfold beL
  rw [List.range_succ_eq_map, List.map_cons, List.map_map]
  congr 1
  apply List.map_congr_left
  intro i hi
  rw [List.mem_range] at hi
  simp only [Function.comp, byteAt]
  congr 4
  omega

theorem one_byte (x : Nat) (w : World) : (convert 39 9 (.slice (some ⟨w.heap.size, 0, none⟩) 1 1)).run Tryd.prog (w.alloc (.cells #[.int .u8 ((x : Int) % 256)] 5)) = .ok (.string ⟨#[UInt8.ofNat (x % 256)]⟩) (w.alloc (.cells #[.int .u8 ((x : Int) % 256)] 5)) := by
  have h := run_convert_bytes_back (P := Tryd.prog) (w.alloc (.cells #[.int .u8 ((x : Int) % 256)] 5)) 39 9 5 ⟨w.heap.size, 0, none⟩ 1 [UInt8.ofNat (x % 256)] Tryd.underlying39 Tryd.underlying5 Tryd.underlying9 (fun j hj => by
    obtain rfl : j = 0 := by simpa using hj
    simp [Addr.add])
  simpa using h

set_option maxRecDepth 100000 in
set_option maxHeartbeats 2000000 in
theorem refBytes_loop (n k : Nat) (w : World) (h1 : 1 ≤ k) (h8 : k ≤ 8) (hn : n ≤ 281474976710655) (r : ByteArray × Int) (hr : r = if n < 256 ^ k then (⟨(beL n k).toArray⟩, 0) else (⟨#[]⟩, 10)) :
    Calls Tryd.prog 30 #[.int .i64 (n : Int), .int .i64 (k : Int)] w fun e w' => e = .returned (.tuple #[.string r.1, .int .i64 r.2]) ∧ Below w.heap.size w w' := by
  have b1 : decide ((k : Int) < 1) = false := by simp; omega
  have b8 : decide (8 < (k : Int)) = false := by simp; omega
  have hR := rightB_yes hn
  have HRR := Lib.hid hr
  clear hr
  go_enter Tryd.func30, Tryd.ntmps30
  go_wp2_with (go_at_call 37; refine (refRight_any _ _).mono ?_; rintro e w' ⟨rfl, rfl⟩)
  go_loopw [0, 6, 7] (fun a b i wr => ∃ j : Nat, j ≤ k ∧ a = .int .i64 ((n / 256 ^ j : Nat) : Int) ∧ b = .string ⟨(beL n j).toArray⟩ ∧ i = .int .i64 (j : Int) ∧ Below w.heap.size w wr) (fun _ _ i _ => k - (intOf i).toNat)
  case atStart => exact ⟨0, Nat.zero_le _, by simp, rfl, rfl, Below.refl _ _⟩
  case round =>
    obtain ⟨j, hj, rfl, rfl, rfl, hB⟩ := hrel
    by_cases hlt : j < k
    · have hx : n / 256 ^ j ≤ 281474976710655 := Nat.le_trans (Nat.div_le_self _ _) hn
      have HN := Lib.hid (show n / 256 ^ (j + 1) = n / 256 ^ j / 256 by rw [Nat.pow_succ, ← Nat.div_div_eq_div_mul])
      have HL := Lib.hid (beL_head n j)
      have hbl : (beL n j).length ≤ 8 := by rw [beL_length]; omega
      generalize n / 256 ^ j = x at *
      generalize beL n j = l at *
      have hcv := one_byte x wr
      go_wp2
      go_roundw
      case rel => exact ⟨j + 1, by omega, by rw [HN.out]; go_num, by rw [HL.out]; rfl, by go_num, hB.alloc hB.size _⟩
      case measure => simp [intOf]; omega
    · obtain rfl : j = k := by omega
      by_cases hf : n < 256 ^ j
      · have e0 : n / 256 ^ j = 0 := Nat.div_eq_of_lt hf
        rw [if_pos hf] at HRR
        obtain rfl := HRR.out
        clear HRR
        rw [e0]
        clear e0
        have HF := Lib.hid hf
        clear hf
        go_wp2
        go_ret2
        exact ⟨rfl, hB⟩
      · have e0 : 0 < n / 256 ^ j := Nat.div_pos (Nat.le_of_not_lt hf) (Nat.pow_pos (by omega))
        rw [if_neg hf] at HRR
        obtain rfl := HRR.out
        clear HRR
        generalize n / 256 ^ j = x at *
        have e1 : ((x : Int) != 0) = true := by rw [bne_iff_ne]; omega
        clear hf
        go_wp2
        go_ret2
        exact ⟨rfl, hB⟩

end Go.Proofs.YtpccbiopljmnlaaDoor
