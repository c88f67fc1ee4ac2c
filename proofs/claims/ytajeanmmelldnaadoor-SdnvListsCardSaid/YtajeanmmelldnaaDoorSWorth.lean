/- Contract of worth of package sdnv: the number that groups tell, or that it is too great. -/
import Derived.Test.YtajeanmmelldnaaDoorSTextG
set_option linter.unusedVariables false
set_option linter.unusedSimpArgs false
namespace Go.Proofs.YtajeanmmelldnaaDoor
open Go.RowKit Go.Shelf

attribute [local go_sem] Oper.semAt_some

theorem and_u8 (k : Nat) (h : k < 256) : bits BinOp.and IntKind.u8 (k : Int) 127 = ((k % 128 : Nat) : Int) := by
  have : ∀ k : Fin 256, bits BinOp.and IntKind.u8 ((k.val : Nat) : Int) 127 = ((k.val % 128 : Nat) : Int) := by decide +kernel
  exact this ⟨k, h⟩
theorem or_7 (a b : Nat) (ha : a ≤ 281474976710655) (hb : b < 128) : bits BinOp.or IntKind.i64 ((a : Int) * 128) (b : Int) = ((128 * a + b : Nat) : Int) := by
  unfold bits
  have e1 : BitVec.ofInt IntKind.i64.bits ((a : Int) * 128) = BitVec.ofNat IntKind.i64.bits (a * 128) := by
    have : ((a : Int) * 128) = ((a * 128 : Nat) : Int) := by omega
    rw [this, BitVec.ofInt_natCast]
  have e2 : BitVec.ofInt IntKind.i64.bits (b : Int) = BitVec.ofNat IntKind.i64.bits b := BitVec.ofInt_natCast _ _
  have hk : IntKind.i64.bits = 64 := rfl
  have e3 : (BitVec.ofNat IntKind.i64.bits (a * 128) ||| BitVec.ofNat IntKind.i64.bits b).toNat = 128 * a + b := by
    rw [BitVec.toNat_or, BitVec.toNat_ofNat, BitVec.toNat_ofNat, hk]
    rw [Nat.mod_eq_of_lt (by omega), Nat.mod_eq_of_lt (by omega)]
    have h := Nat.shiftLeft_add_eq_or_of_lt (i := 7) (b := b) (by omega) a
    rw [Nat.shiftLeft_eq] at h
    rw [show a * 128 = a * 2 ^ 7 from rfl, ← h]
    omega
  simp only [e1, e2, e3]
  exact IntWalk.i64_in _ (by omega)

/-- What memory holds while worth goes on: both results' cells, and the number so far. -/
structure WS (B : Nat) (r : Int) (v : Value) (n : Nat) (W : World) : Prop where
  c0 : W.cell? ⟨B, 0, none⟩ = some (.int .i64 r)
  f0 : W.frozen? ⟨B, 0, none⟩ = false
  c1 : W.cell? ⟨B + 1, 0, none⟩ = some v
  f1 : W.frozen? ⟨B + 1, 0, none⟩ = false
  cn : W.cell? ⟨B + 1 + 1, 0, none⟩ = some (.int .i64 ((n : Nat) : Int))
  fn : W.frozen? ⟨B + 1 + 1, 0, none⟩ = false
theorem WS.kept {B : Nat} {r : Int} {v : Value} {n : Nat} {A C : World} {row : Option Nat} (h : WS B r v n A) (hg : A.grownBy C row) (hr : ∀ r, row = some r → ∃ o, A.heap[r]? = some o ∧ o.isCells = false) : WS B r v n C :=
  ⟨cell_kept h.c0 hg hr, (frozen_kept h.c0 hg hr).trans h.f0, cell_kept h.c1 hg hr, (frozen_kept h.c1 hg hr).trans h.f1, cell_kept h.cn hg hr, (frozen_kept h.cn hg hr).trans h.fn⟩
theorem WS.setN {B : Nat} {r : Int} {v : Value} {n : Nat} {W : World} (h : WS B r v n W) (m : Nat) : WS B r v m (W.setCell ⟨B + 1 + 1, 0, none⟩ (.int .i64 ((m : Nat) : Int))) := by
  have h1 := h.c0
  have h2 := h.c1
  have h3 := h.cn
  have h4 := h.f0
  have h5 := h.f1
  have h6 := h.fn
  exact ⟨by simp [go_sem, h1], by simp [h4], by simp [go_sem, h2], by simp [h5], World.cell?_setCell_same' _ _ _ (by simp [h3]), by simp [h6]⟩
theorem WS.setR {B : Nat} {r : Int} {v : Value} {n : Nat} {W : World} (h : WS B r v n W) (r' : Int) (v' : Value) : WS B r' v' n ((W.setCell ⟨B, 0, none⟩ (.int .i64 r')).setCell ⟨B + 1, 0, none⟩ v') := by
  have h1 := h.c0
  have h2 := h.c1
  have h3 := h.cn
  have h4 := h.f0
  have h5 := h.f1
  have h6 := h.fn
  exact ⟨by simp [go_sem, h1], by simp [h4], World.cell?_setCell_same' _ _ _ (by simp [go_sem, h2]), by simp [h5], by simp [go_sem, h3], by simp [h6]⟩

/-- What worth answers of the groups l. -/
def WorthR (l : List UInt8) (w : World) (e : Ending) (w' : World) : Prop :=
  ((val7 l ≤ 281474976710655 ∧ e = .returned (.tuple #[.int .i64 ((val7 l : Nat) : Int), .nilIface])) ∨ (281474976710655 < val7 l ∧ e = .returned (.tuple #[.int .i64 0, .iface 62 (.agg #[.int .i64 10])]))) ∧ Below w.heap.size w w'

theorem heap_set2 {W : World} {B D : Nat} {X Y : Value} {o : Obj} (h : W.heap[D]? = some o) (hD : B + 1 < D) : ((W.setCell ⟨B, 0, none⟩ X).setCell ⟨B + 1, 0, none⟩ Y).heap[D]? = some o := by
  rw [Below.heap_setCell _ _ _ _ (by simp; omega), Below.heap_setCell _ _ _ _ (by simp; omega)]
  exact h
theorem worth_res {B : Nat} {r : Int} {v : Value} {n : Nat} {W : World} {tmps : Array Value} (h : WS B r v n W) (h2 : tmps[2]?.getD undef = .pointer (some ⟨B, 0, none⟩) := by rfl) (h3 : tmps[3]?.getD undef = .pointer (some ⟨B + 1, 0, none⟩) := by rfl) : (results Tryd.f36 tmps).run Tryd.prog W = .ok (.tuple #[.int .i64 r, v]) W := by
  have h0 := h.c0
  have h1 := h.c1
  simp [results, Tryd.results36, go_sem, h2, h3, h0, h1]

theorem dropB_zero (s : ByteArray) : dropB s 0 = s.data.toList := by simp [dropB]

set_option maxRecDepth 100000 in
set_option maxHeartbeats 2000000 in
theorem worth_any (s : ByteArray) (w : World) (hs : s.size ≤ 1000000) :
    Calls Tryd.prog 36 #[.string s] w (WorthR s.data.toList w) := by
  refine (callsIn_wide (n := 9)).1 ?_
  refine callsIn_of_wp_marks Tryd.func36 rfl trivial ?_ rfl
  simp only [Tryd.ntmps36, List.size_toArray, List.length_cons, List.length_nil, Nat.reduceAdd, Nat.reduceSub, Array.replicate_succ, Array.replicate_zero, List.push_toArray, List.append_toArray, List.nil_append, List.cons_append]
  gi_wp2_with (refine ⟨trivial, ?_⟩; gi_at_call 41; refine (left_in Fence.wide _ trivial rfl _ _ _).mono ?_; rintro e w' ⟨rfl, rfl⟩)
  have hB0 : Below w.heap.size w ((((w.alloc (.cells #[.int .i64 0] 3)).alloc (.cells #[.nilIface] 45)).alloc (.cells #[.int .i64 0] 3)).alloc (.cells #[.string s, .int .i64 0] 51)) := ((((Below.refl _ w).alloc (Nat.le_refl _) _).alloc (by simp) _).alloc (by simp; omega) _).alloc (by simp; omega) _
  have hG0 : WS w.heap.size 0 .nilIface 0 ((((w.alloc (.cells #[.int .i64 0] 3)).alloc (.cells #[.nilIface] 45)).alloc (.cells #[.int .i64 0] 3)).alloc (.cells #[.string s, .int .i64 0] 51)) := ⟨by go_simp, by go_simp, by go_simp, by go_simp, by go_simp, by go_simp⟩
  refine wpIn_rangeFunc_ownF rfl (by omega) (gf := 45) (lb := #[.pointer (some ⟨w.heap.size + 1 + 1 + 1, 0, none⟩)]) rfl trivial (enters_of Tryd.func45 (by kernel_rfl) rfl)
    (left_stops Fence.wide _ trivial rfl (by omega) (w.heap.size + 1 + 1 + 1) s 0 (by omega) _ (by simp) (by go_simp) (by go_simp)) keepCell_t keepCell_b (Below.refl _ _) (fun _ => rfl)
    (fun pre W => (WS w.heap.size 0 .nilIface (val7 pre) W ∧ val7 pre ≤ 281474976710655) ∧ Below w.heap.size w W)
    (fun c pre W => (c = .ret ∧ WS w.heap.size 0 (.iface 62 (.agg #[.int .i64 10])) (val7 pre) W ∧ 281474976710655 < val7 pre) ∧ Below w.heap.size w W)
    (OwnFrom.and (Own.from (fun s A B row hs hg hr => ⟨hs.1.kept hg hr, hs.2⟩) _) (ownFrom_below (Nat.le_refl _) (by simp; omega)))
    (fun c => OwnFrom.and (Own.from (fun s A B row hs hg hr => ⟨hs.1, hs.2.1.kept hg hr, hs.2.2⟩) _) (ownFrom_below (Nat.le_refl _) (by simp; omega)))
    ⟨⟨hG0, by simp [val7]⟩, hB0⟩
    (fun x => { tmps := #[.string s, undef, .pointer (some ⟨w.heap.size, 0, none⟩), .pointer (some ⟨w.heap.size + 1, 0, none⟩), .pointer (some ⟨w.heap.size + 1 + 1, 0, none⟩), .int .u8 ((x.toNat : Nat) : Int), .string s, .agg #[.string s, .int .i64 0], .func (.func 45) #[] #[.pointer (some ⟨w.heap.size + 1 + 1 + 1, 0, none⟩)], .int .u8 ((x.toNat : Nat) : Int), undef, undef, undef, undef, undef, undef, undef, undef, undef, undef, undef, undef], defers := [] }) ?assign ?body ?done ?stop
  case assign =>
    intro l x W K hK
    gi_wp2
    exact hK
  case body =>
    rintro l pre x W ⟨⟨hG, hv⟩, hB⟩ hlen
    have hx := x.toNat_lt
    have h1 := hG.cn
    have h2 := hG.fn
    have h3 := hG.c0
    have h4 := hG.f0
    have h5 := hG.c1
    have h6 := hG.f1
    have hx7 : x.toNat % 128 < 128 := Nat.mod_lt _ (by omega)
    have hw : wrap64 ((x.toNat % 128 : Nat) : Int) = ((x.toNat % 128 : Nat) : Int) := by unfold wrap64; omega
    have hau := and_u8 x.toNat hx
    have hor := or_7 (val7 pre) (x.toNat % 128) hv hx7
    have HS := Lib.hid (val7_snoc pre x)
    generalize hmm : 128 * val7 pre + x.toNat % 128 = m at *
    have hm : m ≤ 72057594037927935 := by omega
    have HM := Lib.hid hmm
    clear hmm
    generalize x.toNat % 128 = y at *
    by_cases hle : m ≤ 281474976710655
    · have hr := rightB_yes hle
      gi_wp2_with (refine ⟨trivial, ?_⟩; gi_at_call 33; refine (CallsIn.inRound l (callsIn_wide.2 (right_any _ _))).mono ?_; rintro e w' ⟨rfl, rfl⟩)
      refine ⟨KeepsOthers.setCell _ _ _, fun e => ?_, ⟨?_, ?_⟩, hB.setCell (p := ⟨w.heap.size + 1 + 1, 0, none⟩) (by simp; omega) _⟩
      · rw [← e]; simp [go_sem]
      · rw [HS.out]; exact hG.setN m
      · rw [HS.out]; exact hle
    · have hr := rightB_no (Nat.lt_of_not_le hle)
      gi_wp2_with (refine ⟨trivial, ?_⟩; gi_at_call 33; refine (CallsIn.inRound l (callsIn_wide.2 (right_any _ _))).mono ?_; rintro e w' ⟨rfl, rfl⟩)
      refine ⟨((KeepsOthers.setCell _ _ _).trans (KeepsOthers.setCell _ _ _)).trans (KeepsOthers.setCell _ _ _), ⟨rfl, ?_, ?_⟩, ((hB.setCell (p := ⟨w.heap.size + 1 + 1, 0, none⟩) (by simp; omega) _).setCell (p := ⟨w.heap.size, 0, none⟩) (by simp) _).setCell (p := ⟨w.heap.size + 1, 0, none⟩) (by simp) _⟩
      · rw [HS.out]; exact (hG.setN m).setR 0 _
      · rw [HS.out]; omega
  case done =>
    rintro D ys W hD rfl ⟨⟨hG, hv⟩, hB⟩ hK
    have h1 := hG.cn
    have h2 := hG.fn
    have h3 := hG.c0
    have h4 := hG.f0
    have h5 := hG.c1
    have h6 := hG.f1
    rw [dropB_zero] at *
    gi_wp2
    refine ⟨by simp, .inl ?_⟩
    have hK2 := heap_set2 (B := w.heap.size) (X := .int .i64 ((val7 s.data.toList : Nat) : Int)) (Y := .nilIface) hK (by simp at hD; omega)
    have hG2 := (hG.setR ((val7 s.data.toList : Nat) : Int) .nilIface).kept (grownBy_putObj' _ D (.deferred none)) (fun r e => by cases e; exact ⟨_, hK2, rfl⟩)
    have hB2 := ((hB.setCell (p := ⟨w.heap.size, 0, none⟩) (Nat.le_refl _) (.int .i64 ((val7 s.data.toList : Nat) : Int))).setCell (p := ⟨w.heap.size + 1, 0, none⟩) (by simp) .nilIface).trans (belowK_b (w := w) (Nat.le_refl _) _ D _ (.deferred none) (by simp at hD; omega) hK2 rfl rfl)
    exact ⟨_, _, rfl, run_takeDeferred hK2, _, worth_res hG2, .inl ⟨hv, rfl⟩, hB2⟩
  case stop =>
    rintro D c pre W hD hpre ⟨⟨rfl, hG, hv⟩, hB⟩ hK
    obtain ⟨r, hr⟩ := hpre
    rw [dropB_zero] at hr
    have hle := val7_le_append pre r
    rw [hr] at hle
    gi_wp2
    refine ⟨by simp, .inl ?_⟩
    have hG2 := hG.kept (grownBy_putObj' _ D (.deferred none)) (fun r e => by cases e; exact ⟨_, hK, rfl⟩)
    have hB2 := hB.trans (belowK_b (w := w) (Nat.le_refl _) _ D _ (.deferred none) (by simp at hD; omega) hK rfl rfl)
    exact ⟨_, _, rfl, run_takeDeferred hK, _, worth_res hG2, .inr ⟨by omega, rfl⟩, hB2⟩
end Go.Proofs.YtajeanmmelldnaaDoor
