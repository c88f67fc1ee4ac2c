/- Contract of told of package nums: the number of a text's bytes, or one that is too great where theirs is. -/
import Derived.RangeFuncNested
import Derived.RangeFuncBound
import Derived.RangeFuncCalls
import Derived.RangeFuncLeaves
import Derived.RangeFuncFrom
import Derived.Shelf.Abstract
import Derived.Shelf.RegionOpen
import Derived.WalkKit
import Derived.OwnWalkIn
import Derived.TacticsInMore
import Derived.LoopNIn
import Derived.LoopIn
import Derived.Scope
import Derived.IntWalk
import Derived.Test.YtmbmolgkccjedaaGreatDoorNumsA
set_option linter.unusedVariables false
set_option linter.unusedSimpArgs false
namespace Go.Proofs.YtmbmolgkccjedaaGreatDoor
open Go.RowKit Go.Shelf

attribute [local go_sem] Oper.semAt_some

/-- The number whose bytes these are, the greatest part first. -/
def valL (l : List UInt8) : Nat := l.foldl (fun a b => 256 * a + b.toNat) 0
theorem valL_snoc (l : List UInt8) (b : UInt8) : valL (l ++ [b]) = 256 * valL l + b.toNat := by simp [valL]
theorem foldl_val (l : List UInt8) : ∀ a : Nat, l.foldl (fun a b => 256 * a + b.toNat) a = 256 ^ l.length * a + valL l := by
  induction l with
  | nil => intro a; simp [valL]
  | cons b r ih =>
    intro a
    have e1 := ih (256 * a + b.toNat)
    have e2 := ih (256 * 0 + b.toNat)
    simp only [List.foldl_cons, List.length_cons, valL] at *
    rw [e1, e2, Nat.pow_succ]
    simp only [Nat.mul_add, Nat.mul_zero, Nat.zero_add, Nat.mul_assoc, Nat.add_assoc]
theorem valL_append (l r : List UInt8) : valL (l ++ r) = 256 ^ r.length * valL l + valL r := by
  unfold valL
  rw [List.foldl_append, foldl_val r]
  rfl
theorem valL_le_append (l r : List UInt8) : valL l ≤ valL (l ++ r) := by
  rw [valL_append]
  have : 1 ≤ 256 ^ r.length := Nat.one_le_pow _ _ (by omega)
  calc valL l = 1 * valL l := by simp
    _ ≤ 256 ^ r.length * valL l := Nat.mul_le_mul_right _ this
    _ ≤ _ := by omega
theorem valL_lt (l : List UInt8) : valL l < 256 ^ l.length := by
  have h : ∀ (k : Nat) (l : List UInt8), l.length = k → valL l < 256 ^ k := by
    intro k
    induction k with
    | zero => intro l hl; have : l = [] := List.eq_nil_of_length_eq_zero hl; subst this; simp [valL]
    | succ k ih =>
      intro l hl
      obtain ⟨r, b, rfl⟩ : ∃ r b, l = r ++ [b] := by
        rcases List.eq_nil_or_concat l with rfl | ⟨r, b, rfl⟩
        · simp at hl
        · exact ⟨r, b, by simp⟩
      have := ih r (by simpa using hl)
      have hb := b.toNat_lt
      rw [valL_snoc, Nat.pow_succ]
      omega
  exact h _ l rfl

theorem cell_new_l (W : World) (v : Value) (t : TypeId) : (W.alloc (.cells #[v] t)).cell? ⟨W.heap.size, 0, none⟩ = some v ∧ (W.alloc (.cells #[v] t)).frozen? ⟨W.heap.size, 0, none⟩ = false := by
  constructor <;> go_simp
theorem cell_alloc_l {W : World} {a : Addr} {v : Value} (o : Obj) (h : W.cell? a = some v) : (W.alloc o).cell? a = some v := cell_kept h (World.grownBy_alloc W o none) (fun r e => by cases e)
theorem frozen_alloc_l {W : World} {a : Addr} {v : Value} (o : Obj) (h : W.cell? a = some v) (hf : W.frozen? a = false) : (W.alloc o).frozen? a = false := (frozen_kept h (World.grownBy_alloc W o none) (fun r e => by cases e)).trans hf

/-- What a loop's round keeps: the box at Bs. -/
def KeepCell (Bs : Nat) (v : Value) (W W' : World) : Prop := W.cell? ⟨Bs, 0, none⟩ = some v → W'.cell? ⟨Bs, 0, none⟩ = some v
theorem keepCell_t {Bs : Nat} {v : Value} {A B C : World} (h : KeepCell Bs v A B) (k : KeepCell Bs v B C) : KeepCell Bs v A C := fun e => k (h e)
theorem keepCell_b {Bs : Nat} {v : Value} {w : World} (W : World) (l : Nat) (o o' : Obj) (_ : w.heap.size ≤ l) (h : W.heap[l]? = some o) (hc : o.isCells = false) (_ : o.isWalk = false) : KeepCell Bs v W (W.putObj l o') :=
  fun e => cell_kept e (grownBy_putObj' _ l o') (fun r e => by cases e; exact ⟨_, h, hc⟩)

/-- The first k bytes of a text. -/
def firstB (s : ByteArray) (k : Nat) : List UInt8 := s.data.toList.take k
theorem firstB_succ (s : ByteArray) (k : Nat) (h : k < s.size) : firstB s (k + 1) = firstB s k ++ [s[k]] := by
  unfold firstB
  rw [List.take_succ_eq_append_getElem (by simpa using h)]; rfl
theorem firstB_length (s : ByteArray) (k : Nat) (h : k ≤ s.size) : (firstB s k).length = k := by
  unfold firstB
  rw [List.length_take]; simp; omega
theorem firstB_all (s : ByteArray) : firstB s s.size = s.data.toList := List.take_of_length_le (by simp)

set_option maxRecDepth 100000 in
set_option maxHeartbeats 2000000 in
theorem each1_in (F : Fence) (n : Nat) (hf : F.fn 210) (hro : F.round = none) (hn : 1 ≤ n) (l Bs : Nat) (s : ByteArray) (hs : s.size ≤ 9223372036854775807) (J Jx : List UInt8 → World → Prop)
    (hY : ∀ pre x W, J pre W → pre.length < s.size → YieldAt F (n - 1) Tryz.prog l #[.int .u8 ((x.toNat : Nat) : Int)] W fun e W' =>
      (e = .returned (.bool true) ∧ J (pre ++ [x]) W' ∧ KeepCell Bs (.string s) W W') ∨ (e = .returned (.bool false) ∧ Jx (pre ++ [x]) W'))
    (W : World) (hBs : W.cell? ⟨Bs, 0, none⟩ = some (.string s)) (h0 : J [] W) :
    CallsIn F n Tryz.prog 210 #[.func (.yield l) #[] #[], .pointer (some ⟨Bs, 0, none⟩)] W fun e W' => (∃ v, e = .returned v) ∧
      ((∃ ys, ys = firstB s s.size ∧ J ys W') ∨ (∃ pre, (∃ k, k ≤ s.size ∧ pre = firstB s k) ∧ Jx pre W')) := by
  refine callsIn_of_wp Tryz.func210 rfl hf ?_ hro
  simp only [Tryz.ntmps210, List.size_toArray, List.length_cons, List.length_nil, Nat.reduceAdd, Nat.reduceSub, Array.replicate_succ, Array.replicate_zero, List.push_toArray, List.append_toArray, List.nil_append, List.cons_append]
  gi_wp2
  gi_loopw [6] (fun i wr => ∃ k : Nat, k ≤ s.size ∧ i = .int .i64 k ∧ J (firstB s k) wr ∧ wr.cell? ⟨Bs, 0, none⟩ = some (.string s))
    (fun i _ => s.size - (intOf i).toNat)
  case atStart => exact ⟨0, Nat.zero_le _, rfl, by simpa [firstB] using h0, hBs⟩
  case round =>
    obtain ⟨k, hk, rfl, hJs, hcx⟩ := hrel
    clear hBs
    by_cases hlt : k < s.size
    · obtain ⟨fn, tmps, assign, body, hy, hR⟩ := hY _ s[k] wr hJs (by rw [firstB_length s k hk]; exact hlt)
      gi_wp2
      refine hR.mono ?_
      rintro e W3 (⟨rfl, hJ3, hk3⟩ | ⟨rfl, hJx3⟩)
      · have hcx3 := hk3 hcx
        gi_wp2
        go_roundw
        case rel => exact ⟨k + 1, by omega, by simp, by rw [firstB_succ s k hlt]; exact hJ3, hcx3⟩
        case measure => simp [intOf]; omega
      · gi_wp2
        refine bodyPost_ret (results_none rfl _ _ _) rfl ?_
        exact ⟨⟨_, rfl⟩, .inr ⟨_, ⟨k + 1, by omega, (firstB_succ s k hlt).symm⟩, hJx3⟩⟩
    · obtain rfl : k = s.size := by omega
      gi_wp2
      go_end0
      exact ⟨⟨_, rfl⟩, .inl ⟨_, rfl, hJs⟩⟩

set_option maxHeartbeats 1000000 in
theorem each_in (F : Fence) (n : Nat) (hf : F.fn 209) (hro : F.round = none) (s : ByteArray) (w : World) :
    CallsIn F n Tryz.prog 209 #[.string s] w fun e w' => e = .returned (.func (.func 210) #[] #[.pointer (some ⟨w.heap.size, 0, none⟩)]) ∧ w' = w.alloc (.cells #[.string s] 9) := by
  have hmf : ∀ (fn : Fn) (first cap : Array Value) (w : World), (Instr.makeFunc fn first cap).run Tryz.prog w = .ok (.func fn first cap) w := fun _ _ _ _ => rfl
  refine callsIn_of_wp Tryz.func209 rfl hf ?_ hro
  simp only [Tryz.ntmps209, List.size_toArray, List.length_cons, List.length_nil, Nat.reduceAdd, Nat.reduceSub, Array.replicate_succ, Array.replicate_zero, List.push_toArray, List.append_toArray, List.nil_append, List.cons_append]
  gi_wp2
  go_ret
  exact ⟨rfl, rfl⟩

theorem each_stops (F : Fence) (n : Nat) (hf : F.fn 210) (hro : F.round = none) (hn : 1 ≤ n) (Bs : Nat) (s : ByteArray) (hs : s.size ≤ 9223372036854775807) (w : World) (hBs : Bs < w.heap.size) (hc : w.cell? ⟨Bs, 0, none⟩ = some (.string s)) :
    SeqStopsK F n Tryz.prog 210 #[.pointer (some ⟨Bs, 0, none⟩)] (fun x : UInt8 => #[Value.int .u8 ((x.toNat : Nat) : Int)]) (KeepCell Bs (.string s)) (fun ys => ys = s.data.toList) (fun pre => pre <+: s.data.toList) s.size w := fun l J Jx W hW _ _ hY h0 => by
  have hc' := (hW.cell (p := ⟨Bs, 0, none⟩) hBs).trans hc
  refine (each1_in F n hf hro hn l Bs s hs J Jx hY W hc' h0).mono ?_
  rintro e W' ⟨he, ⟨ys, rfl, hj⟩ | ⟨pre, ⟨k, hk, rfl⟩, hj⟩⟩
  · exact ⟨he, .inl ⟨_, firstB_all s, hj⟩⟩
  · exact ⟨he, .inr ⟨_, List.take_prefix _ _, hj⟩⟩

theorem wpIn_scope_wide {n : Nat} {P : Program} {c : Code} {Q : Exit → Act → World → Prop} {a : Act} {w : World} (h : c.wpIn Fence.wide n P (Exit.noGoto Q) a w) : (Code.scope c).wpIn Fence.wide n P Q a w :=
  wpIn_wide.2 (wp_scope_straight (wpIn_wide.1 h))

theorem or_byte (a b : Nat) (ha : a ≤ 281474976710655) (hb : b < 256) : bits BinOp.or IntKind.i64 ((a : Int) * 256) (b : Int) = ((256 * a + b : Nat) : Int) := by
  unfold bits
  have e1 : BitVec.ofInt IntKind.i64.bits ((a : Int) * 256) = BitVec.ofNat IntKind.i64.bits (a * 256) := by
    have : ((a : Int) * 256) = ((a * 256 : Nat) : Int) := by omega
    rw [this, BitVec.ofInt_natCast]
  have e2 : BitVec.ofInt IntKind.i64.bits (b : Int) = BitVec.ofNat IntKind.i64.bits b := BitVec.ofInt_natCast _ _
  have hk : IntKind.i64.bits = 64 := rfl
  have e3 : (BitVec.ofNat IntKind.i64.bits (a * 256) ||| BitVec.ofNat IntKind.i64.bits b).toNat = 256 * a + b := by
    rw [BitVec.toNat_or, BitVec.toNat_ofNat, BitVec.toNat_ofNat, hk]
    rw [Nat.mod_eq_of_lt (by omega), Nat.mod_eq_of_lt (by omega)]
    have h := Nat.shiftLeft_add_eq_or_of_lt (i := 8) (b := b) (by omega) a
    rw [Nat.shiftLeft_eq] at h
    rw [show a * 256 = a * 2 ^ 8 from rfl, ← h]
    omega
  simp only [e1, e2, e3]
  exact IntWalk.i64_in _ (by omega)

theorem rightB_yes {m : Nat} (h : m ≤ 281474976710655) : rightB (m : Int) = true := by unfold rightB; simp; omega
theorem rightB_no {m : Nat} (h : 281474976710655 < m) : rightB (m : Int) = false := by unfold rightB; simp; omega

/-- What told answers of the bytes l. -/
def ToldR (l : List UInt8) (w : World) (e : Ending) (w' : World) : Prop :=
  ∃ m : Nat, e = .returned (.int .i64 (m : Int)) ∧ (valL l ≤ 281474976710655 → m = valL l) ∧ (281474976710655 < valL l → 281474976710655 < m) ∧ m ≤ 72057594037927935 ∧ Below w.heap.size w w'

set_option maxRecDepth 100000 in
set_option maxHeartbeats 2000000 in
theorem told_any (s : ByteArray) (w : World) (hs : s.size ≤ 9223372036854775807) :
    Calls Tryz.prog 206 #[.string s] w (ToldR s.data.toList w) := by
  refine (callsIn_wide (n := 9)).1 ?_
  refine callsIn_of_wp_marks Tryz.func206 rfl trivial ?_ rfl
  simp only [Tryz.ntmps206, List.size_toArray, List.length_cons, List.length_nil, Nat.reduceAdd, Nat.reduceSub, Array.replicate_succ, Array.replicate_zero, List.push_toArray, List.append_toArray, List.nil_append, List.cons_append]
  gi_wp2
  refine wpIn_scope_wide ?_
  gi_wp2
  refine wpIn_label ?_
  gi_wp2_with (refine ⟨trivial, ?_⟩; gi_at_call 209; refine (each_in Fence.wide _ trivial rfl _ _).mono ?_; rintro e w' ⟨rfl, rfl⟩)
  have hcn := cell_new_l w (.int .i64 0) 3
  have hcs := cell_new_l (w.alloc (.cells #[.int .i64 0] 3)) (.string s) 9
  rw [World.size_alloc] at hcs
  have hB0 : Below w.heap.size w ((w.alloc (.cells #[.int .i64 0] 3)).alloc (.cells #[.string s] 9)) := ((Below.refl _ w).alloc (Nat.le_refl _) _).alloc (by simp) _
  refine wpIn_rangeFunc_ownF rfl (by omega) (gf := 210) (lb := #[.pointer (some ⟨w.heap.size + 1, 0, none⟩)]) rfl trivial (enters_of Tryz.func210 (by kernel_rfl) rfl)
    (each_stops Fence.wide _ trivial rfl (by omega) (w.heap.size + 1) s hs _ (by simp) hcs.1) keepCell_t keepCell_b (Below.refl _ _) (fun _ => rfl)
    (fun pre W => (W.cell? ⟨w.heap.size, 0, none⟩ = some (.int .i64 ((valL pre : Nat) : Int)) ∧ W.frozen? ⟨w.heap.size, 0, none⟩ = false ∧ valL pre ≤ 281474976710655) ∧ Below w.heap.size w W)
    (fun c pre W => (c = .exit 0 ∧ W.cell? ⟨w.heap.size, 0, none⟩ = some (.int .i64 ((valL pre : Nat) : Int)) ∧ 281474976710655 < valL pre ∧ valL pre ≤ 72057594037927935) ∧ Below w.heap.size w W)
    (OwnFrom.and (Own.from (fun s A B row hs hg hr => ⟨cell_kept hs.1 hg hr, (frozen_kept hs.1 hg hr).trans hs.2.1, hs.2.2⟩) _) (ownFrom_below (Nat.le_refl _) (by simp; omega)))
    (fun c => OwnFrom.and (Own.from (fun s A B row hs hg hr => ⟨hs.1, cell_kept hs.2.1 hg hr, hs.2.2⟩) _) (ownFrom_below (Nat.le_refl _) (by simp; omega)))
    ⟨⟨cell_alloc_l _ hcn.1, frozen_alloc_l _ hcn.1 hcn.2, by simp [valL]⟩, hB0⟩
    (fun x => { tmps := #[.string s, undef, .int .i64 0, .pointer (some ⟨w.heap.size, 0, none⟩), .int .u8 ((x.toNat : Nat) : Int), .string s, .func (.func 210) #[] #[.pointer (some ⟨w.heap.size + 1, 0, none⟩)], .int .u8 ((x.toNat : Nat) : Int), undef, undef, undef, undef, undef, undef, undef, undef, undef], defers := [] }) ?assign ?body ?done ?stop
  case assign =>
    intro l x W K hK
    gi_wp2
    exact hK
  case body =>
    rintro l pre x W ⟨⟨hc, hf, hv⟩, hB⟩ _
    have hx := x.toNat_lt
    have hw : wrap64 ((x.toNat : Nat) : Int) = ((x.toNat : Nat) : Int) := by unfold wrap64; omega
    have hm : 256 * valL pre + x.toNat ≤ 72057594037927935 := by omega
    have hor := or_byte (valL pre) x.toNat hv hx
    have HS := Lib.hid (valL_snoc pre x)
    generalize hmm : 256 * valL pre + x.toNat = m at *
    have HM := Lib.hid hmm
    clear hmm
    by_cases hle : m ≤ 281474976710655
    · have hr := rightB_yes hle
      gi_wp2_with (refine ⟨trivial, ?_⟩; gi_at_call 73; refine (CallsIn.inRound l (callsIn_wide.2 (right_any _ _))).mono ?_; rintro e w' ⟨rfl, rfl⟩)
      refine ⟨KeepsOthers.setCell _ _ _, fun e => ?_, ⟨⟨?_, ?_, ?_⟩, hB.setCell (p := ⟨w.heap.size, 0, none⟩) (Nat.le_refl _) _⟩⟩
      · rw [← e]; simp [go_sem]
      · rw [HS.out]; exact World.cell?_setCell_same' _ _ _ (by rw [hc]; rfl)
      · rw [World.frozen?_setCell]; exact hf
      · rw [HS.out]; exact hle
    · have hr := rightB_no (Nat.lt_of_not_le hle)
      gi_wp2_with (refine ⟨trivial, ?_⟩; gi_at_call 73; refine (CallsIn.inRound l (callsIn_wide.2 (right_any _ _))).mono ?_; rintro e w' ⟨rfl, rfl⟩)
      refine ⟨KeepsOthers.setCell _ _ _, ⟨rfl, ?_, ?_, ?_⟩, hB.setCell (p := ⟨w.heap.size, 0, none⟩) (Nat.le_refl _) _⟩
      · rw [HS.out]; exact World.cell?_setCell_same' _ _ _ (by rw [hc]; rfl)
      · rw [HS.out]; omega
      · rw [HS.out]; exact hm
  case done =>
    rintro D ys W hD rfl ⟨⟨hc, _, hv⟩, hB⟩ hK
    gi_wp2
    refine ⟨by simp, .inl ⟨_, _, rfl, run_takeDeferred hK, ?_⟩⟩
    exact ⟨_, results_tmp rfl _ _ _, valL s.data.toList, rfl, fun _ => rfl, fun h => by omega, by omega, hB.trans (belowK_b (w := w) (Nat.le_refl _) W D _ _ (by simp at hD; omega) hK rfl rfl)⟩
  case stop =>
    rintro D c pre W hD hpre ⟨⟨rfl, hc, hv, hv'⟩, hB⟩ hK
    obtain ⟨r, hr⟩ := hpre
    have hle := valL_le_append pre r
    rw [hr] at hle
    gi_wp2
    refine ⟨by simp, .inl ⟨_, _, rfl, run_takeDeferred hK, ?_⟩⟩
    exact ⟨_, results_tmp rfl _ _ _, valL pre, rfl, fun h => by omega, fun _ => hv, hv', hB.trans (belowK_b (w := w) (Nat.le_refl _) W D _ _ (by simp at hD; omega) hK rfl rfl)⟩
end Go.Proofs.YtmbmolgkccjedaaGreatDoor
