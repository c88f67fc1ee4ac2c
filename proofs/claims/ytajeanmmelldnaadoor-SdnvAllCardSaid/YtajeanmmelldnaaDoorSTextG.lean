/- Contracts of the method groups of a text, and of worth, of package sdnv. -/
import Derived.Test.YtajeanmmelldnaaDoorSLeft
set_option linter.unusedVariables false
set_option linter.unusedSimpArgs false
namespace Go.Proofs.YtajeanmmelldnaaDoor
open Go.RowKit Go.Shelf

attribute [local go_sem] Oper.semAt_some

/-- What memory holds while groups goes on: how many bytes were gone through, the last one, the text and the place. -/
structure GS (B : Nat) (s : ByteArray) (at0 : Int) (k v : Nat) (W : World) : Prop where
  cs : W.cell? ⟨B + 1, 0, none⟩ = some (.int .i64 ((k : Nat) : Int))
  fs : W.frozen? ⟨B + 1, 0, none⟩ = false
  cl : W.cell? ⟨B + 1 + 1, 0, none⟩ = some (.int .u8 ((v : Nat) : Int))
  fl : W.frozen? ⟨B + 1 + 1, 0, none⟩ = false
  c0 : W.cell? ⟨B, 0, none⟩ = some (.string s)
  c1 : W.cell? ⟨B, 1, none⟩ = some (.int .i64 at0)
theorem GS.kept {B : Nat} {s : ByteArray} {at0 : Int} {k v : Nat} {A C : World} {row : Option Nat} (h : GS B s at0 k v A) (hg : A.grownBy C row) (hr : ∀ r, row = some r → ∃ o, A.heap[r]? = some o ∧ o.isCells = false) : GS B s at0 k v C :=
  ⟨cell_kept h.cs hg hr, (frozen_kept h.cs hg hr).trans h.fs, cell_kept h.cl hg hr, (frozen_kept h.cl hg hr).trans h.fl, cell_kept h.c0 hg hr, cell_kept h.c1 hg hr⟩
theorem GS.set_ {B : Nat} {s : ByteArray} {at0 : Int} {k v : Nat} {W : World} (h : GS B s at0 k v W) (k' v' : Nat) : GS B s at0 k' v' ((W.setCell ⟨B + 1, 0, none⟩ (.int .i64 ((k' : Nat) : Int))).setCell ⟨B + 1 + 1, 0, none⟩ (.int .u8 ((v' : Nat) : Int))) := by
  have h1 := h.cs
  have h2 := h.cl
  have h3 := h.c0
  have h4 := h.c1
  have h5 := h.fs
  have h6 := h.fl
  refine ⟨?_, ?_, ?_, ?_, ?_, ?_⟩
  · simp [go_sem, h1]
  · simp [h5]
  · exact World.cell?_setCell_same' _ _ _ (by simp [go_sem, h2])
  · simp [h6]
  · simp [go_sem, h3]
  · simp [go_sem, h4]

theorem extract_pre {s : ByteArray} {at0 : Int} {pre : List UInt8} (h : pre <+: dropB s at0) (hne : pre ≠ []) : 0 ≤ at0 ∧ at0 + (pre.length : Int) ≤ s.size ∧ s.extract at0.toNat (at0 + (pre.length : Int)).toNat = ⟨pre.toArray⟩ := by
  have hl := h.length_le
  unfold dropB at h hl
  have hp : 0 < pre.length := List.length_pos_iff.2 hne
  by_cases h0 : at0 < 0
  · rw [if_pos h0] at hl; simp at hl; exact absurd hl hne
  · rw [if_neg h0] at h hl
    obtain ⟨a, rfl⟩ := Int.eq_ofNat_of_zero_le (show 0 ≤ at0 by omega)
    rw [List.length_drop] at hl
    simp at hl
    refine ⟨by omega, by omega, ?_⟩
    have e : ((a : Int) + (pre.length : Int)).toNat = a + pre.length := by omega
    rw [e]
    apply ByteArray.ext
    rw [ByteArray.data_extract]
    apply Array.toList_inj.1
    rw [Array.toList_extract, List.extract_eq_take_drop]
    simp only [Int.toNat_natCast, Nat.add_sub_cancel_left]
    simp only [Int.toNat_natCast] at h
    exact (List.prefix_iff_eq_take.1 h).symm

/-- What the method groups answers. -/
def TGR (s : ByteArray) (at0 : Int) (w : World) (e : Ending) (w' : World) : Prop :=
  ((spanG (dropB s at0) = none ∧ e = .returned (.tuple #[.string ⟨#[]⟩, .iface 62 (.agg #[.int .i64 11])])) ∨ (∃ g t, spanG (dropB s at0) = some (g, t) ∧ e = .returned (.tuple #[.string ⟨g.toArray⟩, .nilIface]))) ∧ Below w.heap.size w w'

set_option maxRecDepth 100000 in
set_option maxHeartbeats 2000000 in
theorem tgroups_any (s : ByteArray) (at0 : Int) (w : World) (hs : s.size ≤ 1000000) :
    Calls Tryd.prog 35 #[.agg #[.string s, .int .i64 at0]] w (TGR s at0 w) := by
  refine (callsIn_wide (n := 9)).1 ?_
  refine callsIn_of_wp_marks Tryd.func35 rfl trivial ?_ rfl
  simp only [Tryd.ntmps35, List.size_toArray, List.length_cons, List.length_nil, Nat.reduceAdd, Nat.reduceSub, Array.replicate_succ, Array.replicate_zero, List.push_toArray, List.append_toArray, List.nil_append, List.cons_append]
  gi_wp2
  refine wpIn_scope_wide ?_
  gi_wp2
  refine wpIn_label ?_
  gi_wp2_with (refine ⟨trivial, ?_⟩; gi_at_call 41; refine (left_in Fence.wide _ trivial rfl _ _ _).mono ?_; rintro e w' ⟨rfl, rfl⟩)
  have hB0 : Below w.heap.size w ((((w.alloc (.cells #[.string s, .int .i64 at0] 51)).alloc (.cells #[.int .i64 0] 3)).alloc (.cells #[.int .u8 128] 5)).alloc (.cells #[.string s, .int .i64 at0] 51)) := ((((Below.refl _ w).alloc (Nat.le_refl _) _).alloc (by simp) _).alloc (by simp; omega) _).alloc (by simp; omega) _
  have hG0 : GS w.heap.size s at0 0 128 ((((w.alloc (.cells #[.string s, .int .i64 at0] 51)).alloc (.cells #[.int .i64 0] 3)).alloc (.cells #[.int .u8 128] 5)).alloc (.cells #[.string s, .int .i64 at0] 51)) := ⟨by go_simp, by go_simp, by go_simp, by go_simp, by go_simp, by go_simp⟩
  refine wpIn_rangeFunc_ownF rfl (by omega) (gf := 45) (lb := #[.pointer (some ⟨w.heap.size + 1 + 1 + 1, 0, none⟩)]) rfl trivial (enters_of Tryd.func45 (by kernel_rfl) rfl)
    (left_stops Fence.wide _ trivial rfl (by omega) (w.heap.size + 1 + 1 + 1) s at0 (by omega) _ (by simp) (by go_simp) (by go_simp)) keepCell_t keepCell_b (Below.refl _ _) (fun _ => rfl)
    (fun pre W => ((∃ v : Nat, GS w.heap.size s at0 pre.length v W ∧ 128 ≤ v) ∧ ∀ x ∈ pre, 128 ≤ x.toNat) ∧ Below w.heap.size w W)
    (fun c pre W => (c = .exit 0 ∧ ∃ q b, pre = q ++ [b] ∧ (∀ x ∈ q, 128 ≤ x.toNat) ∧ b.toNat < 128 ∧ GS w.heap.size s at0 pre.length b.toNat W) ∧ Below w.heap.size w W)
    (OwnFrom.and (Own.from (fun s A B row hs hg hr => ⟨hs.1.imp fun v h => ⟨h.1.kept hg hr, h.2⟩, hs.2⟩) _) (ownFrom_below (Nat.le_refl _) (by simp; omega)))
    (fun c => OwnFrom.and (Own.from (fun s A B row hs hg hr => ⟨hs.1, by obtain ⟨q, b, h1, h2, h3, h4⟩ := hs.2; exact ⟨q, b, h1, h2, h3, h4.kept hg hr⟩⟩) _) (ownFrom_below (Nat.le_refl _) (by simp; omega)))
    ⟨⟨⟨128, hG0, Nat.le_refl _⟩, by simp⟩, hB0⟩
    (fun x => { tmps := #[.agg #[.string s, .int .i64 at0], .pointer (some ⟨w.heap.size, 0, none⟩), .string ⟨#[]⟩, .nilIface, .pointer (some ⟨w.heap.size + 1, 0, none⟩), .pointer (some ⟨w.heap.size + 1 + 1, 0, none⟩), .int .u8 ((x.toNat : Nat) : Int), .agg #[.string s, .int .i64 at0], .func (.func 45) #[] #[.pointer (some ⟨w.heap.size + 1 + 1 + 1, 0, none⟩)], .int .u8 ((x.toNat : Nat) : Int), undef, undef, undef, undef, undef, undef, undef, undef, undef, undef, undef, undef, undef, undef, undef, undef, undef, undef], defers := [] }) ?assign ?body ?done ?stop
  case assign =>
    intro l x W K hK
    gi_wp2
    exact hK
  case body =>
    rintro l pre x W ⟨⟨⟨v, hG, hv⟩, hbig⟩, hB⟩ hlen
    have hx := x.toNat_lt
    have h1 := hG.cs
    have h2 := hG.fs
    have h3 := hG.cl
    have h4 := hG.fl
    have hL : pre.length + 1 = (pre ++ [x]).length := by simp
    have HL := Lib.hid hL
    have HB := Lib.hid hbig
    clear hL hbig
    by_cases hlt : x.toNat < 128
    · have hd : decide (x.toNat < 128) = true := by simpa using hlt
      gi_wp2
      refine ⟨?_, ⟨rfl, pre, x, rfl, HB.out, hlt, ?_⟩, (hB.setCell (p := ⟨w.heap.size + 1, 0, none⟩) (by simp) _).setCell (p := ⟨w.heap.size + 1 + 1, 0, none⟩) (by simp; omega) _⟩
      · exact (KeepsOthers.setCell _ _ _).trans (KeepsOthers.setCell _ _ _)
      · rw [← HL.out]; exact hG.set_ (pre.length + 1) x.toNat
    · have hd : decide (x.toNat < 128) = false := by simpa using hlt
      gi_wp2
      refine ⟨?_, fun e => ?_, ⟨⟨⟨x.toNat, ?_, by omega⟩, ?_⟩, (hB.setCell (p := ⟨w.heap.size + 1, 0, none⟩) (by simp) _).setCell (p := ⟨w.heap.size + 1 + 1, 0, none⟩) (by simp; omega) _⟩⟩
      · exact (KeepsOthers.setCell _ _ _).trans (KeepsOthers.setCell _ _ _)
      · rw [← e]; simp [go_sem]
      · rw [← HL.out]; exact hG.set_ (pre.length + 1) x.toNat
      · intro y hy
        rcases List.mem_append.1 hy with hy | hy
        · exact HB.out y hy
        · have : y = x := by simpa using hy
          subst this
          omega
  case done =>
    rintro D ys W hD rfl ⟨⟨⟨v, hG, hv⟩, hbig⟩, hB⟩ hK
    have h3 := hG.cl
    have hsp := Lib.hid (spanG_none hbig)
    clear hbig
    gi_wp2
    refine ⟨by simp, .inl ⟨_, _, rfl, run_takeDeferred hK, ?_⟩⟩
    exact ⟨_, results_tmp2 rfl _ _ _, .inl ⟨hsp.out, rfl⟩, hB.trans (belowK_b (w := w) (Nat.le_refl _) W D _ _ (by simp at hD; omega) hK rfl rfl)⟩
  case stop =>
    rintro D c pre W hD hpre ⟨⟨rfl, q, b, he, hq, hb, hG⟩, hB⟩ hK
    have h0 := hG.c0
    have h1 := hG.c1
    have h2 := hG.cs
    have h3 := hG.cl
    obtain ⟨r, hr⟩ := hpre
    have hsp := Lib.hid (show spanG (dropB s at0) = some (pre, r) by rw [← hr, he]; exact spanG_app r hq hb)
    obtain ⟨e0, e1, e2⟩ := extract_pre ⟨r, hr⟩ (by rw [he]; simp)
    have HE := Lib.hid e2
    clear e2 hr he hq
    gi_wp2
    refine ⟨by simp, .inl ⟨_, _, rfl, run_takeDeferred hK, ?_⟩⟩
    refine ⟨_, results_tmp2 rfl _ _ _, .inr ⟨pre, r, hsp.out, ?_⟩, hB.trans (belowK_b (w := w) (Nat.le_refl _) W D _ _ (by simp at hD; omega) hK rfl rfl)⟩
    rw [← HE.out]
    rfl
end Go.Proofs.YtajeanmmelldnaaDoor
