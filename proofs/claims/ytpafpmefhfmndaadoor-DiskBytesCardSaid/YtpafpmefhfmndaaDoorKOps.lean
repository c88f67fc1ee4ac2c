/- Calls in memory: a list that came in, and one that a call owns; Cut of the statements' package 18. -/
import Derived.Test.YtpafpmefhfmndaaDoorKWant
import Derived.OpenShut
import Derived.Deep.Slices
import Derived.Carry
import Derived.ProofKit
set_option linter.unusedVariables false
set_option linter.unusedSimpArgs false
namespace Go.Proofs.YtpafpmefhfmndaaDoor
open Go.RowKit

/-- From the address A on (some, or none) the calls xs lie, one behind the other. -/
def OpsIn (w : World) (A : Option Addr) (xs : List OpR) : Prop := ∀ j x, xs[j]? = some x → ∃ ad, A = some ad ∧ (w.cell? (ad.add (j * 4)) = some (.int .i64 x.k) ∧ w.cell? ⟨(ad.add (j * 4)).block, (ad.add (j * 4)).off + 1, none⟩ = some (.int .i64 x.a) ∧ w.cell? ⟨(ad.add (j * 4)).block, (ad.add (j * 4)).off + 2, none⟩ = some (.int .i64 x.b) ∧ w.cell? ⟨(ad.add (j * 4)).block, (ad.add (j * 4)).off + 3, none⟩ = some (.string x.s)) ∧ x.a ≤ 9223372036854775807 ∧ x.b ≤ 9223372036854775807 ∧ x.s.size ≤ maxLen
theorem OpsIn.below {w w' : World} {A : Option Addr} {xs : List OpR} (h : OpsIn w A xs) (hb : Below w.heap.size w w') : OpsIn w' A xs := fun j x e => by
  obtain ⟨ad, hA, ⟨h0, h1, h2, h3⟩, hr⟩ := h j x e
  exact ⟨ad, hA, ⟨(hb.cell (World.block_lt_of_cell? _ _ h0)).trans h0, (hb.cell (World.block_lt_of_cell? _ _ h1)).trans h1, (hb.cell (World.block_lt_of_cell? _ _ h2)).trans h2, (hb.cell (World.block_lt_of_cell? _ _ h3)).trans h3⟩, hr⟩

/-- A call cut: its text at sixty-five bytes. -/
def cutO (x : OpR) : OpR := { x with s := x.s.extract 0 (min (x.s.size : Int) 65).toNat }
theorem cutO_ok {x : OpR} (h1 : x.a ≤ 9223372036854775807) (h2 : x.b ≤ 9223372036854775807) : (cutO x).ok := by
  refine ⟨h1, h2, ?_⟩
  show (x.s.extract 0 _).size ≤ 65
  rw [ByteArray.size_extract]; omega
/-- The cells of calls. -/
def opC (x : OpR) : List Value := [.int .i64 x.k, .int .i64 x.a, .int .i64 x.b, .string x.s]
def opsC (xs : List OpR) : List Value := xs.flatMap opC
theorem opsC_snoc (xs : List OpR) (x : OpR) : opsC (xs ++ [x]) = opsC xs ++ opC x := by simp [opsC]
theorem opsC_at : ∀ (xs : List OpR) (j : Nat) (x : OpR), xs[j]? = some x → (opsC xs)[j * 4]? = some (.int .i64 x.k) ∧ (opsC xs)[j * 4 + 1]? = some (.int .i64 x.a) ∧ (opsC xs)[j * 4 + 2]? = some (.int .i64 x.b) ∧ (opsC xs)[j * 4 + 3]? = some (.string x.s)
  | [], j, x, e => by simp at e
  | y :: t, 0, x, e => by
    have : y = x := by simpa using e
    subst this
    simp [opsC, opC]
  | y :: t, j + 1, x, e => by
    have := opsC_at t j x (by simpa using e)
    have h : opsC (y :: t) = opC y ++ opsC t := by simp [opsC]
    rw [h, show (j + 1) * 4 = j * 4 + 1 + 1 + 1 + 1 by omega]
    simpa [opC] using this

theorem op_info : (Tryd.prog.info? 37).map (fun i => (i.zero, i.size, i.bytes)) = some (some (.agg #[.int .i64 0, .int .i64 0, .int .i64 0, .string ⟨#[]⟩]), 4, 40) := by kernel_rfl

/-- Calls in memory that lie below n: at a slice's value v. -/
def OpsOwn (n : Nat) (w : World) (v : Value) (xs : List OpR) : Prop :=
  ∃ A c, v = .slice A xs.length c ∧ ∀ j x, xs[j]? = some x → ∃ g, A = some ⟨g, 0, none⟩ ∧ g < n ∧ w.cell? ⟨g, j * 4, none⟩ = some (.int .i64 x.k) ∧ w.cell? ⟨g, j * 4 + 1, none⟩ = some (.int .i64 x.a) ∧ w.cell? ⟨g, j * 4 + 2, none⟩ = some (.int .i64 x.b) ∧ w.cell? ⟨g, j * 4 + 3, none⟩ = some (.string x.s)

theorem OpsOwn.kept {n : Nat} {w w' : World} {v : Value} {xs : List OpR} (h : OpsOwn n w v xs) (hk : ∀ p x, p.block < n → w.cell? p = some x → w'.cell? p = some x) : OpsOwn n w' v xs := by
  obtain ⟨A, c, e, h⟩ := h
  refine ⟨A, c, e, fun j x hj => ?_⟩
  obtain ⟨g, hA, hg, h0, h1, h2, h3⟩ := h j x hj
  exact ⟨g, hA, hg, hk _ _ hg h0, hk _ _ hg h1, hk _ _ hg h2, hk _ _ hg h3⟩
theorem OpsOwn.below {n : Nat} {w w' : World} {v : Value} {xs : List OpR} (h : OpsOwn n w v xs) (hb : Below w.heap.size w w') : OpsOwn n w' v xs := h.kept fun p x _ e => (hb.cell (World.block_lt_of_cell? _ _ e)).trans e
theorem OpsOwn.only {n a b : Nat} {w w' : World} {v : Value} {xs : List OpR} (h : OpsOwn n w v xs) (ho : Only a b w w') (ha : n ≤ a) (hb : n ≤ b) : OpsOwn n w' v xs := h.kept fun p x hp e => ho.cell e (by omega) (by omega)

theorem opsOwn_of {w : World} {base : Nat} {v : Value} {xs : List OpR} (h : w.ownsRow base 37 4 v xs.length (opsC xs)) : OpsOwn w.heap.size w v xs := by
  rcases h.2 with ⟨e, h0⟩ | ⟨g, cap, cur, e, hb, hgb, _⟩
  · have : xs = [] := List.eq_nil_of_length_eq_zero h0
    subst this
    exact ⟨none, 0, e, fun j x hj => by simp at hj⟩
  · subst e
    refine ⟨some ⟨g, 0, none⟩, cap, rfl, fun j x hj => ?_⟩
    obtain ⟨h0, h1, h2, h3⟩ := opsC_at xs j x hj
    have c : ∀ i u, (opsC xs)[i]? = some u → w.cell? ⟨g, i, none⟩ = some u := fun i u hu => by
      have := h.cells (g := g) rfl i u hu
      rwa [Addr.add_mid, Nat.zero_add] at this
    exact ⟨g, rfl, lt_of_heap hgb, c _ _ h0, c _ _ h1, c _ _ h2, c _ _ h3⟩

/-- What Cut answers. -/
def CutR (xs : List OpR) (w : World) (e : Ending) (w' : World) : Prop :=
  ∃ v, e = .returned v ∧ OpsOwn w'.heap.size w' v ((xs.map cutO).take 40) ∧ Below w.heap.size w w'

set_option maxRecDepth 100000 in
set_option maxHeartbeats 4000000 in
theorem lcut_any (xs : List OpR) (A : Option Addr) (c : Nat) (w : World) (hl : xs.length ≤ maxLen) (h : OpsIn w A xs) :
    Calls Tryd.prog 10 #[.slice A xs.length c] w (CutR xs w) := by
  obtain ⟨i0, hi0, hz0, hzs, hzb⟩ := info_parts op_info
  unfold maxLen at hl
  have H := Lib.hid h
  clear h
  go_enter Tryd.func10, Tryd.ntmps10
  go_wp2
  go_loopw [3, 4] (fun sv i wr => ∃ (k : Nat), k ≤ xs.length ∧ k ≤ 40 ∧ i = .int .i64 k ∧ wr.ownsRow w.heap.size 37 4 sv k (opsC ((xs.map cutO).take k)) ∧ Below w.heap.size w wr) (fun _ i _ => 40 - (intOf i).toNat)
  case atStart => exact ⟨0, Nat.zero_le _, by omega, rfl, World.ownsRow_nil _ _ _ _, Below.refl _ _⟩
  case round =>
    obtain ⟨k, hk, hk40, rfl, hrow, hB⟩ := hrel
    have hro : ∀ g, u3.ownBlock = some g → w.heap.size ≤ g := fun g e => (hrow.lt g e).1
    have HRO := Lib.hid hro
    have HROW := Lib.hid hrow
    clear hro hrow
    by_cases hlt : k < xs.length ∧ k < 40
    · obtain ⟨hl1, hl2⟩ := hlt
      obtain ⟨x, hx⟩ : ∃ x, xs[k]? = some x := ⟨_, List.getElem?_eq_getElem hl1⟩
      obtain ⟨ad, rfl, ⟨c0, c1, c2, c3⟩, hxa, hxb, hxs⟩ := (H.out.below hB) k x hx
      have HX := Lib.hid hx
      clear hx
      have g1 : decide (k < 40) = true := by simpa using hl2
      have g2 : decide ((k : Int) < 40) = true := by simp; omega
      have HR2 := Lib.hid ((HROW.out.alloc (.cells #[.int .i64 x.k, .int .i64 x.a, .int .i64 x.b, .string (x.s.extract 0 (min (x.s.size : Int) 65).toNat)] 37)).alloc (.cells #[.int .i64 x.k, .int .i64 x.a, .int .i64 x.b, .string (x.s.extract 0 (min (x.s.size : Int) 65).toNat)] 37))
      have hsz := hB.size
      go_wp2_with (at_builtin; refine wpList_append_own _ rfl _ _ 22 rfl w.heap.size 37 i0 (.agg #[.int .i64 0, .int .i64 0, .int .i64 0, .string ⟨#[]⟩]) 4 40 Tryd.underlying22 hi0 hz0 hzs hzb rfl (by decide) _ _ _ rfl HR2.out ⟨wr.heap.size + 1, 0, none⟩ 1 1 (opC (cutO x)) rfl rfl ?c1 ?c2 ?c3 ?c4 ?c5 ?_)
      case c1 =>
        intro j u hj
        rw [Addr.add_mid, Nat.zero_add, cell_of_row _ _ j _ _ (0, 0) (heap_alloc2_new wr _ _)]
        simpa [opC, cutO] using hj
      case c2 =>
        intro u hu
        simp only [opC, List.mem_cons, List.not_mem_nil, or_false] at hu
        rcases hu with rfl | rfl | rfl | rfl <;> rfl
      case c3 => unfold maxLen; omega
      case c4 => omega
      case c5 => simp; omega
      intro v' w2 hown' hgrow _
      have hB2 : Below w.heap.size w w2 := ((hB.alloc hB.size (.cells #[.int .i64 x.k, .int .i64 x.a, .int .i64 x.b, .string (x.s.extract 0 (min (x.s.size : Int) 65).toNat)] 37)).alloc (by simp; omega) (.cells #[.int .i64 x.k, .int .i64 x.a, .int .i64 x.b, .string (x.s.extract 0 (min (x.s.size : Int) 65).toNat)] 37)).grown hgrow (by simp; omega) HRO.out
      have hs : (xs.map cutO).take (k + 1) = (xs.map cutO).take k ++ [cutO x] := by rw [List.take_add_one, List.getElem?_map, HX.out]; rfl
      rw [← opsC_snoc, ← hs] at hown'
      have HOWN := Lib.hid hown'
      clear hown' hgrow HROW HRO HR2 hs c0 c1 c2 c3
      go_wp2
      go_roundw
      case rel => exact ⟨k + 1, by omega, by omega, by go_num, HOWN.out, hB2⟩
      case measure => simp [intOf]; omega
    · have hlen : ((xs.map cutO).take 40).length = k := by rw [List.length_take, List.length_map]; omega
      have ht : (xs.map cutO).take k = (xs.map cutO).take 40 := by
        rw [List.length_take, List.length_map] at hlen
        by_cases h40 : 40 ≤ xs.length
        · rw [show k = 40 by omega]
        · rw [show k = xs.length by omega, List.take_of_length_le (by rw [List.length_map]; omega), List.take_of_length_le (by rw [List.length_map]; omega)]
      have hR := HROW.out
      rw [ht] at hR
      have hown : wr.ownsRow w.heap.size 37 4 u3 ((xs.map cutO).take 40).length (opsC ((xs.map cutO).take 40)) := by rw [hlen]; exact hR
      have HO := Lib.hid (opsOwn_of hown)
      by_cases h1 : k < xs.length
      · have g1 : decide (k < 40) = false := by simp; omega
        have g2 : decide ((k : Int) < 40) = false := by simp; omega
        have hkx : decide (k < xs.length) = true := by simpa using h1
        clear hlen ht hR hown HROW HRO hlt
        go_wp2
        go_ret
        exact ⟨_, rfl, HO.out, hB⟩
      · have hkx : decide (k < xs.length) = false := by simpa using h1
        clear hlen ht hR hown HROW HRO hlt
        go_wp2
        go_ret
        exact ⟨_, rfl, HO.out, hB⟩
end Go.Proofs.YtpafpmefhfmndaaDoor
