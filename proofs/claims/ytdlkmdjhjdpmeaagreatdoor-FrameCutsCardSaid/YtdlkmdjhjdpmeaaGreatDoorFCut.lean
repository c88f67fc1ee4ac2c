/- cut and Cut of the statements' package 17. -/
import Derived.Test.YtdlkmdjhjdpmeaaGreatDoorFLay
import Derived.Test.YtdlkmdjhjdpmeaaGreatDoorStr
import Derived.Test.YtdlkmdjhjdpmeaaGreatDoorApp
import Derived.OpenShut
import Derived.Deep.Slices
import Derived.Deep.RegionHeld3
import Derived.Deep.DrawnRows
import Derived.Carry
import Derived.ProofKit
set_option linter.unusedVariables false
set_option linter.unusedSimpArgs false
namespace Go.Proofs.YtdlkmdjhjdpmeaaGreatDoor
open Go.RowKit
attribute [local go_sem ↓] Go.wp_at_zero Go.wp_at_succ

/-- The statements' cut of a text. -/
def cutT (s : ByteArray) : ByteArray := s.extract 0 (min s.size 3000)
theorem cutT_size (s : ByteArray) : (cutT s).size ≤ 3000 := by
  unfold cutT; rw [ByteArray.size_extract]; omega

set_option maxRecDepth 100000 in
set_option maxHeartbeats 1000000 in
theorem flcut_any (s : ByteArray) (w : World) (hs : s.size ≤ maxLen) :
    Calls Tryz.prog 12 #[.string s] w fun e w' => e = .returned (.string (cutT s)) ∧ w = w' := by
  unfold maxLen at hs
  go_enter Tryz.func12, Tryz.ntmps12
  go_wp2
  all_goals
    go_ret
    refine ⟨congrArg (fun q => Ending.returned (.string q)) ?_, rfl⟩
    unfold cutT
    first
      | rw [show (min (s.size : Int) 3000).toNat = min s.size 3000 by omega]
      | (rw [show min s.size 3000 = s.size by omega]; exact ByteArray.extract_zero_size.symm)
      | rw [show min s.size 3000 = 3000 by omega]

/-- From the address A on (some, or none) the records l lie, one behind the other. -/
def RcsIn (w : World) (A : Option Addr) (l : List Rc) : Prop := ∀ j x, l[j]? = some x → ∃ ad, A = some ad ∧ (w.cell? (ad.add (j * 3)) = some (.int .i64 x.op) ∧ w.cell? ⟨(ad.add (j * 3)).block, (ad.add (j * 3)).off + 1, none⟩ = some (.int .i64 x.id) ∧ w.cell? ⟨(ad.add (j * 3)).block, (ad.add (j * 3)).off + 2, none⟩ = some (.string x.data)) ∧ x.data.size ≤ maxLen
theorem RcsIn.below {w w' : World} {A : Option Addr} {l : List Rc} (h : RcsIn w A l) (hb : Below w.heap.size w w') : RcsIn w' A l := fun j x e => by
  obtain ⟨ad, hA, ⟨h0, h1, h2⟩, hr⟩ := h j x e
  exact ⟨ad, hA, ⟨(hb.cell (World.block_lt_of_cell? _ _ h0)).trans h0, (hb.cell (World.block_lt_of_cell? _ _ h1)).trans h1, (hb.cell (World.block_lt_of_cell? _ _ h2)).trans h2⟩, hr⟩
/-- A record cut. -/
def cutC (x : Rc) : Rc := { x with data := x.data.extract 0 (min (x.data.size : Int) 2001).toNat }
theorem cutC_fit (x : Rc) : (cutC x).data.size ≤ 2001 := by
  show (x.data.extract 0 _).size ≤ 2001
  rw [ByteArray.size_extract]; omega
/-- What Cut makes of a list. -/
def cutsC (l : List Rc) : List Rc := (l.map cutC).take 10
theorem cutsC_fit (l : List Rc) : FitR (cutsC l) := by
  intro r hr
  have := List.mem_of_mem_take hr
  obtain ⟨x, _, rfl⟩ := List.mem_map.1 this
  exact Nat.le_trans (cutC_fit x) (by omega)
theorem cutsC_fit2 (l : List Rc) : ∀ r ∈ cutsC l, r.data.size ≤ 2001 := by
  intro r hr
  have := List.mem_of_mem_take hr
  obtain ⟨x, _, rfl⟩ := List.mem_map.1 this
  exact cutC_fit x
theorem cutsC_len (l : List Rc) : (cutsC l).length ≤ 10 := by unfold cutsC; rw [List.length_take]; omega
def CutsR (l : List Rc) (w : World) (e : Ending) (w' : World) : Prop :=
  ∃ v, e = .returned v ∧ RcsOwn w'.heap.size w' v (cutsC l) ∧ Below w.heap.size w w'
/-- No slice, or one at an address. -/
def NilOr (v : Value) : Prop := v = .slice none 0 0 ∨ ∃ ad n c, v = .slice (some ad) n c
theorem nilOr_of {w : World} {base : Nat} {e : TypeId} {size : Nat} {v : Value} {n : Nat} {xs : List Value} (h : w.ownsRow base e size v n xs) : NilOr v := by
  rcases h.2 with ⟨e, _⟩ | ⟨g, cap, cur, e, _⟩
  · exact .inl e
  · exact .inr ⟨_, _, _, e⟩
def CutsN (l : List Rc) (w : World) (e : Ending) (w' : World) : Prop :=
  ∃ v, e = .returned v ∧ RcsOwn w'.heap.size w' v (cutsC l) ∧ Below w.heap.size w w' ∧ NilOr v

set_option maxRecDepth 100000 in
set_option maxHeartbeats 4000000 in
theorem flcutn_any (l : List Rc) (A : Option Addr) (c : Nat) (w : World) (hl : l.length ≤ maxLen) (h : RcsIn w A l) :
    Calls Tryz.prog 11 #[.slice A l.length c] w (CutsN l w) := by
  obtain ⟨i0, hi0, hz0, hzs, hzb⟩ := info_parts rec_info
  unfold maxLen at hl
  have H := Lib.hid h
  clear h
  go_enter Tryz.func11, Tryz.ntmps11
  go_wp2
  go_loopw [3, 4] (fun sv i wr => ∃ (k : Nat), k ≤ l.length ∧ k ≤ 10 ∧ i = .int .i64 k ∧ wr.ownsRow w.heap.size 23 3 sv k (rcsL ((l.map cutC).take k)) ∧ Below w.heap.size w wr) (fun _ i _ => 10 - (intOf i).toNat)
  case atStart => exact ⟨0, Nat.zero_le _, by omega, rfl, World.ownsRow_nil _ _ _ _, Below.refl _ _⟩
  case round =>
    obtain ⟨k, hk, hk10, rfl, hrow, hB⟩ := hrel
    have hro : ∀ g, u3.ownBlock = some g → w.heap.size ≤ g := fun g e => (hrow.lt g e).1
    have HRO := Lib.hid hro
    have HROW := Lib.hid hrow
    clear hro hrow
    by_cases hlt : k < l.length ∧ k < 10
    · obtain ⟨hl1, hl2⟩ := hlt
      obtain ⟨x, hx⟩ : ∃ x, l[k]? = some x := ⟨_, List.getElem?_eq_getElem hl1⟩
      obtain ⟨ad, rfl, ⟨d0, d1, d2⟩, hxs⟩ := H.out k x hx
      have c0 := (hB.cell (World.block_lt_of_cell? _ _ d0)).trans d0
      have c1 := (hB.cell (World.block_lt_of_cell? _ _ d1)).trans d1
      have c2 := (hB.cell (World.block_lt_of_cell? _ _ d2)).trans d2
      unfold maxLen at hxs
      have HX := Lib.hid hx
      clear hx
      have g1 : decide (k < 10) = true := by simpa using hl2
      have g2 : decide ((k : Int) < 10) = true := by simp; omega
      have g3 : decide (k < l.length) = true := by simpa using hl1
      have g4 : 0 ≤ min (x.data.size : Int) 2001 ∧ min (x.data.size : Int) 2001 ≤ x.data.size := by omega
      have hsz := hB.size
      have HR2 := Lib.hid ((HROW.out.drew).alloc (.cells #[.int .i64 x.op, .int .i64 x.id, .string (x.data.extract 0 (min (x.data.size : Int) 2001).toNat)] 23))
      have hc1 : ∀ (j : Nat) (u : Value), (rcL (cutC x))[j]? = some u → (wr.drew.alloc (.cells #[.int .i64 x.op, .int .i64 x.id, .string (x.data.extract 0 (min (x.data.size : Int) 2001).toNat)] 23)).cell? ((⟨wr.heap.size, 0, none⟩ : Addr).add j) = some u := by
        intro j u hj
        rw [Addr.add_mid, Nat.zero_add]
        refine (cell_of_row _ wr.heap.size j _ _ (0, 0) (World.alloc_heap_new wr.drew _)).trans ?_
        simpa [rcL, cutC] using hj
      have hc2 : ∀ u ∈ rcL (cutC x), u.oneCell' = true := rcL_one _
      have hc3 : k + 1 ≤ maxLen := by unfold maxLen; omega
      have hc4 : (k + 1) * 32 ≤ 140737488355328 := by omega
      have hc5 : w.heap.size ≤ (wr.drew.alloc (.cells #[.int .i64 x.op, .int .i64 x.id, .string (x.data.extract 0 (min (x.data.size : Int) 2001).toNat)] 23)).heap.size := by simp; omega
      have g5 : (0 : Int) ≤ (k : Int) := by omega
      have g6 : (k : Int) < (l.length : Int) := by omega
      have hfar : ∀ (w2 : World) p u, (wr.drew.alloc (.cells #[.int .i64 x.op, .int .i64 x.id, .string (x.data.extract 0 (min (x.data.size : Int) 2001).toNat)] 23)).grownBy w2 u3.ownBlock → w.cell? p = some u → w2.cell? p = some u := fun w2 p u hg e =>
        ((hB.drew.alloc (by simpa using hB.size) _).grown hg (by simp; omega) HRO.out).cell (World.block_lt_of_cell? _ _ e) |>.trans e
      go_wp2_with fail
      go_region_held3 (fun w' => w'.cell? (ad.add (k * 3)) = some (.int .i64 x.op) ∧ w'.cell? ⟨(ad.add (k * 3)).block, (ad.add (k * 3)).off + 1, none⟩ = some (.int .i64 x.id) ∧ w'.cell? ⟨(ad.add (k * 3)).block, (ad.add (k * 3)).off + 2, none⟩ = some (.string x.data))
        (first
          | (with_reducible exact hk)
          | (with_reducible exact ⟨c0, c1, c2⟩)
          | go_keep)
        (first
          | ((refine step_append_new rfl _ _ 25 (by rfl) w.heap.size 23 i0 (.agg #[.int .i64 0, .int .i64 0, .string ⟨#[]⟩]) 3 32 Tryz.underlying25 hi0 hz0 hzs hzb rfl (by decide) u3 k _ (by rfl) HR2.out ⟨wr.heap.size, 0, none⟩ 1 (rcL (cutC x)) (by rfl) rfl hc1 hc2 hc3 hc4 hc5 ?_; intro v' w2 hown' hgrow _; have hk := And.intro (hfar w2 _ _ hgrow d0) (And.intro (hfar w2 _ _ hgrow d1) (hfar w2 _ _ hgrow d2)))))
      all_goals
        have hB2 : Below w.heap.size w w2 := ((hB.drew).alloc (by simpa using hB.size) (.cells #[.int .i64 x.op, .int .i64 x.id, .string (x.data.extract 0 (min (x.data.size : Int) 2001).toNat)] 23)).grown hgrow (by simp; omega) HRO.out
        have hs : (l.map cutC).take (k + 1) = (l.map cutC).take k ++ [cutC x] := by rw [List.take_add_one, List.getElem?_map, HX.out]; rfl
        rw [← rcsL_snoc, ← hs] at hown'
        have HOWN := Lib.hid hown'
        clear hown' hgrow HROW HRO HR2 hs c0 c1 c2 d0 d1 d2 hfar hk hc1 hc2 hc3 hc4 hc5
        go_wp2_with fail
        go_roundw
        case rel => exact ⟨k + 1, by omega, by omega, by go_num, HOWN.out, hB2⟩
        case measure => simp [intOf]; omega
    · have hlen : ((l.map cutC).take 10).length = k := by rw [List.length_take, List.length_map]; omega
      have ht : (l.map cutC).take k = (l.map cutC).take 10 := by
        rw [List.length_take, List.length_map] at hlen
        by_cases h40 : 10 ≤ l.length
        · rw [show k = 10 by omega]
        · rw [show k = l.length by omega, List.take_of_length_le (by rw [List.length_map]; omega), List.take_of_length_le (by rw [List.length_map]; omega)]
      have hR := HROW.out
      rw [ht] at hR
      have hown : wr.ownsRow w.heap.size 23 3 u3 ((l.map cutC).take 10).length (rcsL ((l.map cutC).take 10)) := by rw [hlen]; exact hR
      have HO := Lib.hid (rcsOwn_of hown)
      have HNO := Lib.hid (nilOr_of hown)
      by_cases h1 : k < l.length
      · have g1 : decide (k < 10) = false := by simp; omega
        have g2 : decide ((k : Int) < 10) = false := by simp; omega
        have hkx : decide (k < l.length) = true := by simpa using h1
        clear hlen ht hR hown HROW HRO hlt
        go_wp2
        go_ret
        exact ⟨_, rfl, HO.out, hB, HNO.out⟩
      · have hkx : decide (k < l.length) = false := by simpa using h1
        clear hlen ht hR hown HROW HRO hlt
        go_wp2
        go_ret
        exact ⟨_, rfl, HO.out, hB, HNO.out⟩
theorem flcuts_any (l : List Rc) (A : Option Addr) (c : Nat) (w : World) (hl : l.length ≤ maxLen) (h : RcsIn w A l) :
    Calls Tryz.prog 11 #[.slice A l.length c] w (CutsR l w) :=
  (flcutn_any l A c w hl h).mono fun e w' ⟨v, h1, h2, h3, _⟩ => ⟨v, h1, h2, h3⟩
end Go.Proofs.YtdlkmdjhjdpmeaaGreatDoor
