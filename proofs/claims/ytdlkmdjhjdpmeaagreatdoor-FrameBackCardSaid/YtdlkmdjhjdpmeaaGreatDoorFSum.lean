/- The framer of package frame: the table by which it sums is made once; sum and frame. -/
import Derived.Test.YtdlkmdjhjdpmeaaGreatDoorFSmall
import Derived.Test.YtdlkmdjhjdpmeaaGreatDoorCNew
import Derived.Deep.RegionHeld3
set_option linter.unusedVariables false
set_option linter.unusedSimpArgs false
namespace Go.Proofs.YtdlkmdjhjdpmeaaGreatDoor
open Go.RowKit

theorem add_block (A : Addr) (j : Nat) : (A.add j).block = A.block := by unfold Addr.add; split <;> rfl
/-- A framer's table: none yet, or the kind's own, in a block of numbers of 32 bits that is not X. -/
def TabV (X : Nat) (w : World) (v : Value) : Prop := v = .slice none 0 0 ∨ ∃ (A : Addr) (c : Nat), v = .slice (some A) 256 c ∧ 256 ≤ c ∧ A.block ≠ X ∧ U32Rd w (some A) (tabL 2197175160) ∧ U32Blk w A
theorem TabV.of {X : Nat} {w w' : World} {v : Value} (h : TabV X w v) (hk : ∀ (A : Addr) cs, A.block ≠ X → w.heap[A.block]? = some (.cells cs 85 (0, 0)) → w'.heap[A.block]? = w.heap[A.block]?) : TabV X w' v := by
  rcases h with h | ⟨A, c, h1, h2, h3, h4, cs, h5⟩
  · exact .inl h
  · have e := hk A cs h3 h5
    refine .inr ⟨A, c, h1, h2, h3, fun j x ej => ?_, cs, e.trans h5⟩
    obtain ⟨ad, ha, hc⟩ := h4 j x ej
    cases ha
    exact ⟨A, rfl, (World.cell?_of_block (w := w) (by rw [add_block]; exact e)).trans hc⟩
theorem TabV.only {X : Nat} {w w' : World} {v : Value} (h : TabV X w v) (ho : Only X X w w') : TabV X w' v := h.of fun A cs hA hb => ho.block _ (lt_of_heap hb) hA hA
theorem TabV.below {X : Nat} {w w' : World} {v : Value} (h : TabV X w v) (hb : Below w.heap.size w w') : TabV X w' v := h.only (Only.ofBelow hb)

/-- No cell of the block bears a number of 32 bits. -/
def NoU32 (cs : Array Value) : Prop := ∀ (i : Nat) (x : Int), cs[i]? ≠ some (.int .u32 x)

theorem tab_apart {X : Nat} {w : World} {t : TypeId} {cs : Array Value} {A : Addr} (hX : Blk w X t cs) (hn : NoU32 cs) (h : U32Rd w (some A) (tabL 2197175160)) : A.block ≠ X := by
  intro e
  obtain ⟨ad, ha, hc⟩ := h 0 _ (tabL_get 2197175160 (by omega))
  cases ha
  obtain ⟨b, o, q⟩ := A
  simp only at e
  subst e
  cases q with
  | none =>
    have h2 : cs[o + 0]? = some _ := (hX.cell (o + 0)).symm.trans hc
    exact hn _ _ h2
  | some q => simp [Addr.add, World.cell?] at hc; split at hc <;> simp at hc

/-- A block of other cells may be written, too. -/
theorem TabV.only2 {X R : Nat} {w w' : World} {t : TypeId} {cs : Array Value} {v : Value} (h : TabV X w v) (hR : Blk w R t cs) (ht : t ≠ 85) (ho : Only X R w w') : TabV X w' v := h.of fun A zs hA hb => by
  refine ho.block _ (lt_of_heap hb) hA (fun e => ht ?_)
  rw [e, show w.heap[R]? = _ from hR] at hb
  cases hb
  rfl
theorem noU32_rec (a b : Int) (d : ByteArray) : NoU32 #[.int .i64 a, .int .i64 b, .string d] := by
  intro j x
  rcases j with _ | _ | _ | j <;> simp

theorem sl_nil (w : World) : (binOp .eql 62 (.slice none 0 0) (.slice none 0 0)).run Tryz.prog w = .ok (.bool true) w := by kernel_rfl
theorem sl_some (A : Addr) (c : Nat) (w : World) : (binOp .eql 62 (.slice (some A) 256 c) (.slice none 0 0)).run Tryz.prog w = .ok (.bool false) w := by kernel_rfl

set_option maxRecDepth 100000 in
set_option maxHeartbeats 2000000 in
theorem fsum_any (X o : Nat) (t : TypeId) (cs : Array Value) (v : Value) (s : ByteArray) (w : World) (n : Nat) (hE : FrN n w) (hnX : n ≤ X) (hX : Blk w X t cs) (hv : cs[o]? = some v) (hn : NoU32 cs) (ht : TabV X w v) (hs : s.size ≤ 9223372036854775807) :
    Calls Tryz.prog 54 #[.pointer (some ⟨X, o, none⟩), .string s] w fun e w' => e = .returned (.int .i64 (c32 s.data.toList : Int)) ∧ Only X X w w' ∧ ∃ v', Blk w' X t (cs.setIfInBounds o v') ∧ TabV X w' v' := by
  have hol : o < cs.size := by
    rcases Nat.lt_or_ge o cs.size with h | h
    · exact h
    · rw [Array.getElem?_eq_none h] at hv; cases hv
  have hlt := c32_lt s.data.toList
  rcases ht with rfl | ⟨A, c, rfl, hc, hA, hU, hT⟩
  · have c0 : w.cell? ⟨X, o, none⟩ = some (.slice none 0 0) := (hX.cell o).trans hv
    have f0 := hX.frozen o
    have e0 := sl_nil
    have HX := Lib.hid hX
    have hXl := hX.lt
    clear hX
    go_enter Tryz.func54, Tryz.ntmps54
    go_wp2_with fail
    refine (table32_new _ hE.ok.2).mono ?_
    rintro e w1 ⟨⟨A, rfl, hU2, hT2⟩, hb1⟩
    have hX1 := HX.out.here hb1
    have hA := tab_apart hX1 hn hU2
    have hc1 : w1.cell? ⟨X, o, none⟩ = some (.slice none 0 0) := (hX1.cell o).trans hv
    have hf1 := hX1.frozen o
    have HV1 := Lib.hid (show TabV X w1 (.slice (some A) 256 256) from .inr ⟨A, 256, rfl, Nat.le_refl _, hA, hU2, hT2⟩)
    have HX1 := Lib.hid hX1
    have HB1 := Lib.hid hb1
    clear hU2 hT2 hX1 hb1
    go_wp2_with fail
    have hV3 : TabV X (w1.setCell ⟨X, o, none⟩ (.slice (some A) 256 256)) (.slice (some A) 256 256) := HV1.out.only ((Only.refl X X w1).sa o _)
    have hU3 : U32Rd (w1.setCell ⟨X, o, none⟩ (.slice (some A) 256 256)) (some A) (tabL 2197175160) := by
      rcases hV3 with h | ⟨A', c', h1, _, _, h4, _⟩
      · cases h
      · cases h1; exact h4
    have hX2 := HX1.out.set_ o (.slice (some A) 256 256)
    have hO2 : Only X X w (w1.setCell ⟨X, o, none⟩ (.slice (some A) 256 256)) := (Only.ofBelow HB1.out).sa o _
    have hs3 := sum_any 2 (tabL 2197175160) (some A) 256 s (w1.setCell ⟨X, o, none⟩ (.slice (some A) 256 256)) (hE.only hO2 hnX hnX).ok.2 hs (tabL_fit (by omega)) hU3
    rw [tabL_length] at hs3
    refine hs3.mono ?_
    rintro e w3 ⟨rfl, hb3⟩
    rw [show (sumR 2 (tabL 2197175160) s) = (c32 s.data.toList, 0) by unfold sumR; rw [if_neg (by decide), if_pos rfl, if_pos (tabL_length _)]; rfl]
    go_wp2
    go_ret
    exact ⟨rfl, hO2.below hb3, _, hX2.here hb3, hV3.below hb3⟩
  · have c0 : w.cell? ⟨X, o, none⟩ = some (.slice (some A) 256 c) := (hX.cell o).trans hv
    have e0 := sl_some A c
    have HX := Lib.hid hX
    clear hX
    go_enter Tryz.func54, Tryz.ntmps54
    go_wp2_with fail
    have hs3 := sum_any 2 (tabL 2197175160) (some A) c s w hE.ok.2 hs (tabL_fit (by omega)) hU
    rw [tabL_length] at hs3
    refine hs3.mono ?_
    rintro e w3 ⟨rfl, hb3⟩
    rw [show (sumR 2 (tabL 2197175160) s) = (c32 s.data.toList, 0) by unfold sumR; rw [if_neg (by decide), if_pos rfl, if_pos (tabL_length _)]; rfl]
    go_wp2
    go_ret
    refine ⟨rfl, Only.ofBelow hb3, .slice (some A) 256 c, ?_, (TabV.below (.inr ⟨A, c, rfl, hc, hA, hU, hT⟩) hb3)⟩
    have := HX.out.here hb3
    rwa [show cs.setIfInBounds o (.slice (some A) 256 c) = cs from ?_]
    apply Array.ext_getElem?
    intro i
    rw [Array.getElem?_setIfInBounds]
    split
    · rename_i h; subst h; rw [hv]
    · rfl
end Go.Proofs.YtdlkmdjhjdpmeaaGreatDoor
