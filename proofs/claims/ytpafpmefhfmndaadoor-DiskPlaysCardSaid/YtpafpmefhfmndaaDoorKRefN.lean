/- Contracts of the document's disk: New. -/
import Derived.Test.YtpafpmefhfmndaaDoorKBytes
import Derived.OwnWalk
import Derived.Deep.RegionLaw
set_option linter.unusedVariables false
set_option linter.unusedSimpArgs false
namespace Go.Proofs.YtpafpmefhfmndaaDoor
open Go.RowKit

/-- An append of one element, as a step of a region that draws. -/
theorem step_append1 {P : Program} {ops : Array Oper} {o : Oper} {a : Act} {w : World} {K : Act → World → Prop} {Q : Exit → Act → World → Prop} {E : Prop} (hgd : o.guard = none) (s x : Operand) (t : TypeId)
    (ho : o.op = .call { callee := .builtin .append, args := #[s, x], argTypes := #[t, t] })
    (base : Nat) (e : TypeId) (i : TypeInfo) (z : Value) (bytes : Nat) (ht : P.underlying t = some (.slice e)) (hi : P.info? e = some i) (hz : i.zero = some z)
    (hsize : i.size = 1) (hby : i.bytes = bytes) (hzs : z.cells.size = 1)
    (v : Value) (n : Nat) (xs : List Value) (hs : a.eval s = v) (hown : w.ownsRow base e 1 v n xs)
    (ad : Addr) (c : Nat) (u : Value) (hx : a.eval x = .slice (some ad) 1 c) (hnews : w.cell? (ad.add 0) = some u) (h1 : u.oneCell' = true)
    (h63 : n + 1 ≤ maxLen) (hbytes : (n + 1) * bytes ≤ 140737488355328) (hbase : base ≤ w.heap.size)
    (h : ∀ v' w', w'.ownsRow base e 1 v' (n + 1) (xs ++ [u]) → w.grownBy w' v.ownBlock → K (a.put o.dst v') w') :
    if Region.wanted o (yielded ops a.tmps) = true then Oper.wp P o a w K Q else E := by
  have hw : Region.wanted o (yielded ops a.tmps) = true := by simp [Region.wanted, hgd]
  rw [if_pos hw]
  obtain ⟨v', w', hr, h2, h3, h4⟩ := run_append_own (P := P) w base t o.type e i z 1 bytes ht hi hz hsize hby hzs (by decide) v n xs hown ad 1 c [u] rfl (fun j y hj => by
    rcases j with _ | j
    · obtain rfl : u = y := by simpa using hj
      exact hnews
    · simp at hj) (fun y hy => by obtain rfl : y = u := by simpa using hy
                                  exact h1) h63 hbytes hbase
  unfold Oper.wp execOp
  simp only [ho, resolve, invoke, builtin, Sem.run_bind, Sem.run_pure, Result.andThen_ok, List.map_toArray, List.map_cons, List.map_nil, hs, hx, hr]
  exact h v' w' h2 h3


theorem heap_cell {W : World} {B : Nat} {cs : Array Value} {t : TypeId} (h : W.heap[B]? = some (.cells cs t (0, 0))) (i : Nat) (u : Value) (hu : cs[i]? = some u) : W.cell? ⟨B, i, none⟩ = some u := by
  unfold World.cell?
  rw [h]
  simpa using hu

theorem heap_frozen {W : World} {B : Nat} {cs : Array Value} {t : TypeId} (h : W.heap[B]? = some (.cells cs t (0, 0))) (i : Nat) : W.frozen? ⟨B, i, none⟩ = false := by
  unfold World.frozen?
  rw [h]
  simp


theorem str_info : (Tryd.prog.info? 9).map (fun i => (i.zero, i.size, i.bytes)) = some (some (.string ⟨#[]⟩), 1, 16) := by kernel_rfl

/-- A sector of noughts, as a text. -/
def zeroS : ByteArray := ⟨Array.replicate 64 0⟩
theorem newD_ss (m : Nat) : (newD m).ss = List.replicate m zeroS := rfl

/-- While New of the document is made: k sectors are there. -/
structure RNew (w : World) (k : Nat) (v : Value) (wr : World) : Prop where
  box : wr.heap[w.heap.size]? = some (.cells #[v, .int .i64 0, .int .i64 0, .bool false, .int .i64 0] 41 (0, 0))
  own : wr.ownsRow (w.heap.size + 1) 9 1 v k (List.replicate k (.string zeroS))
  below : Below w.heap.size w wr

theorem heap_set {W : World} {B : Nat} {cs : Array Value} {t : TypeId} (h : W.heap[B]? = some (.cells cs t (0, 0))) (i : Nat) (v : Value) : (W.setCell ⟨B, i, none⟩ v).heap[B]? = some (.cells (cs.setIfInBounds i v) t (0, 0)) := by
  obtain ⟨hlt, hk⟩ := Array.getElem?_eq_some_iff.1 h
  show (W.heap.modify B _)[B]? = _
  rw [Array.getElem?_eq_getElem (by rw [Array.size_modify]; exact hlt), Array.getElem_modify_self, hk]
  rfl


theorem ownsRow_setB {w : World} {base : Nat} {e : TypeId} {size : Nat} {v : Value} {n : Nat} {xs : List Value} (h : w.ownsRow base e size v n xs) {C i : Nat} (hC : C < base) (u : Value) : (w.setCell ⟨C, i, none⟩ u).ownsRow base e size v n xs := by
  refine ⟨h.1, ?_⟩
  rcases h.2 with hn | ⟨g, cap, cur, rfl, hb, hgg, rest⟩
  · exact .inl hn
  · refine .inr ⟨g, cap, cur, rfl, hb, ?_, rest⟩
    rw [Below.heap_setCell _ _ _ _ (by simp; omega)]
    exact hgg
theorem RNew.step {w wr w2 : World} {k : Nat} {v v' : Value} {o1 o2 : Obj} (h : RNew w k v wr) (hown : w2.ownsRow (w.heap.size + 1) 9 1 v' (k + 1) (List.replicate k (.string zeroS) ++ [.string zeroS])) (hg : ((wr.alloc o1).alloc o2).drew.grownBy w2 v.ownBlock) :
    w2.heap[w.heap.size]? = some (.cells #[v, .int .i64 0, .int .i64 0, .bool false, .int .i64 0] 41 (0, 0)) ∧ RNew w (k + 1) v' (w2.setCell ⟨w.heap.size, 0, none⟩ v') := by
  have hlt := lt_of_heap h.box
  have hrow : v.ownBlock ≠ some w.heap.size := fun e => by have := (h.own.lt _ e).1; omega
  have hb1 : Below wr.heap.size wr ((wr.alloc o1).alloc o2).drew := (((Below.refl _ wr).alloc (Nat.le_refl _) o1).alloc (by simp) o2).drew
  have hbx : w2.heap[w.heap.size]? = some (.cells #[v, .int .i64 0, .int .i64 0, .bool false, .int .i64 0] 41 (0, 0)) := (hg.block _ (by simp; omega) (fun e => hrow e.symm)).trans ((hb1.block _ hlt).trans h.box)
  refine ⟨hbx, ⟨?_, ?_, ?_⟩⟩
  · simpa using heap_set hbx 0 v'
  · have := ownsRow_setB hown (C := w.heap.size) (i := 0) (by omega) v'
    rw [← List.replicate_succ'] at this
    exact this
  · have hB1 := h.below.trans (hb1.mono h.below.size)
    exact (hB1.grown hg hB1.size (fun g e => by have := (h.own.lt g e).1; omega)).setCell (p := ⟨w.heap.size, 0, none⟩) (Nat.le_refl _) _

theorem rnew_done {w wr : World} {m : Nat} {v : Value} (h : RNew w m v wr) (h1 : 1 ≤ m) (h2 : m ≤ 256) : ∃ b, RAt w.heap.size b (newD m) wr ∧ w.heap.size < b ∧ w.heap.size ≤ w.heap.size ∧ Below w.heap.size w wr := by
  obtain ⟨g, cap, rfl⟩ := ownsRow_pos h.own (by omega)
  have hg := (h.own.lt g rfl).1
  have hc := fun o v hv => heap_cell h.box o v hv
  have hlen : (newD m).ss.length = m := by simp [newD]
  refine ⟨g, ⟨⟨?_, ⟨0, ?_, fun h => by simp [newD] at h⟩, ?_, ?_, heap_frozen h.box 1, heap_frozen h.box 2, heap_frozen h.box 3, heap_frozen h.box 4⟩, ⟨cap, ?_⟩, by omega, ?_, newD_ok h1 h2⟩, by omega, Nat.le_refl _, h.below⟩
  · exact hc 1 _ rfl
  · exact hc 2 _ rfl
  · exact hc 3 _ rfl
  · exact hc 4 _ rfl
  · rw [hlen]; exact hc 0 _ rfl
  · intro i s hs
    obtain ⟨hi, rfl⟩ := newD_get hs
    have hcl := h.own.cells (g := g) rfl i (.string zeroS) (by rw [List.getElem?_replicate, if_pos hi])
    rw [Addr.add_mid, Nat.zero_add] at hcl
    refine ⟨hcl, ?_⟩
    rcases h.own.2 with ⟨e, _⟩ | ⟨g', cap', cur, e, hb, hgb, _⟩
    · cases e
    · injection e with e1 e2 e3
      injection e1 with e1
      injection e1 with e1
      subst e1
      exact heap_frozen hgb i

set_option maxRecDepth 100000 in
set_option maxHeartbeats 1000000 in
theorem rnew_bad (m : Int) (w : World) (h : m < 1 ∨ 256 < m) :
    Calls Tryd.prog 12 #[.int .i64 m] w fun e w' => e = .returned (.tuple #[.pointer none, .int .i64 2]) ∧ w = w' := by
  by_cases h1 : m < 1
  · have g1 : decide (m < 1) = true := by simpa using h1
    clear h
    go_enter Tryd.func12, Tryd.ntmps12
    go_wp2
    go_ret2
    exact ⟨rfl, rfl⟩
  · have g1 : decide (m < 1) = false := by simpa using h1
    have g2 : decide (m > 256) = true := by simp; omega
    clear h
    go_enter Tryd.func12, Tryd.ntmps12
    go_wp2
    go_ret2
    exact ⟨rfl, rfl⟩

/-- What New of the document answers of a right number. -/
def RNewR (m : Nat) (w : World) (e : Ending) (w' : World) : Prop :=
  ∃ a b, e = .returned (.tuple #[.pointer (some ⟨a, 0, none⟩), .int .i64 0]) ∧ RAt a b (newD m) w' ∧ w.heap.size ≤ a ∧ w.heap.size ≤ b ∧ Below w.heap.size w w'

set_option maxRecDepth 100000 in
set_option maxHeartbeats 4000000 in
theorem rnew_ok (m : Nat) (w : World) (h1 : 1 ≤ m) (h2 : m ≤ 256) :
    Calls Tryd.prog 12 #[.int .i64 (m : Int)] w (RNewR m w) := by
  obtain ⟨i0, hi, hz0, hz1, hz2⟩ := info_parts u8_info
  obtain ⟨i1, hi1, hy0, hy1, hy2⟩ := info_parts str_info
  obtain ⟨M, hM⟩ : ∃ M, M = madeCells (Value.int .u8 0).cells ((64 : Int).toNat * i0.size) := ⟨_, rfl⟩
  have hmk : ∀ W : World, (Instr.makeSlice 58 (.int .i64 64) (.int .i64 64)).run Tryd.prog W = .ok (.slice (some ⟨W.heap.size, 0, none⟩) 64 64) (W.alloc (.cells M 5)) := fun W => by
    have h := run_make (P := Tryd.prog) W 58 5 i0 _ Tryd.underlying58 hi hz0 .i64 .i64 64 64 (by omega) (by omega) (by rw [hz2]; omega) (by omega)
    rw [← hM] at h
    simpa using h
  have hMl : M.toList = Lib.byteCells zeroS.data.toList := by
    show _ = Lib.byteCells (⟨Array.replicate 64 0⟩ : ByteArray).data.toList
    rw [hM, hz1, zero_cells]
    exact toList_madeCells_one _ _
  have hcv : ∀ W : World, (convert 58 9 (.slice (some ⟨W.heap.size, 0, none⟩) 64 64)).run Tryd.prog (W.alloc (.cells M 5)) = .ok (.string zeroS) (W.alloc (.cells M 5)) := fun W =>
    conv_sector (by decide) (fun j v hv => by
      rw [← hMl] at hv
      rw [Nat.zero_add, cell_of_row _ _ j M _ (0, 0) (heap_alloc_new W _)]
      simpa using hv)
  have hcd : ∀ W : World, (convert 58 9 (.slice (some ⟨W.heap.size, 0, none⟩) 64 64)).run Tryd.prog (W.alloc (.cells M 5)).drew = .ok (.string zeroS) (W.alloc (.cells M 5)).drew := fun W =>
    conv_sector (by decide) ((World.rangeAt_drew _ _ _ _).2 (fun j v hv => by
      rw [← hMl] at hv
      rw [Nat.zero_add, cell_of_row _ _ j M _ (0, 0) (heap_alloc_new W _)]
      simpa using hv))
  clear hM hMl
  have g1 : decide ((m : Int) < 1) = false := by simp; omega
  have g2 : decide ((m : Int) > 256) = false := by simp; omega
  go_enter Tryd.func12, Tryd.ntmps12
  go_wp2
  go_loopw [5] (fun i wr => ∃ (k : Nat) (v : Value), k ≤ m ∧ i = .int .i64 k ∧ RNew w k v wr) (fun i _ => m - (intOf i).toNat)
  case atStart => exact ⟨0, _, Nat.zero_le _, rfl, ⟨heap_alloc_new w _, World.ownsRow_nil _ _ _ _, (Below.refl _ _).alloc (Nat.le_refl _) _⟩⟩
  case round =>
    obtain ⟨k, v, hk, rfl, hI⟩ := hrel
    by_cases hlt : k < m
    · have hvl : ∃ A c, v = .slice A k c := by
        rcases hI.own.2 with ⟨e, h0⟩ | ⟨g, cap, _, e, _⟩
        · exact ⟨none, 0, by rw [e, h0]⟩
        · exact ⟨_, _, e⟩
      obtain ⟨A, c, rfl⟩ := hvl
      have c0 := heap_cell hI.box 0 _ rfl
      have f0 := heap_frozen hI.box 0
      have HI := Lib.hid hI
      clear hI
      have hown := HI.out.own
      have hzw : w.heap.size < wr.heap.size := lt_of_heap HI.out.box
      have hzw1 : w.heap.size < wr.heap.size + 1 := by omega
      have hne : w.heap.size ≠ wr.heap.size := by omega
      have HOWN := Lib.hid hown
      clear hown
      go_wp2_with fail
      go_region_law ((refine step_append1 rfl _ _ 39 rfl (w.heap.size + 1) 9 i1 (.string ⟨#[]⟩) 16 Tryd.underlying39 hi1 hy0 hy1 hy2 rfl (.slice A k c) k (List.replicate k (.string zeroS)) rfl ((HOWN.out.alloc _).alloc _).drew ⟨wr.heap.size + 1, 0, none⟩ 1 (.string zeroS) rfl (by simp [Addr.add, go_sem]) rfl (by unfold maxLen; omega) (by omega) (by have := HI.out.below.size; have := lt_of_heap HI.out.box; simp; omega) ?_
                      intro v' w2 hown2 hg2
                      obtain ⟨g, cap, rfl⟩ := ownsRow_pos hown2 (Nat.succ_pos _)
                      obtain ⟨hbx2, hI2⟩ := HI.out.step hown2 hg2
                      have HI2 := Lib.hid hI2
                      have q0 := heap_cell hbx2 0 _ rfl
                      have q1 := heap_frozen hbx2 0
                      clear hown2 hg2 hI2 hbx2))
      all_goals
        go_wp2
        go_roundw
        case rel => exact ⟨k + 1, _, by omega, by go_num, HI2.out⟩
        case measure => simp [intOf]; omega
    · obtain rfl : k = m := by omega
      obtain ⟨b, hR, hb, _, hB⟩ := rnew_done hI h1 h2
      clear hI
      go_wp2
      go_ret2
      exact ⟨_, b, rfl, hR, Nat.le_refl _, by omega, hB⟩
end Go.Proofs.YtpafpmefhfmndaaDoor
