/- Contracts of numbers and All of package sdnv: all numbers of a text, in new memory; or what is wrong. -/
import Derived.Test.YtajeanmmelldnaaDoorSNumber
import Derived.Deep.LoopGhost
set_option linter.unusedVariables false
set_option linter.unusedSimpArgs false
namespace Go.Proofs.YtajeanmmelldnaaDoor
open Go.RowKit

theorem i64_info : (Tryd.prog.info? 3).map (fun i => (i.zero, i.size, i.bytes)) = some (some (.int .i64 0), 1, 8) := by kernel_rfl

/-- A number's cell. -/
def iv (n : Nat) : Value := .int .i64 (n : Int)
theorem set_far_f {B C o i : Nat} {v : Value} {b : Bool} {W : World} (h : W.frozen? ⟨B, o, none⟩ = b) : (W.setCell ⟨C, i, none⟩ v).frozen? ⟨B, o, none⟩ = b := by
  rw [World.frozen?_setCell]; exact h
theorem ownsRow_set {w : World} {base : Nat} {e : TypeId} {size : Nat} {v : Value} {n : Nat} {xs : List Value} (h : w.ownsRow base e size v n xs) {C i : Nat} (hC : C < base) (u : Value) : (w.setCell ⟨C, i, none⟩ u).ownsRow base e size v n xs := by
  refine ⟨h.1, ?_⟩
  rcases h.2 with hn | ⟨g, cap, cur, rfl, hb, hgg, rest⟩
  · exact .inl hn
  · refine .inr ⟨g, cap, cur, rfl, hb, ?_, rest⟩
    rw [Below.heap_setCell _ _ _ _ (by simp; omega)]
    exact hgg
theorem ownsRow_below' {w w' : World} {base B : Nat} {e : TypeId} {size : Nat} {v : Value} {n : Nat} {xs : List Value} (h : w.ownsRow base e size v n xs) (hb : Below B w w') (hB : w.heap.size ≤ B) : w'.ownsRow base e size v n xs := ownsRow_below h (hb.mono hB)
theorem grown_cell {w w' : World} {row : Option Nat} {B o : Nat} {x : Value} (h : w.cell? ⟨B, o, none⟩ = some x) (hg : w.grownBy w' row) (hr : row ≠ some B) : w'.cell? ⟨B, o, none⟩ = some x :=
  (World.cell?_of_block (a := ⟨B, o, none⟩) (hg.block B (World.block_lt_of_cell? _ _ h) (fun e => hr e.symm))).trans h
theorem grown_frozen {w w' : World} {row : Option Nat} {B o : Nat} {x : Value} (h : w.cell? ⟨B, o, none⟩ = some x) (hf : w.frozen? ⟨B, o, none⟩ = false) (hg : w.grownBy w' row) (hr : row ≠ some B) : w'.frozen? ⟨B, o, none⟩ = false :=
  (World.frozen?_of_block (a := ⟨B, o, none⟩) (hg.block B (World.block_lt_of_cell? _ _ h) (fun e => hr e.symm))).trans hf

/-- The reader's block. -/
structure RdAt (s : ByteArray) (B : Nat) (p : Int) (v : Value) (W : World) : Prop where
  c0 : W.cell? ⟨B, 0, none⟩ = some (.string s)
  c1 : W.cell? ⟨B, 1, none⟩ = some (.int .i64 p)
  c2 : W.cell? ⟨B, 2, none⟩ = some v
  f0 : W.frozen? ⟨B, 0, none⟩ = false
  f1 : W.frozen? ⟨B, 1, none⟩ = false
  f2 : W.frozen? ⟨B, 2, none⟩ = false
theorem RdAt.below {s : ByteArray} {B C : Nat} {p : Int} {v : Value} {W W' : World} (h : RdAt s B p v W) (hb : Below C W W') (hB : B < C) : RdAt s B p v W' := by
  obtain ⟨hc, hf⟩ := bcell hb
  exact ⟨(hc _ _ hB).trans h.c0, (hc _ _ hB).trans h.c1, (hc _ _ hB).trans h.c2, (hf _ _ hB).trans h.f0, (hf _ _ hB).trans h.f1, (hf _ _ hB).trans h.f2⟩
theorem RdAt.lt {s : ByteArray} {B : Nat} {p : Int} {v : Value} {W : World} (h : RdAt s B p v W) : B < W.heap.size := World.block_lt_of_cell? _ _ h.c0
theorem RdAt.grown {s : ByteArray} {B : Nat} {p : Int} {v : Value} {W W' : World} {row : Option Nat} (h : RdAt s B p v W) (hg : W.grownBy W' row) (hr : row ≠ some B) : RdAt s B p v W' :=
  ⟨grown_cell h.c0 hg hr, grown_cell h.c1 hg hr, grown_cell h.c2 hg hr, grown_frozen h.c0 h.f0 hg hr, grown_frozen h.c1 h.f1 hg hr, grown_frozen h.c2 h.f2 hg hr⟩
theorem RdAt.set3 {s : ByteArray} {B : Nat} {p q : Int} {v v' : Value} {W : World} (h : RdAt s B p v W) : RdAt s B q v' (((W.setCell ⟨B, 2, none⟩ v').setCell ⟨B, 0, none⟩ (.string s)).setCell ⟨B, 1, none⟩ (.int .i64 q)) := by
  have h1 := h.c0
  have h2 := h.c1
  have h3 := h.c2
  refine ⟨?_, ?_, ?_, ?_, ?_, ?_⟩
  · simp [go_sem, h1]
  · simp [go_sem, h2]
  · simp [go_sem, h3]
  · simp [h.f0]
  · simp [h.f1]
  · simp [h.f2]

/-- What holds at a round's head of numbers: ns are read, and stand in v; the place is p. -/
structure AInv (s : ByteArray) (w : World) (p : Nat) (ns : List Nat) (v : Value) (wr : World) : Prop where
  le : p ≤ s.size
  all : preE ns (allL (dropB s (p : Int))) = allL s.data.toList
  len : ns.length ≤ p
  rd : RdAt s w.heap.size (p : Int) v wr
  own : wr.ownsRow (w.heap.size + 1) 3 1 v ns.length (ns.map iv)
  below : Below w.heap.size w wr

theorem AInv.start (s : ByteArray) (w : World) : AInv s w 0 [] (.slice none 0 0) (w.alloc (.cells #[.string s, .int .i64 0, .slice none 0 0] 72)) :=
  ⟨Nat.zero_le _, by rw [preE_nil]; simp [dropB], Nat.le_refl _, ⟨by go_simp, by go_simp, by go_simp, by go_simp, by go_simp, by go_simp⟩, World.ownsRow_nil _ _ _ _, (Below.refl _ _).alloc (Nat.le_refl _) _⟩

/-- What numbers answers. -/
def NumsR (s : ByteArray) (w : World) (e : Ending) (w' : World) : Prop :=
  ((∃ k v, allL s.data.toList = .error k ∧ Wrong k v ∧ e = .returned (.tuple #[.slice none 0 0, v])) ∨ (∃ ns A, allL s.data.toList = .ok ns ∧ IntsRd w' A (ns.map fun n : Nat => (n : Int)) ∧ e = .returned (.tuple #[.slice A ns.length ns.length, .nilIface]))) ∧ Below w.heap.size w w'

theorem AInv.bad {s : ByteArray} {w wr w1 : World} {p : Nat} {ns : List Nat} {v u : Value} {k : Int} (h : AInv s w p ns v wr) (hlt : p < s.size) (hd : decL (dropB s (p : Int)) = .error k) (hu : Wrong k u) (hb : Below wr.heap.size wr w1) : NumsR s w (.returned (.tuple #[.slice none 0 0, u])) w1 := by
  refine ⟨.inl ⟨k, u, ?_, hu, rfl⟩, h.below.trans (hb.mono h.below.size)⟩
  rw [← h.all, allL_error hd]
  · rfl
  · intro e
    have := congrArg List.length e
    unfold dropB at this
    rw [if_neg (by omega), List.length_drop] at this
    simp at this
    omega

theorem AInv.done_ {s : ByteArray} {w wr : World} {p : Nat} {ns : List Nat} {A : Option Addr} {c : Nat} (h : AInv s w p ns (.slice A ns.length c) wr) (hge : s.size ≤ p) : NumsR s w (.returned (.tuple #[.slice A ns.length ns.length, .nilIface])) wr := by
  have ha := h.all
  rw [dropB_out s p (.inr (by omega)), allL_nil] at ha
  refine ⟨.inr ⟨ns, A, ?_, ?_, rfl⟩, h.below⟩
  · rw [← ha]; simp [preE]
  · intro j x hj
    have hj' : (ns.map iv)[j]? = some (.int .i64 x) := by
      rw [List.getElem?_map] at hj ⊢
      cases hn : ns[j]? with
      | none => rw [hn] at hj; cases hj
      | some n => rw [hn] at hj; simp at hj; subst hj; rfl
    rcases h.own.2 with ⟨_, h0⟩ | ⟨g, cap, cur, e, _⟩
    · have : ns = [] := List.eq_nil_of_length_eq_zero h0
      subst this
      simp at hj
    · have e1 : A = some ⟨g, 0, none⟩ := by injection e
      subst e1
      exact ⟨_, rfl, h.own.cells (g := g) rfl j _ hj'⟩

theorem AInv.step {s : ByteArray} {w wr w1 w2 : World} {p m n : Nat} {ns : List Nat} {t : List UInt8} {v v' : Value} {o1 o2 : Obj} (h : AInv s w p ns v wr) (hd : decL (dropB s (p : Int)) = .ok (n, t)) (hj : (p : Int) + (m : Int) = (s.size : Int) - (t.length : Int)) (hm : 1 ≤ m) (ht : t = dropB s ((p : Int) + (m : Int)))
    (hb1 : Below wr.heap.size wr w1) (hown : w2.ownsRow (w.heap.size + 1) 3 1 v' (ns.length + 1) (ns.map iv ++ [iv n])) (hg : ((w1.alloc o1).alloc o2).grownBy w2 v.ownBlock) :
    AInv s w (p + m) (ns ++ [n]) v' (((w2.setCell ⟨w.heap.size, 2, none⟩ v').setCell ⟨w.heap.size, 0, none⟩ (.string s)).setCell ⟨w.heap.size, 1, none⟩ (.int .i64 ((p : Int) + (m : Int)))) := by
  have hrow : v.ownBlock ≠ some w.heap.size := fun e => by have := (h.own.lt _ e).1; omega
  have hB1 : Below w.heap.size w ((w1.alloc o1).alloc o2) := ((h.below.trans (hb1.mono h.below.size)).alloc (by have := hb1.size; have := h.below.size; omega) _).alloc (by have := hb1.size; have := h.below.size; simp; omega) _
  have hB2 : Below w.heap.size w w2 := hB1.grown hg hB1.size (fun g e => by have := (h.own.lt g e).1; omega)
  have hc : ((p : Int) + (m : Int)) = ((p + m : Nat) : Int) := by omega
  refine ⟨by omega, ?_, by simp; have := h.len; omega, ?_, ?_, ((hB2.setCell (by simp) _).setCell (by simp) _).setCell (by simp) _⟩
  · rw [preE_snoc, ← hc, ← ht, ← allL_ok hd]
    exact h.all
  · rw [← hc]
    exact (((h.rd.below hb1 h.rd.lt).below ((((Below.refl _ w1).alloc (Nat.le_refl _) o1).alloc (by simp) o2)) (by have := h.rd.lt; have := hb1.size; omega)).grown hg hrow).set3
  · rw [List.length_append, List.map_append]
    exact ownsRow_set (ownsRow_set (ownsRow_set hown (by omega) _) (by omega) _) (by omega) _

set_option maxRecDepth 100000 in
set_option maxHeartbeats 4000000 in
theorem numbers_any (s : ByteArray) (w : World) (hs : s.size ≤ 1000000) :
    Calls Tryd.prog 31 #[.string s] w (NumsR s w) := by
  obtain ⟨i0, hi, hz0, hz1, hz2⟩ := info_parts i64_info
  go_enter Tryd.func31, Tryd.ntmps31
  go_wp2
  go_loopg [5] s.size (fun k x wr => ∃ (p : Nat) (ns : List Nat) (v : Value), s.size ≤ p + k ∧ AInv s w p ns v wr)
  case atStart => exact ⟨0, [], _, by omega, AInv.start s w⟩
  case round =>
    obtain ⟨p, ns, v, hk, hI⟩ := hrel
    have c0 := hI.rd.c0
    have c1 := hI.rd.c1
    have c2 := hI.rd.c2
    have f0 := hI.rd.f0
    have f1 := hI.rd.f1
    have f2 := hI.rd.f2
    have hle := hI.le
    by_cases hlt : p < s.size
    · go_wp2_with fail
      refine (number_any s (p : Int) _ hs).mono ?_
      rintro e w1 (⟨k, hd, ⟨u, hu, rfl⟩, hb1⟩ | ⟨n, t, j, hd, h0, hj, hj1, ht, rfl, hb1⟩)
      · have HU := Lib.hid (AInv.bad hI hlt hd hu (hb1.alloc hb1.size (.cells #[.string ⟨#[]⟩, .int .i64 0, .int .i64 0] 53)))
        have hne : ∃ ty x, u = .iface ty x := by rcases hu with rfl | ⟨_, rfl⟩ <;> exact ⟨_, _, rfl⟩
        obtain ⟨ty, x, rfl⟩ := hne
        clear hu hd hI c0 c1 c2 f0 f1 f2
        go_wp2
        go_ret2
        exact HU.out
      · obtain ⟨m, rfl⟩ := Int.eq_ofNat_of_zero_le (show 0 ≤ j by omega)
        have hm1 : 1 ≤ m := by omega
        have hrd1 := hI.rd.below hb1 hI.rd.lt
        have hown1 := ((ownsRow_below hI.own hb1).kept (World.grownBy_alloc w1 (.cells #[.string s, .int .i64 ((p : Int) + (m : Int)), .int .i64 (n : Int)] 53) none) (Classical.em _)).kept (World.grownBy_alloc _ (.cells #[.int .i64 (n : Int)] 3) none) (Classical.em _)
        have hst := fun v' w2 => AInv.step (w2 := w2) (v' := v') (o1 := .cells #[.string s, .int .i64 ((p : Int) + (m : Int)), .int .i64 (n : Int)] 53) (o2 := .cells #[.int .i64 (n : Int)] 3) hI hd hj hm1 ht hb1
        have HST := Lib.hid hst
        have hlt1 := hI.rd.lt
        have hz1' := hb1.size
        have hlen := hI.len
        have hro : ∀ g, v.ownBlock = some g → g < wr.heap.size := fun g e => (hI.own.lt g e).2
        have HRO := Lib.hid hro
        have hrow : v.ownBlock ≠ some w.heap.size := fun e => by have := (hI.own.lt _ e).1; omega
        have HROW := Lib.hid hrow
        have hrd2 := (hrd1.below ((((Below.refl _ w1).alloc (Nat.le_refl _) (.cells #[.string s, .int .i64 ((p : Int) + (m : Int)), .int .i64 (n : Int)] 53)).alloc (by simp) (.cells #[.int .i64 (n : Int)] 3))) (by omega))
        have HRD := Lib.hid hrd2
        have c0 := hrd1.c0
        have c1 := hrd1.c1
        have c2 := hrd1.c2
        have hb1z : w.heap.size < w1.heap.size := by omega
        have hjj : (p : Int) + (m : Int) ≤ 1000000 := by omega
        have HOWN := Lib.hid hown1
        clear hst hI hd ht hb1 hro hrow hrd1 hrd2 hown1 hj f0 f1 f2
        go_wp2_with (at_builtin; refine wpList_append_own _ rfl _ _ 32 rfl (w.heap.size + 1) 3 i0 (.int .i64 0) 1 8 Tryd.underlying32 hi hz0 hz1 hz2 rfl (by decide) _ _ _ rfl HOWN.out ⟨w1.heap.size + 1, 0, none⟩ 1 1 [iv n] rfl (by simp) ?c1 ?c2 ?c3 ?c4 ?c5 ?_)
        case c1 =>
          intro j u hj
          rcases j with _ | j
          · have : u = iv n := by simpa using hj.symm
            subst this
            simp [Addr.add, iv, go_sem]
          · simp at hj
        case c2 =>
          intro u hu
          have : u = iv n := by simpa using hu
          subst this
          rfl
        case c3 => unfold maxLen; omega
        case c4 => omega
        case c5 => simp; omega
        intro v' w2 hown' hgrow _
        obtain ⟨g', cap', rfl⟩ : ∃ g' cap', v' = .slice (some ⟨g', 0, none⟩) (ns.length + 1) cap' := by
          rcases hown'.2 with ⟨_, h0⟩ | ⟨g', cap', _, e, _⟩
          · omega
          · exact ⟨g', cap', e⟩
        have hrd3 := HRD.out.grown hgrow HROW.out
        have q0 : w2.cell? ⟨w1.heap.size, 0, none⟩ = some (.string s) := grown_cell (by go_simp) hgrow (fun e => by have := HRO.out _ e; omega)
        have q1 : w2.cell? ⟨w1.heap.size, 1, none⟩ = some (.int .i64 ((p : Int) + (m : Int))) := grown_cell (by go_simp) hgrow (fun e => by have := HRO.out _ e; omega)
        have c0 := hrd3.c0
        have c1 := hrd3.c1
        have c2 := hrd3.c2
        have f0 := hrd3.f0
        have f1 := hrd3.f1
        have f2 := hrd3.f2
        have HF := Lib.hid (HST.out _ w2 hown' hgrow)
        have hne1 : w1.heap.size ≠ w.heap.size := by omega
        clear hown' hgrow hrd3 HST HRD HRO HROW HOWN
        go_wp2
        go_roundg (gk - 1)
        case measure => omega
        case rel => exact ⟨p + m, _, _, by omega, HF.out⟩
    · rcases hI.own.2 with ⟨rfl, h0⟩ | ⟨g, cap, cur, rfl, hb, hgg, hcap, _⟩
      · have h00 : ns = [] := List.eq_nil_of_length_eq_zero h0
        subst h00
        have HU := Lib.hid (AInv.done_ (A := none) (c := 0) hI (by omega))
        clear h0 hI
        go_wp2
        go_ret2
        exact HU.out
      · have HU := Lib.hid (AInv.done_ (A := some ⟨g, 0, none⟩) (c := cap) hI (by omega))
        clear hI
        go_wp2
        go_ret2
        exact HU.out

/-- What All answers. -/
def AllR (s : ByteArray) (w : World) (e : Ending) (w' : World) : Prop :=
  ((∃ k, allL s.data.toList = .error k ∧ e = .returned (.tuple #[.slice none 0 0, .int .i64 k])) ∨ (∃ ns A, allL s.data.toList = .ok ns ∧ IntsRd w' A (ns.map fun n : Nat => (n : Int)) ∧ e = .returned (.tuple #[.slice A ns.length ns.length, .int .i64 0]))) ∧ Below w.heap.size w w'

set_option maxHeartbeats 400000 in
theorem all_any (s : ByteArray) (w : World) (hG : EnvE w) (hs : s.size ≤ 1000000) :
    Calls Tryd.prog 22 #[.string s] w (AllR s w) := by
  go_enter Tryd.func22, Tryd.ntmps22
  go_wp2_with fail
  refine (numbers_any s _ hs).mono ?_
  rintro e w1 ⟨⟨k, v, ha, hv, rfl⟩ | ⟨ns, A, ha, hr, rfl⟩, hb1⟩
  · have HA := Lib.hid ha
    have HV := Lib.hid hv
    clear ha hv
    go_wp2_with fail
    refine (telll_bad _ v k _ (hG.below hb1) HV.out).mono ?_
    rintro e w2 ⟨rfl, hb2⟩
    go_wp2
    go_ret2
    exact ⟨.inl ⟨k, HA.out, rfl⟩, hb1.trans (hb2.mono hb1.size)⟩
  · have HA := Lib.hid ha
    have HR := Lib.hid hr
    clear ha hr
    go_wp2_with fail
    refine (telll_ok _ _).mono ?_
    rintro e w2 ⟨rfl, hb2⟩
    go_wp2
    go_ret2
    exact ⟨.inr ⟨ns, A, HA.out, HR.out.below hb2, rfl⟩, hb1.trans (hb2.mono hb1.size)⟩
end Go.Proofs.YtajeanmmelldnaaDoor
