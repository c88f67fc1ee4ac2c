/- Items and names in boxes; number and list of package eid7. -/
import Derived.Test.YtmbmolgkccjedaaGreatDoorM10
import Derived.Test.YtmbmolgkccjedaaGreatDoorM11
import Derived.Test.YtmbmolgkccjedaaGreatDoorM14
import Derived.Test.YtmbmolgkccjedaaGreatDoorM9
import Derived.Test.YtmbmolgkccjedaaGreatDoorM7
set_option linter.unusedVariables false
set_option linter.unusedSimpArgs false
namespace Go.Proofs.YtmbmolgkccjedaaGreatDoor
open Go.RowKit

theorem Blk.four {w : World} {B : Nat} {t : TypeId} {x0 x1 x2 x3 : Value} (h : Blk w B t #[x0, x1, x2, x3]) : w.cell? ⟨B, 0, none⟩ = some x0 ∧ w.cell? ⟨B, 1, none⟩ = some x1 ∧ w.cell? ⟨B, 2, none⟩ = some x2 ∧ w.cell? ⟨B, 3, none⟩ = some x3 := ⟨h.cell 0, h.cell 1, h.cell 2, h.cell 3⟩
theorem Blk.five {w : World} {B : Nat} {t : TypeId} {x0 x1 x2 x3 x4 : Value} (h : Blk w B t #[x0, x1, x2, x3, x4]) : w.cell? ⟨B, 0, none⟩ = some x0 ∧ w.cell? ⟨B, 1, none⟩ = some x1 ∧ w.cell? ⟨B, 2, none⟩ = some x2 ∧ w.cell? ⟨B, 3, none⟩ = some x3 ∧ w.cell? ⟨B, 4, none⟩ = some x4 := ⟨h.cell 0, h.cell 1, h.cell 2, h.cell 3, h.cell 4⟩
theorem Blk.set4 {w : World} {B : Nat} {t : TypeId} {x0 x1 x2 x3 : Value} (h : Blk w B t #[x0, x1, x2, x3]) (y0 y1 y2 y3 : Value) : Blk ((((w.setCell ⟨B, 0, none⟩ y0).setCell ⟨B, 1, none⟩ y1).setCell ⟨B, 2, none⟩ y2).setCell ⟨B, 3, none⟩ y3) B t #[y0, y1, y2, y3] :=
  (((h.set_ 0 y0).set_ 1 y1).set_ 2 y2).set_ 3 y3
theorem Blk.set5 {w : World} {B : Nat} {t : TypeId} {x0 x1 x2 x3 x4 : Value} (h : Blk w B t #[x0, x1, x2, x3, x4]) (y0 y1 y2 y3 y4 : Value) : Blk (((((w.setCell ⟨B, 0, none⟩ y0).setCell ⟨B, 1, none⟩ y1).setCell ⟨B, 2, none⟩ y2).setCell ⟨B, 3, none⟩ y3).setCell ⟨B, 4, none⟩ y4) B t #[y0, y1, y2, y3, y4] :=
  ((((h.set_ 0 y0).set_ 1 y1).set_ 2 y2).set_ 3 y3).set_ 4 y4
/-- The results that lie in a cell each: an item; a name; with another one behind it. -/
theorem res_item {w : World} {B : Nat} {x0 x1 x2 x3 : Value} (h : Blk w B 26 #[x0, x1, x2, x3]) {fn : Func} {j : Nat} (hres : fn.results = #[.cell j 26]) {tmps : Array Value} (h2 : tmps[j]?.getD undef = .pointer (some ⟨B, 0, none⟩)) :
    (results fn tmps).run Tryz.prog w = .ok (.agg #[x0, x1, x2, x3]) w := by
  obtain ⟨c0, c1, c2, c3⟩ := h.four
  simp [results, hres, go_sem, h2, c0, c1, c2, c3]
theorem res_item2 {w : World} {B : Nat} {x0 x1 x2 x3 v : Value} (h : Blk w B 26 #[x0, x1, x2, x3]) {fn : Func} {j s : Nat} (hres : fn.results = #[.cell j 26, .tmp s]) {tmps : Array Value} (h2 : tmps[j]?.getD undef = .pointer (some ⟨B, 0, none⟩)) (h3 : tmps[s]?.getD undef = v) :
    (results fn tmps).run Tryz.prog w = .ok (.tuple #[.agg #[x0, x1, x2, x3], v]) w := by
  obtain ⟨c0, c1, c2, c3⟩ := h.four
  simp [results, hres, go_sem, h2, h3, c0, c1, c2, c3]
theorem res_name {w : World} {B : Nat} {x0 x1 x2 x3 x4 : Value} (h : Blk w B 23 #[x0, x1, x2, x3, x4]) {fn : Func} {j : Nat} (hres : fn.results = #[.cell j 23]) {tmps : Array Value} (h2 : tmps[j]?.getD undef = .pointer (some ⟨B, 0, none⟩)) :
    (results fn tmps).run Tryz.prog w = .ok (.agg #[x0, x1, x2, x3, x4]) w := by
  obtain ⟨c0, c1, c2, c3, c4⟩ := h.five
  simp [results, hres, go_sem, h2, c0, c1, c2, c3, c4]
theorem res_name2 {w : World} {B : Nat} {x0 x1 x2 x3 x4 v : Value} (h : Blk w B 23 #[x0, x1, x2, x3, x4]) {fn : Func} {j s : Nat} (hres : fn.results = #[.cell j 23, .tmp s]) {tmps : Array Value} (h2 : tmps[j]?.getD undef = .pointer (some ⟨B, 0, none⟩)) (h3 : tmps[s]?.getD undef = v) :
    (results fn tmps).run Tryz.prog w = .ok (.tuple #[.agg #[x0, x1, x2, x3, x4], v]) w := by
  obtain ⟨c0, c1, c2, c3, c4⟩ := h.five
  simp [results, hres, go_sem, h2, h3, c0, c1, c2, c3, c4]
theorem res_name3 {w : World} {B : Nat} {x0 x1 x2 x3 x4 v u : Value} (h : Blk w B 23 #[x0, x1, x2, x3, x4]) {fn : Func} {j s r : Nat} (hres : fn.results = #[.cell j 23, .tmp s, .tmp r]) {tmps : Array Value} (h2 : tmps[j]?.getD undef = .pointer (some ⟨B, 0, none⟩)) (h3 : tmps[s]?.getD undef = v) (h4 : tmps[r]?.getD undef = u) :
    (results fn tmps).run Tryz.prog w = .ok (.tuple #[.agg #[x0, x1, x2, x3, x4], v, u]) w := by
  obtain ⟨c0, c1, c2, c3, c4⟩ := h.five
  simp [results, hres, go_sem, h2, h3, h4, c0, c1, c2, c3, c4]

theorem KeepsOthers.set4 (W : World) (B : Nat) (v0 v1 v2 v3 : Value) : KeepsOthers W (((((W).setCell ⟨B, 0, none⟩ v0).setCell ⟨B, 1, none⟩ v1).setCell ⟨B, 2, none⟩ v2).setCell ⟨B, 3, none⟩ v3) := ((((KeepsOthers.refl W).trans (KeepsOthers.setCell _ _ _)).trans (KeepsOthers.setCell _ _ _)).trans (KeepsOthers.setCell _ _ _)).trans (KeepsOthers.setCell _ _ _)
theorem cell_sets4 {W : World} {B : Nat} {a : Addr} {u : Value} (h : a.block ≠ B) (v0 v1 v2 v3 : Value) (e : W.cell? a = some u) : (((((W).setCell ⟨B, 0, none⟩ v0).setCell ⟨B, 1, none⟩ v1).setCell ⟨B, 2, none⟩ v2).setCell ⟨B, 3, none⟩ v3).cell? a = some u := by
  rw [World.cell?_setCell_other _ _ _ _ (by intro h2; exact h (congrArg Addr.block h2).symm)]
  rw [World.cell?_setCell_other _ _ _ _ (by intro h2; exact h (congrArg Addr.block h2).symm)]
  rw [World.cell?_setCell_other _ _ _ _ (by intro h2; exact h (congrArg Addr.block h2).symm)]
  rw [World.cell?_setCell_other _ _ _ _ (by intro h2; exact h (congrArg Addr.block h2).symm)]
  exact e
theorem keepA_set4 {A B : Nat} {W : World} (h : A ≠ B) (v0 v1 v2 v3 : Value) : KeepA A W (((((W).setCell ⟨B, 0, none⟩ v0).setCell ⟨B, 1, none⟩ v1).setCell ⟨B, 2, none⟩ v2).setCell ⟨B, 3, none⟩ v3) := fun i u e => cell_sets4 (a := ⟨A, i, none⟩) h v0 v1 v2 v3 e
theorem Blk.sets4 {W : World} {B g : Nat} {t : TypeId} {cs : Array Value} (hg : g ≠ B) (h : Blk W g t cs) (v0 v1 v2 v3 : Value) : Blk (((((W).setCell ⟨B, 0, none⟩ v0).setCell ⟨B, 1, none⟩ v1).setCell ⟨B, 2, none⟩ v2).setCell ⟨B, 3, none⟩ v3) g t cs := ((((h).far (p := ⟨B, 0, none⟩) hg _).far (p := ⟨B, 1, none⟩) hg _).far (p := ⟨B, 2, none⟩) hg _).far (p := ⟨B, 3, none⟩) hg _
theorem below_sets4 {w W : World} {n B : Nat} (h : Below n w W) (hB : n ≤ B) (v0 v1 v2 v3 : Value) : Below n w (((((W).setCell ⟨B, 0, none⟩ v0).setCell ⟨B, 1, none⟩ v1).setCell ⟨B, 2, none⟩ v2).setCell ⟨B, 3, none⟩ v3) := ((((h).setCell hB _).setCell hB _).setCell hB _).setCell hB _
theorem KeepsOthers.set5 (W : World) (B : Nat) (v0 v1 v2 v3 v4 : Value) : KeepsOthers W ((((((W).setCell ⟨B, 0, none⟩ v0).setCell ⟨B, 1, none⟩ v1).setCell ⟨B, 2, none⟩ v2).setCell ⟨B, 3, none⟩ v3).setCell ⟨B, 4, none⟩ v4) := (((((KeepsOthers.refl W).trans (KeepsOthers.setCell _ _ _)).trans (KeepsOthers.setCell _ _ _)).trans (KeepsOthers.setCell _ _ _)).trans (KeepsOthers.setCell _ _ _)).trans (KeepsOthers.setCell _ _ _)
theorem cell_sets5 {W : World} {B : Nat} {a : Addr} {u : Value} (h : a.block ≠ B) (v0 v1 v2 v3 v4 : Value) (e : W.cell? a = some u) : ((((((W).setCell ⟨B, 0, none⟩ v0).setCell ⟨B, 1, none⟩ v1).setCell ⟨B, 2, none⟩ v2).setCell ⟨B, 3, none⟩ v3).setCell ⟨B, 4, none⟩ v4).cell? a = some u := by
  rw [World.cell?_setCell_other _ _ _ _ (by intro h2; exact h (congrArg Addr.block h2).symm)]
  rw [World.cell?_setCell_other _ _ _ _ (by intro h2; exact h (congrArg Addr.block h2).symm)]
  rw [World.cell?_setCell_other _ _ _ _ (by intro h2; exact h (congrArg Addr.block h2).symm)]
  rw [World.cell?_setCell_other _ _ _ _ (by intro h2; exact h (congrArg Addr.block h2).symm)]
  rw [World.cell?_setCell_other _ _ _ _ (by intro h2; exact h (congrArg Addr.block h2).symm)]
  exact e
theorem keepA_set5 {A B : Nat} {W : World} (h : A ≠ B) (v0 v1 v2 v3 v4 : Value) : KeepA A W ((((((W).setCell ⟨B, 0, none⟩ v0).setCell ⟨B, 1, none⟩ v1).setCell ⟨B, 2, none⟩ v2).setCell ⟨B, 3, none⟩ v3).setCell ⟨B, 4, none⟩ v4) := fun i u e => cell_sets5 (a := ⟨A, i, none⟩) h v0 v1 v2 v3 v4 e
theorem Blk.sets5 {W : World} {B g : Nat} {t : TypeId} {cs : Array Value} (hg : g ≠ B) (h : Blk W g t cs) (v0 v1 v2 v3 v4 : Value) : Blk ((((((W).setCell ⟨B, 0, none⟩ v0).setCell ⟨B, 1, none⟩ v1).setCell ⟨B, 2, none⟩ v2).setCell ⟨B, 3, none⟩ v3).setCell ⟨B, 4, none⟩ v4) g t cs := (((((h).far (p := ⟨B, 0, none⟩) hg _).far (p := ⟨B, 1, none⟩) hg _).far (p := ⟨B, 2, none⟩) hg _).far (p := ⟨B, 3, none⟩) hg _).far (p := ⟨B, 4, none⟩) hg _
theorem below_sets5 {w W : World} {n B : Nat} (h : Below n w W) (hB : n ≤ B) (v0 v1 v2 v3 v4 : Value) : Below n w ((((((W).setCell ⟨B, 0, none⟩ v0).setCell ⟨B, 1, none⟩ v1).setCell ⟨B, 2, none⟩ v2).setCell ⟨B, 3, none⟩ v3).setCell ⟨B, 4, none⟩ v4) := (((((h).setCell hB _).setCell hB _).setCell hB _).setCell hB _).setCell hB _
theorem keepsJ {W W' : World} (hb : Below W.heap.size W W') : KeepsOthers W W' := ⟨hb.size, fun k o h _ => (hb.block k (lt_of_heap h)).trans h⟩
/-- What an item's value is made of. -/
theorem ItV.parts {ok : Nat → Prop} {W : World} {x : Itm} {v : Value} (h : ItV ok W x v) : ∃ (p : Option Addr) (cap : Nat), v = .agg #[.int .i64 x.k, .int .i64 x.n, .string ⟨x.s.toArray⟩, .slice p x.l.length cap] ∧ x.l.length ≤ cap ∧ ItsV ok W x.l p 0 ∧ (Lit.int .i64 x.k).wf = true ∧ (Lit.int .i64 x.n).wf = true ∧ x.s.length ≤ maxLen := by
  obtain ⟨k, n, s, l⟩ := x
  simp only [ItV] at h
  obtain ⟨p, cap, h1, h2, h3, h4, h5, h6, h7⟩ := h
  exact ⟨p, cap, h1, h2, h7, h5, h6, h4⟩
theorem ItV.num {ok : Nat → Prop} {W : World} {n : Int} (hn : (Lit.int .i64 n).wf = true) : ItV ok W (numI n) (.agg #[.int .i64 0, .int .i64 n, .string ⟨#[]⟩, .slice none 0 0]) := by
  simp only [numI, ItV]
  exact ⟨none, 0, rfl, Nat.le_refl _, Nat.zero_le _, Nat.zero_le _, by decide, hn, by simp [ItsV]⟩
theorem ItV.txt {ok : Nat → Prop} {W : World} {s : ByteArray} (hs : s.size ≤ maxLen) : ItV ok W (txtI s.data.toList) (.agg #[.int .i64 3, .int .i64 0, .string s, .slice none 0 0]) := by
  simp only [txtI, ItV]
  refine ⟨none, 0, ?_, Nat.le_refl _, Nat.zero_le _, ?_, by decide, by decide, by simp [ItsV]⟩
  · rw [show (⟨s.data.toList.toArray⟩ : ByteArray) = s from ByteArray.ext (by simp)]; rfl
  · rw [Array.length_toList]; exact hs
/-- A list of two items in a box. -/
theorem ItV.two {ok : Nat → Prop} {W : World} {R : Nat} {x y : Itm} {a0 a1 a2 a3 b0 b1 b2 b3 : Value} (h : Blk W R 26 #[a0, a1, a2, a3, b0, b1, b2, b3]) (hok : ok R) (hx : ItV ok W x (.agg #[a0, a1, a2, a3])) (hy : ItV ok W y (.agg #[b0, b1, b2, b3])) :
    ItV ok W (lstI [x, y]) (.agg #[.int .i64 4, .int .i64 0, .string ⟨#[]⟩, .slice (some ⟨R, 0, none⟩) 2 2]) := by
  have c : ∀ j, W.cell? ((⟨R, 0, none⟩ : Addr).add j) = #[a0, a1, a2, a3, b0, b1, b2, b3][j]? := fun j => by
    rw [Addr.add_mid, Nat.zero_add]; exact h.cell j
  simp only [lstI, ItV, ItsV]
  exact ⟨some ⟨R, 0, none⟩, 2, rfl, Nat.le_refl _, by unfold maxLen; decide, Nat.zero_le _, by decide, by decide,
    ⟨⟨R, 0, none⟩, a0, a1, a2, a3, rfl, hok, c 0, c 1, c 2, c 3, hx⟩, ⟨⟨R, 0, none⟩, b0, b1, b2, b3, rfl, hok, c 4, c 5, c 6, c 7, hy⟩, trivial⟩

set_option maxRecDepth 100000 in
set_option maxHeartbeats 1000000 in
theorem jnumber_any (n : Int) (w : World) :
    Calls Tryz.prog 106 #[.int .i64 n] w fun e w' => e = .returned (.agg #[.int .i64 0, .int .i64 n, .string ⟨#[]⟩, .slice none 0 0]) ∧ Below w.heap.size w w' := by
  go_enter Tryz.func106, Tryz.ntmps106
  go_wp2
  refine bodyPost_ret (res_item (B := w.heap.size) (Blk.new w _ _) rfl rfl) rfl ⟨rfl, (Below.refl _ w).alloc (Nat.le_refl _) _⟩
set_option maxRecDepth 100000 in
set_option maxHeartbeats 1000000 in
theorem jlist_any (p : Option Addr) (l c : Nat) (w : World) :
    Calls Tryz.prog 105 #[.slice p l c] w fun e w' => e = .returned (.agg #[.int .i64 4, .int .i64 0, .string ⟨#[]⟩, .slice p l c]) ∧ Below w.heap.size w w' := by
  go_enter Tryz.func105, Tryz.ntmps105
  go_wp2
  refine bodyPost_ret (res_item (B := w.heap.size) (Blk.new w _ _) rfl rfl) rfl ⟨rfl, (Below.refl _ w).alloc (Nat.le_refl _) _⟩
end Go.Proofs.YtmbmolgkccjedaaGreatDoor

/- The shapes in a row, as an iterator, and what is made by the one that fits (package eid7), at items and at names. -/
set_option linter.unusedVariables false
set_option linter.unusedSimpArgs false
namespace Go.Proofs.YtmbmolgkccjedaaGreatDoor
open Go.RowKit Go.Shelf

attribute [local go_sem] Oper.semAt_some

/-- A shape: whether it fits, the function that makes, upon what. -/
abbrev Shp := Bool × Nat × Value
def shF (x : Shp) : Value := .func (.func x.2.1) #[x.2.2] #[]
/-- Shapes lie in block A. -/
structure ShRd (A : Nat) (ps : List Shp) (w : World) : Prop where
  c0 : ∀ j x, ps[j]? = some x → w.cell? ⟨A, j * 2, none⟩ = some (.bool x.1)
  c1 : ∀ j x, ps[j]? = some x → w.cell? ⟨A, j * 2 + 1, none⟩ = some (shF x)
theorem ShRd.keep {A : Nat} {ps : List Shp} {X Y : World} (h : ShRd A ps X) (k : KeepA A X Y) : ShRd A ps Y := ⟨fun j x e => k _ _ (h.c0 j x e), fun j x e => k _ _ (h.c1 j x e)⟩
theorem blk_kept {X Y : World} {row : Option Nat} {g : Nat} {t : TypeId} {cs : Array Value} (h : Blk X g t cs) (hg : X.grownBy Y row) (hr : ∀ r, row = some r → ∃ o, X.heap[r]? = some o ∧ o.isCells = false) : Blk Y g t cs := by
  refine (hg.block g h.lt fun e => ?_).trans h
  obtain ⟨o, ho, hc⟩ := hr g e.symm
  rw [show X.heap[g]? = _ from h] at ho
  injection ho with ho
  rw [← ho] at hc
  cases hc
/-- No shape among these fits. -/
def noFit (ps : List Shp) : Prop := ∀ x ∈ ps, x.1 = false

set_option maxRecDepth 100000 in
set_option maxHeartbeats 2000000 in
theorem eachS1I {α : Type} (f : α → Shp) (l n : Nat) (J Jx : List α → World → Prop) (A Q m : Nat) (ps : List α) (hm : ps.length = m) (hmx : m ≤ 1000)
    (hJ : ∀ pre W o, J pre W → J pre (W.alloc o))
    (hY : ∀ pre (x : α) W, J pre W → pre.length < m → YieldAt Fence.wide (n - 1) Tryz.prog l #[.agg #[.bool (f x).1, shF (f x)]] W fun e W' =>
      (e = .returned (.bool true) ∧ J (pre ++ [x]) W' ∧ KeepA A W W') ∨ (e = .returned (.bool false) ∧ Jx (pre ++ [x]) W'))
    (W : World) (hQ : W.cell? ⟨Q, 0, none⟩ = some (.slice (some ⟨A, 0, none⟩) m m)) (hP : ShRd A (ps.map f) W) (h0 : J [] W) :
    CallsIn Fence.wide n Tryz.prog 104 #[.func (.yield l) #[] #[], .pointer (some ⟨Q, 0, none⟩)] W fun e W' => (∃ v, e = .returned v) ∧
      ((∃ ys, ys = ps ∧ J ys W') ∨ (∃ pre, pre <+: ps ∧ Jx pre W')) := by
  have HP := Lib.hid hP
  have HL := Lib.hid hm
  clear hP hm
  refine callsIn_of_wp Tryz.func104 rfl trivial ?_ rfl
  simp only [Tryz.ntmps104, List.size_toArray, List.length_cons, List.length_nil, Nat.reduceAdd, Nat.reduceSub, Array.replicate_succ, Array.replicate_zero, List.push_toArray, List.append_toArray, List.nil_append, List.cons_append]
  gi_wp2
  clear hQ
  gi_loopw [7] (fun i wr => ∃ k : Nat, k ≤ m ∧ i = .int .i64 (k : Int) ∧ J (ps.take k) wr ∧ KeepA A W wr) (fun i _ => m - (intOf i).toNat)
  case atStart => exact ⟨0, Nat.zero_le _, rfl, h0, KeepA.refl _ _⟩
  case round =>
    obtain ⟨k, hk, rfl, hJs, hkw⟩ := hrel
    have HKW := Lib.hid hkw
    clear hkw
    by_cases hlt : k < m
    · obtain ⟨x, hx⟩ : ∃ x, ps[k]? = some x := ⟨_, List.getElem?_eq_getElem (by have := HL.out; omega)⟩
      have hP1 := HP.out.keep HKW.out
      have k0 := hP1.c0 k (f x) (by rw [List.getElem?_map, hx]; rfl)
      have k1 := hP1.c1 k (f x) (by rw [List.getElem?_map, hx]; rfl)
      have HX := Lib.hid (show ps.take (k + 1) = ps.take k ++ [x] by rw [List.take_add_one, hx]; rfl)
      have HLT := Lib.hid (show (ps.take k).length < m by rw [List.length_take, HL.out]; omega)
      clear hP1 hx
      obtain ⟨fn, tmps, assign, body, hy, hR⟩ := hY (ps.take k) x (wr.alloc (.cells #[.bool (f x).1, shF (f x)] 120)) (hJ _ _ _ hJs) HLT.out
      have HR := Lib.hid hR
      have HJ := Lib.hid hJ
      have HY := Lib.hid hY
      clear hR hJ hY hJs h0
      obtain ⟨⟨xb, xg, xr⟩, hfx⟩ : ∃ y, f x = y := ⟨_, rfl⟩
      rw [hfx] at k0 k1 hy HR
      simp only [shF] at k0 k1 hy HR
      have HFX := Lib.hid hfx
      clear hfx
      gi_wp2
      refine ⟨fun h => (by cases h), ?_⟩
      refine HR.out.mono ?_
      clear HR k0 k1
      rintro e W3 (⟨rfl, hJ3, hk3⟩ | ⟨rfl, hJx3⟩)
      · have HK3 := Lib.hid (HKW.out.trans ((KeepA.alloc _ _).trans hk3))
        have HJ3 := Lib.hid hJ3
        clear hk3 hJ3
        gi_wp2
        go_roundw
        case rel => exact ⟨k + 1, by omega, by go_num, by rw [HX.out]; exact HJ3.out, HK3.out⟩
        case measure => simp [intOf]; omega
      · have HJ3 := Lib.hid hJx3
        clear hJx3
        gi_wp2
        refine bodyPost_ret (results_none rfl _ _ _) rfl ?_
        refine ⟨⟨_, rfl⟩, .inr ⟨_, ?_, HJ3.out⟩⟩
        rw [← HX.out]
        exact List.take_prefix _ _
    · obtain rfl : k = m := by omega
      have HJS := Lib.hid hJs
      clear hJs h0
      gi_wp2
      go_end0
      exact ⟨⟨_, rfl⟩, .inl ⟨_, rfl, by rw [List.take_of_length_le (by rw [HL.out]; exact Nat.le_refl _)] at HJS; exact HJS.out⟩⟩

/-- The parts in a row, as an iterator that a round may stop. -/
theorem eachS_stopsI {α : Type} (f : α → Shp) (n : Nat) (A Q m : Nat) (ps : List α) (hm : ps.length = m) (hmx : m ≤ 1000) (w : World) (hQ : w.cell? ⟨Q, 0, none⟩ = some (.slice (some ⟨A, 0, none⟩) m m)) (hP : ShRd A (ps.map f) w) :
    SeqStopsK Fence.wide n Tryz.prog 104 #[.pointer (some ⟨Q, 0, none⟩)] (fun x : α => #[Value.agg #[.bool (f x).1, shF (f x)]]) (KeepA A) (fun ys => ys = ps) (fun pre => pre <+: ps) m w := fun l J Jx W hW hJ _ hY h0 => by
  refine (eachS1I f l n J Jx A Q m ps hm hmx (fun pre W' o h => hJ _ _ _ none h (World.grownBy_alloc W' o none) (fun r e => by cases e)) hY W ((hW.cell (World.block_lt_of_cell? _ _ hQ)).trans hQ) (hP.keep (KeepA.below hW)) h0).mono ?_
  rintro e W' ⟨he, ⟨ys, hk, hj⟩ | ⟨ys, hk, hj⟩⟩
  · exact ⟨he, .inl ⟨_, hk, hj⟩⟩
  · exact ⟨he, .inr ⟨_, hk, hj⟩⟩

set_option maxHeartbeats 1000000 in
theorem eachS_anyI (A m : Nat) (w : World) :
    Calls Tryz.prog 75 #[.slice (some ⟨A, 0, none⟩) m m] w fun e w' => e = .returned (.func (.func 104) #[] #[.pointer (some ⟨w.heap.size, 0, none⟩)]) ∧ w' = w.alloc (.cells #[.slice (some ⟨A, 0, none⟩) m m] 161) := by
  go_enter Tryz.func75, Tryz.ntmps75
  go_wp2
  go_ret
  exact ⟨rfl, rfl⟩


set_option maxRecDepth 100000 in
set_option maxHeartbeats 4000000 in
/-- A shape whose function, if it fits, makes what it must. -/
def MkI (w : World) (R : Shp → Value → World → Prop) (x : Shp) : Prop := x.1 = true → (∀ args W, (callFunc x.2.1 args).run Tryz.prog W = .ok (.enter x.2.1 args) W) ∧
  ∀ W, Below w.heap.size w W → w.heap.size + 1 < W.heap.size → Calls Tryz.prog x.2.1 #[x.2.2] W fun e W' => (∃ (k m : Int) (s : ByteArray) (p : Option Addr) (l c : Nat), e = .returned (.agg #[.int .i64 k, .int .i64 m, .string s, .slice p l c]) ∧ R x (.agg #[.int .i64 k, .int .i64 m, .string s, .slice p l c]) W') ∧ Below W.heap.size W W'

set_option maxRecDepth 100000 in
set_option maxHeartbeats 4000000 in
/-- What is made by the shape that fits: of the first of them; zero if none does. -/
theorem fit_anyI (A Q : Nat) (qs : List Shp) (hlen : qs.length ≤ 1000) (w : World) (hQ : w.cell? ⟨Q, 0, none⟩ = some (.slice (some ⟨A, 0, none⟩) qs.length qs.length)) (hP : ShRd A qs w) (hA : A < w.heap.size)
    (R : Shp → Value → World → Prop) (hR : ∀ x v X Y, (∀ a u, a.block < w.heap.size ∨ w.heap.size + 1 < a.block → X.cell? a = some u → Y.cell? a = some u) → R x v X → R x v Y) (hmade : ∀ x ∈ qs, MkI w R x) :
    Calls Tryz.prog 45 #[.func (.func 104) #[] #[.pointer (some ⟨Q, 0, none⟩)]] w fun e w' =>
      ((noFit qs ∧ e = .returned (.agg #[.int .i64 0, .int .i64 0, .string ⟨#[]⟩, .slice none 0 0])) ∨ (∃ pre x post, qs = pre ++ x :: post ∧ noFit pre ∧ x.1 = true ∧ ∃ (k m : Int) (s : ByteArray) (p : Option Addr) (l c : Nat), e = .returned (.agg #[.int .i64 k, .int .i64 m, .string s, .slice p l c]) ∧ R x (.agg #[.int .i64 k, .int .i64 m, .string s, .slice p l c]) w')) ∧ Below w.heap.size w w' := by
  obtain ⟨ps, rfl⟩ : ∃ ps : List {x : Shp // MkI w R x}, qs = ps.map (·.1) := ⟨qs.attach.map fun x => ⟨x.1, hmade x.1 x.2⟩, by rw [List.map_map]; exact (List.attach_map_subtype_val qs).symm⟩
  clear hmade
  rw [List.length_map] at hlen hQ
  have HR := Lib.hid hR
  have HP := Lib.hid hP
  clear hR hP
  refine (callsIn_wide (n := 9)).1 ?_
  refine callsIn_of_wp_marks Tryz.func45 rfl trivial ?_ rfl
  simp only [Tryz.ntmps45, List.size_toArray, List.length_cons, List.length_nil, Nat.reduceAdd, Nat.reduceSub, Array.replicate_succ, Array.replicate_zero, List.push_toArray, List.append_toArray, List.nil_append, List.cons_append]
  refine wpIn_wide.2 ?_
  go_wp2_with fail
  refine wp_scope_straight ?_
  go_wp2_with fail
  refine wp_label ?_
  have hb2 : Below w.heap.size w ((w.alloc (.cells #[.int .i64 0, .int .i64 0, .string ⟨#[]⟩, .slice none 0 0] 26)).alloc (.cells #[.int .i64 0, .int .i64 0, .string ⟨#[]⟩, .slice none 0 0] 26)) := ((Below.refl _ w).alloc (Nat.le_refl _) _).alloc (by simp) _
  have hr0 : Blk ((w.alloc (.cells #[.int .i64 0, .int .i64 0, .string ⟨#[]⟩, .slice none 0 0] 26)).alloc (.cells #[.int .i64 0, .int .i64 0, .string ⟨#[]⟩, .slice none 0 0] 26)) w.heap.size 26 #[.int .i64 0, .int .i64 0, .string ⟨#[]⟩, .slice none 0 0] := (Blk.new w _ _).alloc _
  have hm0 : Blk ((w.alloc (.cells #[.int .i64 0, .int .i64 0, .string ⟨#[]⟩, .slice none 0 0] 26)).alloc (.cells #[.int .i64 0, .int .i64 0, .string ⟨#[]⟩, .slice none 0 0] 26)) (w.heap.size + 1) 26 #[.int .i64 0, .int .i64 0, .string ⟨#[]⟩, .slice none 0 0] := by
    have h := Blk.new (w.alloc (.cells #[.int .i64 0, .int .i64 0, .string ⟨#[]⟩, .slice none 0 0] 26)) 26 #[.int .i64 0, .int .i64 0, .string ⟨#[]⟩, .slice none 0 0]
    rw [World.size_alloc] at h
    exact h
  have hQ2 := (hb2.cell (World.block_lt_of_cell? _ _ hQ)).trans hQ
  have hP2 := HP.out.keep (KeepA.below hb2)
  go_wp2_with fail
  generalize (w.alloc (.cells #[.int .i64 0, .int .i64 0, .string ⟨#[]⟩, .slice none 0 0] 26)).alloc (.cells #[.int .i64 0, .int .i64 0, .string ⟨#[]⟩, .slice none 0 0] 26) = w2 at *
  have hw2 : w.heap.size + 1 < w2.heap.size := hm0.lt
  have hQl := World.block_lt_of_cell? _ _ hQ
  have hseq := eachS_stopsI (fun x : {x : Shp // MkI w R x} => x.1) (9 - 1) A Q ps.length ps rfl hlen w2 hQ2 hP2
  refine (wpIn_wide (n := 9)).1 ?_
  refine wpIn_rangeFunc_ownH (α := {x : Shp // MkI w R x}) rfl (by omega) (gf := 104) (lb := #[.pointer (some ⟨Q, 0, none⟩)]) rfl trivial (enters_of Tryz.func104 (by kernel_rfl) rfl)
    hseq KeepA.trans keepA_b (Below.refl _ _) (fun _ => by rfl)
    (fun (pre : List {x : Shp // MkI w R x}) W => (Blk W w.heap.size 26 #[.int .i64 0, .int .i64 0, .string ⟨#[]⟩, .slice none 0 0] ∧ Blk W (w.heap.size + 1) 26 #[.int .i64 0, .int .i64 0, .string ⟨#[]⟩, .slice none 0 0] ∧ noFit (pre.map (·.1))) ∧ Below w.heap.size w W)
    (fun cc (pre : List {x : Shp // MkI w R x}) W => (cc = .exit 0 ∧ ∃ (k m : Int) (s : ByteArray) (p : Option Addr) (l c : Nat), Blk W w.heap.size 26 #[.int .i64 0, .int .i64 0, .string ⟨#[]⟩, .slice none 0 0] ∧ Blk W (w.heap.size + 1) 26 #[.int .i64 k, .int .i64 m, .string s, .slice p l c] ∧ ∃ (pre0 : List {x : Shp // MkI w R x}) (x : {x : Shp // MkI w R x}), pre = pre0 ++ [x] ∧ noFit (pre0.map (·.1)) ∧ x.1.1 = true ∧ R x.1 (.agg #[.int .i64 k, .int .i64 m, .string s, .slice p l c]) W) ∧ Below w.heap.size w W)
    (OwnFrom.and (Own.from (fun s A B row hs hg hr => ⟨blk_kept hs.1 hg hr, blk_kept hs.2.1 hg hr, hs.2.2⟩) _) (ownFrom_below (Nat.le_refl _) (by omega)))
    (fun cc => OwnFrom.and (Own.from (fun s A B row hs hg hr => by
      obtain ⟨h1, k, m, s, p, l, c, h2, h3, pre0, x, h4, h5, h6, h7⟩ := hs
      exact ⟨h1, k, m, s, p, l, c, blk_kept h2 hg hr, blk_kept h3 hg hr, pre0, x, h4, h5, h6, HR.out _ _ _ _ (fun a u _ e => cell_kept e hg hr) h7⟩) _) (ownFrom_below (Nat.le_refl _) (by omega)))
    ⟨⟨hr0, hm0, fun x hx => by simp at hx⟩, hb2⟩
    (fun (x : {x : Shp // MkI w R x}) act W => ∃ C : Nat, act = { tmps := #[.func (.func 104) #[] #[.pointer (some ⟨Q, 0, none⟩)], undef, .pointer (some ⟨w.heap.size, 0, none⟩), .pointer (some ⟨w.heap.size + 1, 0, none⟩), .pointer (some ⟨C, 0, none⟩), .func (.func 104) #[] #[.pointer (some ⟨Q, 0, none⟩)], .agg #[.bool x.1.1, shF x.1], undef, undef, undef, undef, undef, undef], defers := [] } ∧ W.cell? ⟨C, 0, none⟩ = some (.bool x.1.1) ∧ W.cell? ⟨C, 1, none⟩ = some (shF x.1))
    (fun x a' => Own.from (fun s A B row hs hg hr => hs.elim fun c hc => ⟨c, hc.1, cell_kept hc.2.1 hg hr, cell_kept hc.2.2 hg hr⟩) _) ?assign ?body ?done ?stop
  case assign =>
    rintro la pre ⟨⟨x1, x2, x3⟩, hmk⟩ W K ⟨⟨h1, h2, h3⟩, hB⟩ hK
    have H3 := Lib.hid h3
    have H1 := Lib.hid (h1.alloc (.cells #[.bool x1, .func (.func x2) #[x3] #[]] 120))
    have H2 := Lib.hid (h2.alloc (.cells #[.bool x1, .func (.func x2) #[x3] #[]] 120))
    simp only [shF] at hK ⊢
    clear h1 h2 h3 hr0 hm0 hQ2 hP2 hQ
    gi_wp2
    exact hK _ _ ((KeepsOthers.alloc _ _).from _) (KeepA.alloc _ _) ⟨⟨H1.out, H2.out, H3.out⟩, hB.alloc hB.size _⟩ ⟨W.heap.size, rfl, by go_simp, by go_simp⟩
  case body =>
    rintro la pre ⟨⟨x1, x2, x3⟩, hmk⟩ a' W _ _ ⟨⟨h1, h2, h3⟩, hB⟩ ⟨C, rfl, c0, c1⟩ hpre
    simp only [shF] at c0 c1 ⊢
    have H1 := Lib.hid h1
    have H2 := Lib.hid h2
    have H3 := Lib.hid h3
    clear h1 h2 h3 hr0 hm0 hQ2 hP2 hQ
    cases x1 with
    | false =>
      gi_wp2
      refine ⟨KeepsFrom.refl _ _, KeepA.refl _ _, ⟨H1.out, H2.out, ?_⟩, hB⟩
      intro y hy
      rw [List.map_append] at hy
      rcases List.mem_append.1 hy with hy | hy
      · exact H3.out y hy
      · simp at hy
        rw [hy]
    | true =>
      obtain ⟨hcf, hcall⟩ := hmk rfl
      have hWl := H2.out.lt
      have hc := Lib.hid (hcall W hB hWl)
      clear hcall
      gi_wp2
      refine ⟨trivial, (CallsIn.inRound la (callsIn_wide.2 hc.out)).mono ?_⟩
      rintro e W1 ⟨⟨k, m, s, p, l, c, rfl, hRv⟩, hb⟩
      have h1 := H1.out.here hb
      have h2 := H2.out.here hb
      have HH1 := Lib.hid h1
      have HH2 := Lib.hid h2
      have HRV := Lib.hid hRv
      have HBB := Lib.hid hb
      have f0 := h2.frozen 0
      have f1 := h2.frozen 1
      have f2 := h2.frozen 2
      have f3 := h2.frozen 3
      obtain ⟨k0, k1, k2, k3⟩ := h2.four
      clear hc h1 h2 hRv hb H1 H2 c0 c1
      gi_wp2
      have hb9 := hB.trans (HBB.out.mono hB.size)
      refine ⟨((keepsJ HBB.out).trans (KeepsOthers.set4 _ _ _ _ _ _)).from _, ⟨rfl, _, _, _, _, _, _, Blk.sets4 (by omega) HH1.out _ _ _ _, HH2.out.set4 _ _ _ _, pre, ⟨(true, x2, x3), hmk⟩, rfl, H3.out, rfl, HR.out _ _ _ _ (fun a u ha e => cell_sets4 (by omega) _ _ _ _ e) HRV.out⟩, below_sets4 hb9 (by omega) _ _ _ _⟩
  case done =>
    rintro D ys W hD rfl ⟨⟨h1, h2, h3⟩, hB⟩ hK
    have H1 := Lib.hid h1
    have H2 := Lib.hid h2
    obtain ⟨k0, k1, k2, k3⟩ := h2.four
    have g0 := h1.frozen 0
    have g1 := h1.frozen 1
    have g2 := h1.frozen 2
    have g3 := h1.frozen 3
    obtain ⟨r0, r1, r2, r3⟩ := h1.four
    have H3 := Lib.hid h3
    clear h1 h2 h3 hr0 hm0 hQ2 hP2 hQ hseq
    go_wp2
    have hBs : Blk (((((W).setCell ⟨w.heap.size, 0, none⟩ (.int .i64 0)).setCell ⟨w.heap.size, 1, none⟩ (.int .i64 0)).setCell ⟨w.heap.size, 2, none⟩ (.string ⟨#[]⟩)).setCell ⟨w.heap.size, 3, none⟩ (.slice none 0 0)) w.heap.size 26 #[.int .i64 0, .int .i64 0, .string ⟨#[]⟩, .slice none 0 0] := H1.out.set4 _ _ _ _
    have hK2 := (KeepsOthers.set4 W w.heap.size (.int .i64 0) (.int .i64 0) (.string ⟨#[]⟩) (.slice none 0 0)).same D _ hK rfl
    have hbs := below_sets4 (B := w.heap.size) hB (Nat.le_refl _) (.int .i64 0) (.int .i64 0) (.string ⟨#[]⟩) (.slice none 0 0)
    have hcs : ∀ (a : Addr) (u : Value), (a.block < w.heap.size ∨ w.heap.size + 1 < a.block) → W.cell? a = some u → (((((W).setCell ⟨w.heap.size, 0, none⟩ (.int .i64 0)).setCell ⟨w.heap.size, 1, none⟩ (.int .i64 0)).setCell ⟨w.heap.size, 2, none⟩ (.string ⟨#[]⟩)).setCell ⟨w.heap.size, 3, none⟩ (.slice none 0 0)).cell? a = some u := fun a u ha e => cell_sets4 (by omega) _ _ _ _ e
    generalize hW3 : ((((W).setCell ⟨w.heap.size, 0, none⟩ (.int .i64 0)).setCell ⟨w.heap.size, 1, none⟩ (.int .i64 0)).setCell ⟨w.heap.size, 2, none⟩ (.string ⟨#[]⟩)).setCell ⟨w.heap.size, 3, none⟩ (.slice none 0 0) = W3 at hBs hK2 hbs hcs ⊢
    clear hW3
    refine ⟨by simp, .inl ⟨_, _, rfl, run_takeDeferred hK2, ?_⟩⟩
    have hgr := grownBy_putObj' W3 D (.deferred none)
    have hBp := blk_kept hBs hgr (fun r e => by cases e; exact ⟨_, hK2, rfl⟩)
    refine ⟨_, res_item hBp rfl rfl, ?_, hbs.trans (belowK_b (w := w) (Nat.le_refl _) _ D _ _ (by omega) hK2 rfl rfl)⟩
    exact .inl ⟨H3.out, rfl⟩
  case stop =>
    rintro D cc pre W hD ⟨t, hpre⟩ ⟨⟨rfl, k, m, s, p, l, c, h2, h3, pre0, x, rfl, h5, h6, h7⟩, hB⟩ hK
    have HRV := Lib.hid h7
    have HF := Lib.hid h5
    have h1 := h2
    have h2 := h3
    have h3 := h6
    have H1 := Lib.hid h1
    have H2 := Lib.hid h2
    obtain ⟨k0, k1, k2, k3⟩ := h2.four
    have g0 := h1.frozen 0
    have g1 := h1.frozen 1
    have g2 := h1.frozen 2
    have g3 := h1.frozen 3
    obtain ⟨r0, r1, r2, r3⟩ := h1.four
    have H3 := Lib.hid h3
    clear h1 h2 h3 hr0 hm0 hQ2 hP2 hQ hseq
    gi_wp2
    try go_wp2
    have hBs : Blk (((((W).setCell ⟨w.heap.size, 0, none⟩ (.int .i64 k)).setCell ⟨w.heap.size, 1, none⟩ (.int .i64 m)).setCell ⟨w.heap.size, 2, none⟩ (.string s)).setCell ⟨w.heap.size, 3, none⟩ (.slice p l c)) w.heap.size 26 #[.int .i64 k, .int .i64 m, .string s, .slice p l c] := H1.out.set4 _ _ _ _
    have hK2 := (KeepsOthers.set4 W w.heap.size (.int .i64 k) (.int .i64 m) (.string s) (.slice p l c)).same D _ hK rfl
    have hbs := below_sets4 (B := w.heap.size) hB (Nat.le_refl _) (.int .i64 k) (.int .i64 m) (.string s) (.slice p l c)
    have hcs : ∀ (a : Addr) (u : Value), (a.block < w.heap.size ∨ w.heap.size + 1 < a.block) → W.cell? a = some u → (((((W).setCell ⟨w.heap.size, 0, none⟩ (.int .i64 k)).setCell ⟨w.heap.size, 1, none⟩ (.int .i64 m)).setCell ⟨w.heap.size, 2, none⟩ (.string s)).setCell ⟨w.heap.size, 3, none⟩ (.slice p l c)).cell? a = some u := fun a u ha e => cell_sets4 (by omega) _ _ _ _ e
    generalize hW3 : ((((W).setCell ⟨w.heap.size, 0, none⟩ (.int .i64 k)).setCell ⟨w.heap.size, 1, none⟩ (.int .i64 m)).setCell ⟨w.heap.size, 2, none⟩ (.string s)).setCell ⟨w.heap.size, 3, none⟩ (.slice p l c) = W3 at hBs hK2 hbs hcs ⊢
    clear hW3
    refine ⟨by simp, .inl ⟨_, _, rfl, run_takeDeferred hK2, ?_⟩⟩
    have hgr := grownBy_putObj' W3 D (.deferred none)
    have hBp := blk_kept hBs hgr (fun r e => by cases e; exact ⟨_, hK2, rfl⟩)
    refine ⟨_, res_item hBp rfl rfl, ?_, hbs.trans (belowK_b (w := w) (Nat.le_refl _) _ D _ _ (by omega) hK2 rfl rfl)⟩
    refine .inr ⟨pre0.map (·.1), x.1, t.map (·.1), ?_, HF.out, H3.out, _, _, _, _, _, _, rfl, HR.out _ _ _ _ (fun a u ha e => cell_kept (hcs a u ha e) hgr (fun r e => by cases e; exact ⟨_, hK2, rfl⟩)) HRV.out⟩
    rw [← hpre]
    simp

set_option maxRecDepth 100000 in
set_option maxHeartbeats 2000000 in
theorem eachS1N {α : Type} (f : α → Shp) (l n : Nat) (J Jx : List α → World → Prop) (A Q m : Nat) (ps : List α) (hm : ps.length = m) (hmx : m ≤ 1000)
    (hJ : ∀ pre W o, J pre W → J pre (W.alloc o))
    (hY : ∀ pre (x : α) W, J pre W → pre.length < m → YieldAt Fence.wide (n - 1) Tryz.prog l #[.agg #[.bool (f x).1, shF (f x)]] W fun e W' =>
      (e = .returned (.bool true) ∧ J (pre ++ [x]) W' ∧ KeepA A W W') ∨ (e = .returned (.bool false) ∧ Jx (pre ++ [x]) W'))
    (W : World) (hQ : W.cell? ⟨Q, 0, none⟩ = some (.slice (some ⟨A, 0, none⟩) m m)) (hP : ShRd A (ps.map f) W) (h0 : J [] W) :
    CallsIn Fence.wide n Tryz.prog 108 #[.func (.yield l) #[] #[], .pointer (some ⟨Q, 0, none⟩)] W fun e W' => (∃ v, e = .returned v) ∧
      ((∃ ys, ys = ps ∧ J ys W') ∨ (∃ pre, pre <+: ps ∧ Jx pre W')) := by
  have HP := Lib.hid hP
  have HL := Lib.hid hm
  clear hP hm
  refine callsIn_of_wp Tryz.func108 rfl trivial ?_ rfl
  simp only [Tryz.ntmps108, List.size_toArray, List.length_cons, List.length_nil, Nat.reduceAdd, Nat.reduceSub, Array.replicate_succ, Array.replicate_zero, List.push_toArray, List.append_toArray, List.nil_append, List.cons_append]
  gi_wp2
  clear hQ
  gi_loopw [7] (fun i wr => ∃ k : Nat, k ≤ m ∧ i = .int .i64 (k : Int) ∧ J (ps.take k) wr ∧ KeepA A W wr) (fun i _ => m - (intOf i).toNat)
  case atStart => exact ⟨0, Nat.zero_le _, rfl, h0, KeepA.refl _ _⟩
  case round =>
    obtain ⟨k, hk, rfl, hJs, hkw⟩ := hrel
    have HKW := Lib.hid hkw
    clear hkw
    by_cases hlt : k < m
    · obtain ⟨x, hx⟩ : ∃ x, ps[k]? = some x := ⟨_, List.getElem?_eq_getElem (by have := HL.out; omega)⟩
      have hP1 := HP.out.keep HKW.out
      have k0 := hP1.c0 k (f x) (by rw [List.getElem?_map, hx]; rfl)
      have k1 := hP1.c1 k (f x) (by rw [List.getElem?_map, hx]; rfl)
      have HX := Lib.hid (show ps.take (k + 1) = ps.take k ++ [x] by rw [List.take_add_one, hx]; rfl)
      have HLT := Lib.hid (show (ps.take k).length < m by rw [List.length_take, HL.out]; omega)
      clear hP1 hx
      obtain ⟨fn, tmps, assign, body, hy, hR⟩ := hY (ps.take k) x (wr.alloc (.cells #[.bool (f x).1, shF (f x)] 125)) (hJ _ _ _ hJs) HLT.out
      have HR := Lib.hid hR
      have HJ := Lib.hid hJ
      have HY := Lib.hid hY
      clear hR hJ hY hJs h0
      obtain ⟨⟨xb, xg, xr⟩, hfx⟩ : ∃ y, f x = y := ⟨_, rfl⟩
      rw [hfx] at k0 k1 hy HR
      simp only [shF] at k0 k1 hy HR
      have HFX := Lib.hid hfx
      clear hfx
      gi_wp2
      refine ⟨fun h => (by cases h), ?_⟩
      refine HR.out.mono ?_
      clear HR k0 k1
      rintro e W3 (⟨rfl, hJ3, hk3⟩ | ⟨rfl, hJx3⟩)
      · have HK3 := Lib.hid (HKW.out.trans ((KeepA.alloc _ _).trans hk3))
        have HJ3 := Lib.hid hJ3
        clear hk3 hJ3
        gi_wp2
        go_roundw
        case rel => exact ⟨k + 1, by omega, by go_num, by rw [HX.out]; exact HJ3.out, HK3.out⟩
        case measure => simp [intOf]; omega
      · have HJ3 := Lib.hid hJx3
        clear hJx3
        gi_wp2
        refine bodyPost_ret (results_none rfl _ _ _) rfl ?_
        refine ⟨⟨_, rfl⟩, .inr ⟨_, ?_, HJ3.out⟩⟩
        rw [← HX.out]
        exact List.take_prefix _ _
    · obtain rfl : k = m := by omega
      have HJS := Lib.hid hJs
      clear hJs h0
      gi_wp2
      go_end0
      exact ⟨⟨_, rfl⟩, .inl ⟨_, rfl, by rw [List.take_of_length_le (by rw [HL.out]; exact Nat.le_refl _)] at HJS; exact HJS.out⟩⟩

/-- The parts in a row, as an iterator that a round may stop. -/
theorem eachS_stopsN {α : Type} (f : α → Shp) (n : Nat) (A Q m : Nat) (ps : List α) (hm : ps.length = m) (hmx : m ≤ 1000) (w : World) (hQ : w.cell? ⟨Q, 0, none⟩ = some (.slice (some ⟨A, 0, none⟩) m m)) (hP : ShRd A (ps.map f) w) :
    SeqStopsK Fence.wide n Tryz.prog 108 #[.pointer (some ⟨Q, 0, none⟩)] (fun x : α => #[Value.agg #[.bool (f x).1, shF (f x)]]) (KeepA A) (fun ys => ys = ps) (fun pre => pre <+: ps) m w := fun l J Jx W hW hJ _ hY h0 => by
  refine (eachS1N f l n J Jx A Q m ps hm hmx (fun pre W' o h => hJ _ _ _ none h (World.grownBy_alloc W' o none) (fun r e => by cases e)) hY W ((hW.cell (World.block_lt_of_cell? _ _ hQ)).trans hQ) (hP.keep (KeepA.below hW)) h0).mono ?_
  rintro e W' ⟨he, ⟨ys, hk, hj⟩ | ⟨ys, hk, hj⟩⟩
  · exact ⟨he, .inl ⟨_, hk, hj⟩⟩
  · exact ⟨he, .inr ⟨_, hk, hj⟩⟩

set_option maxHeartbeats 1000000 in
theorem eachS_anyN (A m : Nat) (w : World) :
    Calls Tryz.prog 81 #[.slice (some ⟨A, 0, none⟩) m m] w fun e w' => e = .returned (.func (.func 108) #[] #[.pointer (some ⟨w.heap.size, 0, none⟩)]) ∧ w' = w.alloc (.cells #[.slice (some ⟨A, 0, none⟩) m m] 164) := by
  go_enter Tryz.func81, Tryz.ntmps81
  go_wp2
  go_ret
  exact ⟨rfl, rfl⟩


set_option maxRecDepth 100000 in
set_option maxHeartbeats 4000000 in
/-- A shape whose function, if it fits, makes what it must. -/
def MkN (w : World) (R : Shp → Value → World → Prop) (x : Shp) : Prop := x.1 = true → (∀ args W, (callFunc x.2.1 args).run Tryz.prog W = .ok (.enter x.2.1 args) W) ∧
  ∀ W, Below w.heap.size w W → w.heap.size + 1 < W.heap.size → Calls Tryz.prog x.2.1 #[x.2.2] W fun e W' => (∃ (k : Int) (s q : ByteArray) (l c : Int), e = .returned (.agg #[.int .i64 k, .string s, .string q, .int .i64 l, .int .i64 c]) ∧ R x (.agg #[.int .i64 k, .string s, .string q, .int .i64 l, .int .i64 c]) W') ∧ Below W.heap.size W W'

set_option maxRecDepth 100000 in
set_option maxHeartbeats 4000000 in
/-- What is made by the shape that fits: of the first of them; zero if none does. -/
theorem fit_anyN (A Q : Nat) (qs : List Shp) (hlen : qs.length ≤ 1000) (w : World) (hQ : w.cell? ⟨Q, 0, none⟩ = some (.slice (some ⟨A, 0, none⟩) qs.length qs.length)) (hP : ShRd A qs w) (hA : A < w.heap.size)
    (R : Shp → Value → World → Prop) (hR : ∀ x v X Y, (∀ a u, a.block < w.heap.size ∨ w.heap.size + 1 < a.block → X.cell? a = some u → Y.cell? a = some u) → R x v X → R x v Y) (hmade : ∀ x ∈ qs, MkN w R x) :
    Calls Tryz.prog 49 #[.func (.func 108) #[] #[.pointer (some ⟨Q, 0, none⟩)]] w fun e w' =>
      ((noFit qs ∧ e = .returned (.agg #[.int .i64 0, .string ⟨#[]⟩, .string ⟨#[]⟩, .int .i64 0, .int .i64 0])) ∨ (∃ pre x post, qs = pre ++ x :: post ∧ noFit pre ∧ x.1 = true ∧ ∃ (k : Int) (s q : ByteArray) (l c : Int), e = .returned (.agg #[.int .i64 k, .string s, .string q, .int .i64 l, .int .i64 c]) ∧ R x (.agg #[.int .i64 k, .string s, .string q, .int .i64 l, .int .i64 c]) w')) ∧ Below w.heap.size w w' := by
  obtain ⟨ps, rfl⟩ : ∃ ps : List {x : Shp // MkN w R x}, qs = ps.map (·.1) := ⟨qs.attach.map fun x => ⟨x.1, hmade x.1 x.2⟩, by rw [List.map_map]; exact (List.attach_map_subtype_val qs).symm⟩
  clear hmade
  rw [List.length_map] at hlen hQ
  have HR := Lib.hid hR
  have HP := Lib.hid hP
  clear hR hP
  refine (callsIn_wide (n := 9)).1 ?_
  refine callsIn_of_wp_marks Tryz.func49 rfl trivial ?_ rfl
  simp only [Tryz.ntmps49, List.size_toArray, List.length_cons, List.length_nil, Nat.reduceAdd, Nat.reduceSub, Array.replicate_succ, Array.replicate_zero, List.push_toArray, List.append_toArray, List.nil_append, List.cons_append]
  refine wpIn_wide.2 ?_
  go_wp2_with fail
  refine wp_scope_straight ?_
  go_wp2_with fail
  refine wp_label ?_
  have hb2 : Below w.heap.size w ((w.alloc (.cells #[.int .i64 0, .string ⟨#[]⟩, .string ⟨#[]⟩, .int .i64 0, .int .i64 0] 23)).alloc (.cells #[.int .i64 0, .string ⟨#[]⟩, .string ⟨#[]⟩, .int .i64 0, .int .i64 0] 23)) := ((Below.refl _ w).alloc (Nat.le_refl _) _).alloc (by simp) _
  have hr0 : Blk ((w.alloc (.cells #[.int .i64 0, .string ⟨#[]⟩, .string ⟨#[]⟩, .int .i64 0, .int .i64 0] 23)).alloc (.cells #[.int .i64 0, .string ⟨#[]⟩, .string ⟨#[]⟩, .int .i64 0, .int .i64 0] 23)) w.heap.size 23 #[.int .i64 0, .string ⟨#[]⟩, .string ⟨#[]⟩, .int .i64 0, .int .i64 0] := (Blk.new w _ _).alloc _
  have hm0 : Blk ((w.alloc (.cells #[.int .i64 0, .string ⟨#[]⟩, .string ⟨#[]⟩, .int .i64 0, .int .i64 0] 23)).alloc (.cells #[.int .i64 0, .string ⟨#[]⟩, .string ⟨#[]⟩, .int .i64 0, .int .i64 0] 23)) (w.heap.size + 1) 23 #[.int .i64 0, .string ⟨#[]⟩, .string ⟨#[]⟩, .int .i64 0, .int .i64 0] := by
    have h := Blk.new (w.alloc (.cells #[.int .i64 0, .string ⟨#[]⟩, .string ⟨#[]⟩, .int .i64 0, .int .i64 0] 23)) 23 #[.int .i64 0, .string ⟨#[]⟩, .string ⟨#[]⟩, .int .i64 0, .int .i64 0]
    rw [World.size_alloc] at h
    exact h
  have hQ2 := (hb2.cell (World.block_lt_of_cell? _ _ hQ)).trans hQ
  have hP2 := HP.out.keep (KeepA.below hb2)
  go_wp2_with fail
  generalize (w.alloc (.cells #[.int .i64 0, .string ⟨#[]⟩, .string ⟨#[]⟩, .int .i64 0, .int .i64 0] 23)).alloc (.cells #[.int .i64 0, .string ⟨#[]⟩, .string ⟨#[]⟩, .int .i64 0, .int .i64 0] 23) = w2 at *
  have hw2 : w.heap.size + 1 < w2.heap.size := hm0.lt
  have hQl := World.block_lt_of_cell? _ _ hQ
  have hseq := eachS_stopsN (fun x : {x : Shp // MkN w R x} => x.1) (9 - 1) A Q ps.length ps rfl hlen w2 hQ2 hP2
  refine (wpIn_wide (n := 9)).1 ?_
  refine wpIn_rangeFunc_ownH (α := {x : Shp // MkN w R x}) rfl (by omega) (gf := 108) (lb := #[.pointer (some ⟨Q, 0, none⟩)]) rfl trivial (enters_of Tryz.func108 (by kernel_rfl) rfl)
    hseq KeepA.trans keepA_b (Below.refl _ _) (fun _ => by rfl)
    (fun (pre : List {x : Shp // MkN w R x}) W => (Blk W w.heap.size 23 #[.int .i64 0, .string ⟨#[]⟩, .string ⟨#[]⟩, .int .i64 0, .int .i64 0] ∧ Blk W (w.heap.size + 1) 23 #[.int .i64 0, .string ⟨#[]⟩, .string ⟨#[]⟩, .int .i64 0, .int .i64 0] ∧ noFit (pre.map (·.1))) ∧ Below w.heap.size w W)
    (fun cc (pre : List {x : Shp // MkN w R x}) W => (cc = .exit 0 ∧ ∃ (k : Int) (s q : ByteArray) (l c : Int), Blk W w.heap.size 23 #[.int .i64 0, .string ⟨#[]⟩, .string ⟨#[]⟩, .int .i64 0, .int .i64 0] ∧ Blk W (w.heap.size + 1) 23 #[.int .i64 k, .string s, .string q, .int .i64 l, .int .i64 c] ∧ ∃ (pre0 : List {x : Shp // MkN w R x}) (x : {x : Shp // MkN w R x}), pre = pre0 ++ [x] ∧ noFit (pre0.map (·.1)) ∧ x.1.1 = true ∧ R x.1 (.agg #[.int .i64 k, .string s, .string q, .int .i64 l, .int .i64 c]) W) ∧ Below w.heap.size w W)
    (OwnFrom.and (Own.from (fun s A B row hs hg hr => ⟨blk_kept hs.1 hg hr, blk_kept hs.2.1 hg hr, hs.2.2⟩) _) (ownFrom_below (Nat.le_refl _) (by omega)))
    (fun cc => OwnFrom.and (Own.from (fun s A B row hs hg hr => by
      obtain ⟨h1, k, s, q, l, c, h2, h3, pre0, x, h4, h5, h6, h7⟩ := hs
      exact ⟨h1, k, s, q, l, c, blk_kept h2 hg hr, blk_kept h3 hg hr, pre0, x, h4, h5, h6, HR.out _ _ _ _ (fun a u _ e => cell_kept e hg hr) h7⟩) _) (ownFrom_below (Nat.le_refl _) (by omega)))
    ⟨⟨hr0, hm0, fun x hx => by simp at hx⟩, hb2⟩
    (fun (x : {x : Shp // MkN w R x}) act W => ∃ C : Nat, act = { tmps := #[.func (.func 108) #[] #[.pointer (some ⟨Q, 0, none⟩)], undef, .pointer (some ⟨w.heap.size, 0, none⟩), .pointer (some ⟨w.heap.size + 1, 0, none⟩), .pointer (some ⟨C, 0, none⟩), .func (.func 108) #[] #[.pointer (some ⟨Q, 0, none⟩)], .agg #[.bool x.1.1, shF x.1], undef, undef, undef, undef, undef, undef], defers := [] } ∧ W.cell? ⟨C, 0, none⟩ = some (.bool x.1.1) ∧ W.cell? ⟨C, 1, none⟩ = some (shF x.1))
    (fun x a' => Own.from (fun s A B row hs hg hr => hs.elim fun c hc => ⟨c, hc.1, cell_kept hc.2.1 hg hr, cell_kept hc.2.2 hg hr⟩) _) ?assign ?body ?done ?stop
  case assign =>
    rintro la pre ⟨⟨x1, x2, x3⟩, hmk⟩ W K ⟨⟨h1, h2, h3⟩, hB⟩ hK
    have H3 := Lib.hid h3
    have H1 := Lib.hid (h1.alloc (.cells #[.bool x1, .func (.func x2) #[x3] #[]] 125))
    have H2 := Lib.hid (h2.alloc (.cells #[.bool x1, .func (.func x2) #[x3] #[]] 125))
    simp only [shF] at hK ⊢
    clear h1 h2 h3 hr0 hm0 hQ2 hP2 hQ
    gi_wp2
    exact hK _ _ ((KeepsOthers.alloc _ _).from _) (KeepA.alloc _ _) ⟨⟨H1.out, H2.out, H3.out⟩, hB.alloc hB.size _⟩ ⟨W.heap.size, rfl, by go_simp, by go_simp⟩
  case body =>
    rintro la pre ⟨⟨x1, x2, x3⟩, hmk⟩ a' W _ _ ⟨⟨h1, h2, h3⟩, hB⟩ ⟨C, rfl, c0, c1⟩ hpre
    simp only [shF] at c0 c1 ⊢
    have H1 := Lib.hid h1
    have H2 := Lib.hid h2
    have H3 := Lib.hid h3
    clear h1 h2 h3 hr0 hm0 hQ2 hP2 hQ
    cases x1 with
    | false =>
      gi_wp2
      refine ⟨KeepsFrom.refl _ _, KeepA.refl _ _, ⟨H1.out, H2.out, ?_⟩, hB⟩
      intro y hy
      rw [List.map_append] at hy
      rcases List.mem_append.1 hy with hy | hy
      · exact H3.out y hy
      · simp at hy
        rw [hy]
    | true =>
      obtain ⟨hcf, hcall⟩ := hmk rfl
      have hWl := H2.out.lt
      have hc := Lib.hid (hcall W hB hWl)
      clear hcall
      gi_wp2
      refine ⟨trivial, (CallsIn.inRound la (callsIn_wide.2 hc.out)).mono ?_⟩
      rintro e W1 ⟨⟨k, s, q, l, c, rfl, hRv⟩, hb⟩
      have h1 := H1.out.here hb
      have h2 := H2.out.here hb
      have HH1 := Lib.hid h1
      have HH2 := Lib.hid h2
      have HRV := Lib.hid hRv
      have HBB := Lib.hid hb
      have f0 := h2.frozen 0
      have f1 := h2.frozen 1
      have f2 := h2.frozen 2
      have f3 := h2.frozen 3
      have f4 := h2.frozen 4
      obtain ⟨k0, k1, k2, k3, k4⟩ := h2.five
      clear hc h1 h2 hRv hb H1 H2 c0 c1
      gi_wp2
      have hb9 := hB.trans (HBB.out.mono hB.size)
      refine ⟨((keepsJ HBB.out).trans (KeepsOthers.set5 _ _ _ _ _ _ _)).from _, ⟨rfl, _, _, _, _, _, Blk.sets5 (by omega) HH1.out _ _ _ _ _, HH2.out.set5 _ _ _ _ _, pre, ⟨(true, x2, x3), hmk⟩, rfl, H3.out, rfl, HR.out _ _ _ _ (fun a u ha e => cell_sets5 (by omega) _ _ _ _ _ e) HRV.out⟩, below_sets5 hb9 (by omega) _ _ _ _ _⟩
  case done =>
    rintro D ys W hD rfl ⟨⟨h1, h2, h3⟩, hB⟩ hK
    have H1 := Lib.hid h1
    have H2 := Lib.hid h2
    obtain ⟨k0, k1, k2, k3, k4⟩ := h2.five
    have g0 := h1.frozen 0
    have g1 := h1.frozen 1
    have g2 := h1.frozen 2
    have g3 := h1.frozen 3
    have g4 := h1.frozen 4
    obtain ⟨r0, r1, r2, r3, r4⟩ := h1.five
    have H3 := Lib.hid h3
    clear h1 h2 h3 hr0 hm0 hQ2 hP2 hQ hseq
    go_wp2
    have hBs : Blk ((((((W).setCell ⟨w.heap.size, 0, none⟩ (.int .i64 0)).setCell ⟨w.heap.size, 1, none⟩ (.string ⟨#[]⟩)).setCell ⟨w.heap.size, 2, none⟩ (.string ⟨#[]⟩)).setCell ⟨w.heap.size, 3, none⟩ (.int .i64 0)).setCell ⟨w.heap.size, 4, none⟩ (.int .i64 0)) w.heap.size 23 #[.int .i64 0, .string ⟨#[]⟩, .string ⟨#[]⟩, .int .i64 0, .int .i64 0] := H1.out.set5 _ _ _ _ _
    have hK2 := (KeepsOthers.set5 W w.heap.size (.int .i64 0) (.string ⟨#[]⟩) (.string ⟨#[]⟩) (.int .i64 0) (.int .i64 0)).same D _ hK rfl
    have hbs := below_sets5 (B := w.heap.size) hB (Nat.le_refl _) (.int .i64 0) (.string ⟨#[]⟩) (.string ⟨#[]⟩) (.int .i64 0) (.int .i64 0)
    have hcs : ∀ (a : Addr) (u : Value), (a.block < w.heap.size ∨ w.heap.size + 1 < a.block) → W.cell? a = some u → ((((((W).setCell ⟨w.heap.size, 0, none⟩ (.int .i64 0)).setCell ⟨w.heap.size, 1, none⟩ (.string ⟨#[]⟩)).setCell ⟨w.heap.size, 2, none⟩ (.string ⟨#[]⟩)).setCell ⟨w.heap.size, 3, none⟩ (.int .i64 0)).setCell ⟨w.heap.size, 4, none⟩ (.int .i64 0)).cell? a = some u := fun a u ha e => cell_sets5 (by omega) _ _ _ _ _ e
    generalize hW3 : (((((W).setCell ⟨w.heap.size, 0, none⟩ (.int .i64 0)).setCell ⟨w.heap.size, 1, none⟩ (.string ⟨#[]⟩)).setCell ⟨w.heap.size, 2, none⟩ (.string ⟨#[]⟩)).setCell ⟨w.heap.size, 3, none⟩ (.int .i64 0)).setCell ⟨w.heap.size, 4, none⟩ (.int .i64 0) = W3 at hBs hK2 hbs hcs ⊢
    clear hW3
    refine ⟨by simp, .inl ⟨_, _, rfl, run_takeDeferred hK2, ?_⟩⟩
    have hgr := grownBy_putObj' W3 D (.deferred none)
    have hBp := blk_kept hBs hgr (fun r e => by cases e; exact ⟨_, hK2, rfl⟩)
    refine ⟨_, res_name hBp rfl rfl, ?_, hbs.trans (belowK_b (w := w) (Nat.le_refl _) _ D _ _ (by omega) hK2 rfl rfl)⟩
    exact .inl ⟨H3.out, rfl⟩
  case stop =>
    rintro D cc pre W hD ⟨t, hpre⟩ ⟨⟨rfl, k, s, q, l, c, h2, h3, pre0, x, rfl, h5, h6, h7⟩, hB⟩ hK
    have HRV := Lib.hid h7
    have HF := Lib.hid h5
    have h1 := h2
    have h2 := h3
    have h3 := h6
    have H1 := Lib.hid h1
    have H2 := Lib.hid h2
    obtain ⟨k0, k1, k2, k3, k4⟩ := h2.five
    have g0 := h1.frozen 0
    have g1 := h1.frozen 1
    have g2 := h1.frozen 2
    have g3 := h1.frozen 3
    have g4 := h1.frozen 4
    obtain ⟨r0, r1, r2, r3, r4⟩ := h1.five
    have H3 := Lib.hid h3
    clear h1 h2 h3 hr0 hm0 hQ2 hP2 hQ hseq
    gi_wp2
    try go_wp2
    have hBs : Blk ((((((W).setCell ⟨w.heap.size, 0, none⟩ (.int .i64 k)).setCell ⟨w.heap.size, 1, none⟩ (.string s)).setCell ⟨w.heap.size, 2, none⟩ (.string q)).setCell ⟨w.heap.size, 3, none⟩ (.int .i64 l)).setCell ⟨w.heap.size, 4, none⟩ (.int .i64 c)) w.heap.size 23 #[.int .i64 k, .string s, .string q, .int .i64 l, .int .i64 c] := H1.out.set5 _ _ _ _ _
    have hK2 := (KeepsOthers.set5 W w.heap.size (.int .i64 k) (.string s) (.string q) (.int .i64 l) (.int .i64 c)).same D _ hK rfl
    have hbs := below_sets5 (B := w.heap.size) hB (Nat.le_refl _) (.int .i64 k) (.string s) (.string q) (.int .i64 l) (.int .i64 c)
    have hcs : ∀ (a : Addr) (u : Value), (a.block < w.heap.size ∨ w.heap.size + 1 < a.block) → W.cell? a = some u → ((((((W).setCell ⟨w.heap.size, 0, none⟩ (.int .i64 k)).setCell ⟨w.heap.size, 1, none⟩ (.string s)).setCell ⟨w.heap.size, 2, none⟩ (.string q)).setCell ⟨w.heap.size, 3, none⟩ (.int .i64 l)).setCell ⟨w.heap.size, 4, none⟩ (.int .i64 c)).cell? a = some u := fun a u ha e => cell_sets5 (by omega) _ _ _ _ _ e
    generalize hW3 : (((((W).setCell ⟨w.heap.size, 0, none⟩ (.int .i64 k)).setCell ⟨w.heap.size, 1, none⟩ (.string s)).setCell ⟨w.heap.size, 2, none⟩ (.string q)).setCell ⟨w.heap.size, 3, none⟩ (.int .i64 l)).setCell ⟨w.heap.size, 4, none⟩ (.int .i64 c) = W3 at hBs hK2 hbs hcs ⊢
    clear hW3
    refine ⟨by simp, .inl ⟨_, _, rfl, run_takeDeferred hK2, ?_⟩⟩
    have hgr := grownBy_putObj' W3 D (.deferred none)
    have hBp := blk_kept hBs hgr (fun r e => by cases e; exact ⟨_, hK2, rfl⟩)
    refine ⟨_, res_name hBp rfl rfl, ?_, hbs.trans (belowK_b (w := w) (Nat.le_refl _) _ D _ _ (by omega) hK2 rfl rfl)⟩
    refine .inr ⟨pre0.map (·.1), x.1, t.map (·.1), ?_, HF.out, H3.out, _, _, _, _, _, rfl, HR.out _ _ _ _ (fun a u ha e => cell_kept (hcs a u ha e) hgr (fun r e => by cases e; exact ⟨_, hK2, rfl⟩)) HRV.out⟩
    rw [← hpre]
    simp

end Go.Proofs.YtmbmolgkccjedaaGreatDoor

