/- Scan of package frame: the records of the frames at a text's beginning. -/
import Derived.Test.YtdlkmdjhjdpmeaaGreatDoorFRecs
import Derived.RangeFuncBox
import Derived.Laws.AppendOwn
import Derived.Maps.AppendAt
import Derived.Deep.QuietTactic
import Derived.BigQuiet
set_option linter.unusedVariables false
set_option linter.unusedSimpArgs false
namespace Go.Proofs.YtdlkmdjhjdpmeaaGreatDoor
open Go.RowKit Go.Shelf

attribute [local go_sem] Oper.semAt_some

/-- A record's cells. -/
def rcL (r : Rc) : List Value := [.int .i64 r.op, .int .i64 r.id, .string r.data]
def rcsL (l : List Rc) : List Value := l.flatMap rcL
theorem rcsL_snoc (l : List Rc) (r : Rc) : rcsL (l ++ [r]) = rcsL l ++ rcL r := by simp [rcsL]
theorem rcsL_at : ∀ (l : List Rc) (j : Nat) (r : Rc), l[j]? = some r → (rcsL l)[j * 3]? = some (.int .i64 r.op) ∧ (rcsL l)[j * 3 + 1]? = some (.int .i64 r.id) ∧ (rcsL l)[j * 3 + 2]? = some (.string r.data)
  | [], j, r, e => by simp at e
  | y :: t, 0, r, e => by
    have : y = r := by simpa using e
    subst this
    simp [rcsL, rcL]
  | y :: t, j + 1, r, e => by
    have := rcsL_at t j r (by simpa using e)
    have h : rcsL (y :: t) = rcL y ++ rcsL t := by simp [rcsL]
    rw [h, show (j + 1) * 3 = j * 3 + 1 + 1 + 1 by omega]
    simpa [rcL] using this

/-- Records in memory that lie below n: at a slice's value v. -/
def RcsOwn (n : Nat) (w : World) (v : Value) (l : List Rc) : Prop :=
  ∃ A c, v = .slice A l.length c ∧ l.length ≤ c ∧ ∀ j r, l[j]? = some r → ∃ g, A = some ⟨g, 0, none⟩ ∧ g < n ∧ w.cell? ⟨g, j * 3, none⟩ = some (.int .i64 r.op) ∧ w.cell? ⟨g, j * 3 + 1, none⟩ = some (.int .i64 r.id) ∧ w.cell? ⟨g, j * 3 + 2, none⟩ = some (.string r.data)
theorem RcsOwn.kept {n : Nat} {w w' : World} {v : Value} {l : List Rc} (h : RcsOwn n w v l) (hk : ∀ p x, p.block < n → w.cell? p = some x → w'.cell? p = some x) : RcsOwn n w' v l := by
  obtain ⟨A, c, e, hc, h⟩ := h
  refine ⟨A, c, e, hc, fun j r hj => ?_⟩
  obtain ⟨g, hA, hg, h0, h1, h2⟩ := h j r hj
  exact ⟨g, hA, hg, hk _ _ hg h0, hk _ _ hg h1, hk _ _ hg h2⟩
theorem RcsOwn.below {n : Nat} {w w' : World} {v : Value} {l : List Rc} (h : RcsOwn n w v l) (hb : Below w.heap.size w w') : RcsOwn n w' v l := h.kept fun p x _ e => (hb.cell (World.block_lt_of_cell? _ _ e)).trans e
theorem RcsOwn.mono {n m : Nat} {w : World} {v : Value} {l : List Rc} (h : RcsOwn n w v l) (hm : n ≤ m) : RcsOwn m w v l := by
  obtain ⟨A, c, e, hc, h⟩ := h
  refine ⟨A, c, e, hc, fun j r hj => ?_⟩
  obtain ⟨g, hA, hg, h0⟩ := h j r hj
  exact ⟨g, hA, by omega, h0⟩
theorem rcsOwn_of {w : World} {base : Nat} {v : Value} {l : List Rc} (h : w.ownsRow base 23 3 v l.length (rcsL l)) : RcsOwn w.heap.size w v l := by
  rcases h.2 with ⟨e, h0⟩ | ⟨g, cap, cur, e, hb, hgb, hc, _⟩
  · have : l = [] := List.eq_nil_of_length_eq_zero h0
    subst this
    exact ⟨none, 0, e, Nat.le_refl _, fun j x hj => by simp at hj⟩
  · subst e
    refine ⟨some ⟨g, 0, none⟩, cap, rfl, hc, fun j r hj => ?_⟩
    obtain ⟨h0, h1, h2⟩ := rcsL_at l j r hj
    have c : ∀ i u, (rcsL l)[i]? = some u → w.cell? ⟨g, i, none⟩ = some u := fun i u hu => by
      have := h.cells (g := g) rfl i u hu
      rwa [Addr.add_mid, Nat.zero_add] at this
    exact ⟨g, rfl, lt_of_heap hgb, c _ _ h0, c _ _ h1, c _ _ h2⟩

theorem rec_info : (Tryz.prog.info? 23).map (fun i => (i.zero, i.size, i.bytes)) = some (some (.agg #[.int .i64 0, .int .i64 0, .string ⟨#[]⟩]), 3, 32) := by kernel_rfl

/-- All blocks of cells that were there are as they were, but rows of records, and boxes of such rows. -/
def KeepT (W W' : World) : Prop := W.heap.size ≤ W'.heap.size ∧ ∀ (k : Nat) cs t f, W.heap[k]? = some (.cells cs t f) → t ≠ 23 → t ≠ 25 → W'.heap[k]? = some (.cells cs t f)
theorem KeepT.refl (W : World) : KeepT W W := ⟨Nat.le_refl _, fun _ _ _ _ h _ _ => h⟩
theorem KeepT.trans {A B C : World} (h : KeepT A B) (k : KeepT B C) : KeepT A C := ⟨Nat.le_trans h.1 k.1, fun i cs t f e h1 h2 => k.2 i cs t f (h.2 i cs t f e h1 h2) h1 h2⟩
theorem KeepT.below {W W' : World} (hb : Below W.heap.size W W') : KeepT W W' := ⟨hb.size, fun k _ _ _ h _ _ => (hb.block k (lt_of_heap h)).trans h⟩
theorem KeepT.row {W W' : World} {base size k : Nat} {v : Value} {xs : List Value} (hrow : W.ownsRow base 23 size v k xs) (hg : W.grownBy W' v.ownBlock) : KeepT W W' := by
  refine ⟨hg.size, fun i cs t f h h1 _ => (hg.block i (lt_of_heap h) (fun e => ?_)).trans h⟩
  rcases hrow.2 with ⟨rfl, _⟩ | ⟨g, cap, cur, rfl, _, hgb, _⟩
  · simp [Value.ownBlock] at e
  · obtain rfl : i = g := by simpa [Value.ownBlock] using e
    rw [h] at hgb
    cases hgb
    exact h1 rfl
theorem KeepT.set {W : World} {B : Nat} {v : Value} (hv : Boxed W B 25 v) (u : Value) : KeepT W (W.setCell ⟨B, 0, none⟩ u) := by
  refine ⟨by simp, fun i cs t f h _ h2 => (Below.heap_setCell _ _ _ _ (fun e => ?_)).trans h⟩
  subst e
  rw [show W.heap[i]? = _ from hv] at h
  cases h
  exact h2 rfl
theorem ItS.keepT {X Bx nn : Nat} {s : ByteArray} {m : Int} {W W' : World} (h : ItS X Bx nn s m W) (hk : KeepT W W') (hb : Below nn W W') : ItS X Bx nn s m W' := by
  obtain ⟨tv, h1, h2, h3, h4⟩ := h
  refine ⟨tv, hk.2 _ _ _ _ h1 (by decide) (by decide), h2.of fun A cs _ e => (hk.2 _ _ _ _ e (by decide) (by decide)).trans e.symm, ?_, hk.2 _ _ _ _ h4 (by decide) (by decide)⟩
  obtain ⟨w0, rfl, k1, k2⟩ := h3
  exact ⟨w0, rfl, k1, k2.trans hb⟩

theorem ownsRow_belowR {w w' : World} {base : Nat} {e : TypeId} {size : Nat} {v : Value} {n : Nat} {xs : List Value} (h : w.ownsRow base e size v n xs) (hb : Below w.heap.size w w') : w'.ownsRow base e size v n xs := by
  have hg : w.grownBy w' none := ⟨hb.os, hb.tape, hb.output, hb.size, fun k hk _ => hb.block k hk⟩
  refine h.kept hg ?_
  by_cases e : v.ownBlock = none
  · exact .inl e
  · exact .inr e
theorem keeps_belowR {W W' : World} (hb : Below W.heap.size W W') : KeepsOthers W W' := ⟨hb.size, fun k o h _ => (hb.block k (lt_of_heap h)).trans h⟩
theorem ownsRow_posR {W : World} {base : Nat} {e : TypeId} {size : Nat} {v : Value} {k : Nat} {xs : List Value} (h : W.ownsRow base e size v k xs) (hk : 0 < k) : ∃ g cap, v = .slice (some ⟨g, 0, none⟩) k cap := by
  rcases h.2 with ⟨_, h0⟩ | ⟨g, cap, _, rfl, _⟩
  · omega
  · exact ⟨g, cap, rfl⟩
theorem ownBaseR {W : World} {n₀ size : Nat} {v : Value} {e : TypeId} {k : Nat} {xs : List Value} (hrow : W.ownsRow n₀ e size v k xs) (g : Nat) (h : v.ownBlock = some g) : n₀ ≤ g := (hrow.lt g h).1
theorem news_rec (W : World) (op id : Int) (data : ByteArray) : ∀ (j : Nat) (u : Value), (rcL ⟨op, id, data⟩)[j]? = some u → (W.alloc (.cells #[.int .i64 op, .int .i64 id, .string data] 23)).cell? ((⟨W.heap.size, 0, none⟩ : Addr).add j) = some u := by
  intro j u hj
  rw [Addr.add_mid, Nat.zero_add, cell_of_row _ _ j _ _ (0, 0) (heap_alloc_new W _)]
  simpa [rcL] using hj
theorem rcL_one (r : Rc) : ∀ u ∈ rcL r, u.oneCell' = true := by
  intro u hu
  simp only [rcL, List.mem_cons, List.not_mem_nil, or_false] at hu
  rcases hu with rfl | rfl | rfl <;> rfl
theorem boxRow {W w1 : World} {n₀ B : Nat} {t e : TypeId} {size : Nat} {v v' : Value} {k m : Nat} {xs ys : List Value} (hv : Boxed W B t v) (hte : t ≠ e) (hrow : W.ownsRow n₀ e size v k xs) (hown' : w1.ownsRow n₀ e size v' m ys) (hgrow : W.grownBy w1 v.ownBlock) :
    Boxed w1 B t v ∧ Boxed (w1.setCell ⟨B, 0, none⟩ v') B t v' ∧ (w1.setCell ⟨B, 0, none⟩ v').ownsRow n₀ e size v' m ys ∧ KeepsOthers W (w1.setCell ⟨B, 0, none⟩ v') := by
  have hv1 : Boxed w1 B t v := hv.kept hgrow (hv.not_row hte hrow)
  refine ⟨hv1, hv1.set v', hown'.kept (grownBy_setCell' w1 B v') (.inr (hv1.not_row hte hown').symm), ?_⟩
  refine (KeepsOthers.of_grownBy hgrow fun j o ej hj => ?_).trans (KeepsOthers.setCell _ _ _)
  rcases hrow.2 with ⟨rfl, _⟩ | ⟨g, cap, cur, rfl, _, hgb, _⟩
  · simp [Value.ownBlock] at ej
  · obtain rfl : g = j := by simpa [Value.ownBlock] using ej
    rw [hgb] at hj; cases hj; rfl

theorem sl_three (A : Option Addr) (k c : Nat) (hk : k ≤ c) (w : World) : (Instr.slice 25 (.slice A k c) none (some (.int .i64 (k : Int))) (some (.int .i64 (k : Int)))).run Tryz.prog w = .ok (.slice A k k) w := by
  have hk' : 0 ≤ (k : Int) ∧ (k : Int) ≤ (c : Int) := by omega
  have h0 : ∀ a : Addr, a.add 0 = a := fun a => by simp [Addr.add]
  have h1 : Option.map (fun x : Addr => x.add 0) A = A := by cases A <;> simp [h0]
  simp [Instr.slice, Instr.sliceBounds, Instr.sliceBound, asIntOf, run_underlying Tryz.underlying25, hk', hk, h1]
theorem rec_ne (op id : Int) (data : ByteArray) (h : (op == 0) = false) (w : World) : (binOp .eql 23 (.agg #[.int .i64 op, .int .i64 id, .string data]) (.agg #[.int .i64 0, .int .i64 0, .string ⟨#[]⟩])).run Tryz.prog w = .ok (.bool false) w := by
  go_simp
theorem rec_zero (w : World) : (binOp .eql 23 (.agg #[.int .i64 0, .int .i64 0, .string ⟨#[]⟩]) (.agg #[.int .i64 0, .int .i64 0, .string ⟨#[]⟩])).run Tryz.prog w = .ok (.bool true) w := by
  go_simp
theorem lay_le : ∀ l : List Rc, l.length ≤ (layL l).length
  | [] => Nat.zero_le _
  | r :: l => by
    have := lay_le l
    rw [layL_cons, List.length_append, frL_length, List.length_cons]
    omega
theorem right_op {r : Rc} (h : rcB r = true) : (r.op == 0) = false := by
  obtain ⟨p, i, h1, h2, _⟩ := rcB_iff.1 h
  rw [h1]
  simp; omega
theorem box_cells {W : World} {B : Nat} {a b c : Value} {t : TypeId} (h : W.heap[B]? = some (.cells #[a, b, c] t (0, 0))) : W.cell? ⟨B, 0, none⟩ = some a ∧ W.cell? ⟨B, 1, none⟩ = some b ∧ W.cell? ⟨B, 2, none⟩ = some c :=
  ⟨cell_of_row W B 0 _ _ _ h, cell_of_row W B 1 _ _ _ h, cell_of_row W B 2 _ _ _ h⟩

/-- What Scan answers. -/
def ScanR (s : ByteArray) (w : World) (e : Ending) (w' : World) : Prop := ∃ l n v, ScanOf s l n ∧ e = .returned (.tuple #[v, .int .i64 ((n : Nat) : Int)]) ∧ RcsOwn w'.heap.size w' v l ∧ Below w.heap.size w w'

theorem wpIn_scope_wide' {n : Nat} {P : Program} {c : Code} {Q : Exit → Act → World → Prop} {a : Act} {w : World} (h : c.wpIn Fence.wide n P (Exit.noGoto Q) a w) : (Code.scope c).wpIn Fence.wide n P Q a w :=
  wpIn_wide.2 (wp_scope_straight (wpIn_wide.1 h))

set_option maxRecDepth 100000 in
set_option maxHeartbeats 4000000 in
theorem scan_any (s : ByteArray) (w : World) (hE : FrOK w) (hs : s.size ≤ 1000000) :
    Calls Tryz.prog 21 #[.string s] w (ScanR s w) := by
  obtain ⟨i0, hi, hz0, hz1, hz2⟩ := info_parts rec_info
  refine (callsIn_wide (n := 9)).1 ?_
  refine callsIn_of_wp_marks Tryz.func21 rfl trivial ?_ rfl
  simp only [Tryz.ntmps21, List.size_toArray, List.length_cons, List.length_nil, Nat.reduceAdd, Nat.reduceSub, Array.replicate_succ, Array.replicate_zero, List.push_toArray, List.append_toArray, List.nil_append, List.cons_append]
  gi_wp2
  refine wpIn_scope_wide' ?_
  gi_wp2
  refine wpIn_label ?_
  gi_wp2_with (refine ⟨trivial, ?_⟩; gi_at_call 34; refine (recs_in Fence.wide _ trivial rfl _ _).mono ?_; rintro e w' ⟨rfl, rfl⟩)
  have hB0 : Below w.heap.size w (((w.alloc (.cells #[.string s, .int .i64 0, .slice none 0 0] 66)).alloc (.cells #[.slice none 0 0] 25)).alloc (.cells #[.pointer (some ⟨w.heap.size, 0, none⟩)] 91)) := (((Below.refl _ w).alloc (Nat.le_refl _) _).alloc (by simp) _).alloc (by simp; omega) _
  have hsz : (((w.alloc (.cells #[.string s, .int .i64 0, .slice none 0 0] 66)).alloc (.cells #[.slice none 0 0] 25)).alloc (.cells #[.pointer (some ⟨w.heap.size, 0, none⟩)] 91)).heap.size = w.heap.size + 1 + 1 + 1 := by simp
  have hx0 : Blk (((w.alloc (.cells #[.string s, .int .i64 0, .slice none 0 0] 66)).alloc (.cells #[.slice none 0 0] 25)).alloc (.cells #[.pointer (some ⟨w.heap.size, 0, none⟩)] 91)) w.heap.size 66 #[.string s, .int .i64 0, .slice none 0 0] := ((Blk.new w _ _).alloc _).alloc _
  have hbx : Boxed (((w.alloc (.cells #[.string s, .int .i64 0, .slice none 0 0] 66)).alloc (.cells #[.slice none 0 0] 25)).alloc (.cells #[.pointer (some ⟨w.heap.size, 0, none⟩)] 91)) (w.heap.size + 1) 25 (.slice none 0 0) := by
    have h1 := (Boxed.new (w.alloc (.cells #[.string s, .int .i64 0, .slice none 0 0] 66)) 25 (.slice none 0 0)).alloc (.cells #[.pointer (some ⟨w.heap.size, 0, none⟩)] 91)
    rw [World.size_alloc] at h1
    exact h1
  have hbp : Boxed (((w.alloc (.cells #[.string s, .int .i64 0, .slice none 0 0] 66)).alloc (.cells #[.slice none 0 0] 25)).alloc (.cells #[.pointer (some ⟨w.heap.size, 0, none⟩)] 91)) (w.heap.size + 1 + 1) 91 (.pointer (some ⟨w.heap.size, 0, none⟩)) := by
    have h1 := Boxed.new ((w.alloc (.cells #[.string s, .int .i64 0, .slice none 0 0] 66)).alloc (.cells #[.slice none 0 0] 25)) 91 (.pointer (some ⟨w.heap.size, 0, none⟩))
    rw [World.size_alloc, World.size_alloc] at h1
    exact h1
  have hI0 : ItS w.heap.size (w.heap.size + 1 + 1) w.heap.size s 0 (((w.alloc (.cells #[.string s, .int .i64 0, .slice none 0 0] 66)).alloc (.cells #[.slice none 0 0] 25)).alloc (.cells #[.pointer (some ⟨w.heap.size, 0, none⟩)] 91)) := ⟨.slice none 0 0, hx0, .inl rfl, ⟨w, rfl, hE, hB0⟩, hbp⟩
  generalize (((w.alloc (.cells #[.string s, .int .i64 0, .slice none 0 0] 66)).alloc (.cells #[.slice none 0 0] 25)).alloc (.cells #[.pointer (some ⟨w.heap.size, 0, none⟩)] 91)) = w0 at *
  clear hx0 hbp
  refine wpIn_range_st rfl (by omega) (gf := 49) (lb := #[.pointer (some ⟨w.heap.size + 1 + 1, 0, none⟩)]) rfl trivial (enters_of Tryz.func49 (by kernel_rfl) rfl)
    (recs_stops w.heap.size (w.heap.size + 1 + 1) w.heap.size _ s hs (by omega) (Nat.le_refl _) (by omega) w0 (by omega) hI0) kpS_t ?kb ?fr (Below.refl _ _) (fun _ => rfl)
    (fun pre W => ((∃ v, Boxed W (w.heap.size + 1) 25 v ∧ W.ownsRow w0.heap.size 23 3 v pre.length (rcsL pre) ∧ True) ∧ (∀ r ∈ pre, rcB r = true) ∧ w0.heap.size ≤ W.heap.size) ∧ Below w.heap.size w W)
    (fun c pre W => (∃ v, Boxed W (w.heap.size + 1) 25 v ∧ W.ownsRow w0.heap.size 23 3 v pre.dropLast.length (rcsL pre.dropLast) ∧ (c = .exit 0 ∧ pre = pre.dropLast ++ [zeroRc])) ∧ Below w.heap.size w W)
    (OwnFrom.and (OwnFrom.and ((holdsRow_own w0.heap.size (w.heap.size + 1) 25 23 3 (fun pre : List Rc => pre.length) (fun pre => rcsL pre) (fun _ _ => True)).from _) (Own.from (fun s A B row hs hg hr => ⟨hs.1, Nat.le_trans hs.2 hg.size⟩) _)) (ownFrom_below (Nat.le_refl _) (by omega)))
    (fun c => OwnFrom.and ((holdsRow_own w0.heap.size (w.heap.size + 1) 25 23 3 (fun pre : List Rc => pre.dropLast.length) (fun pre => rcsL pre.dropLast) (fun pre _ => c = .exit 0 ∧ pre = pre.dropLast ++ [zeroRc])).from _) (ownFrom_below (Nat.le_refl _) (by omega)))
    (fun _ _ _ _ h _ _ => h.elim) ?sp ?hif ?hie
    ⟨⟨⟨_, hbx, World.ownsRow_nil _ _ _ _, trivial⟩, by simp, Nat.le_refl _⟩, hB0⟩
    (fun x a' W => ∃ B : Nat, w0.heap.size ≤ B ∧ a' = { tmps := #[.string s, undef, .slice none 0 0, .int .i64 0, .pointer (some ⟨w.heap.size, 0, none⟩), .pointer (some ⟨w.heap.size + 1, 0, none⟩), .pointer (some ⟨B, 0, none⟩), .string s, .agg #[.string s, .int .i64 0], .agg #[.string s, .int .i64 0, .slice none 0 0], .func (.func 49) #[] #[.pointer (some ⟨w.heap.size + 1 + 1, 0, none⟩)], .agg #[.int .i64 x.op, .int .i64 x.id, .string x.data], undef, undef, undef, undef, undef, undef, undef, undef, undef, undef, undef, undef, undef, undef, undef, undef], defers := [] } ∧ W.heap[B]? = some (.cells #[.int .i64 x.op, .int .i64 x.id, .string x.data] 23 (0, 0)))
    (fun x a' => Own.from (fun s A B row hs hg hr => by
      obtain ⟨b, h1, h2, h3⟩ := hs
      exact ⟨b, h1, h2, (hg.block b (lt_of_heap h3) (fun e => by obtain ⟨o, ho, hc⟩ := hr b e.symm; rw [h3] at ho; cases ho; cases hc)).trans h3⟩) _) ?assign ?body ?done ?stop
  case kb =>
    intro W l o o' hl ho hc _ m hm
    obtain ⟨tv, h1, h2, h3, h4⟩ := hm
    have k : ∀ (i : Nat) cs t f, W.heap[i]? = some (.cells cs t f) → (W.putObj l o').heap[i]? = some (.cells cs t f) := fun i cs t f e => by
      refine (World.putObj_heap_other (fun e' => ?_)).trans e
      subst e'
      rw [ho] at e
      cases e
      cases hc
    refine ⟨tv, k _ _ _ _ h1, h2.of fun A cs _ e => (k _ _ _ _ e).trans e.symm, ?_, k _ _ _ _ h4⟩
    obtain ⟨u, hu, k1, k2⟩ := h3
    have hu2 : u.heap.size ≤ l := by omega
    exact ⟨u, hu, k1, ⟨k2.os, k2.tape, k2.output, by simpa using k2.size, fun i hi => (World.putObj_heap_other (by omega)).trans (k2.block i hi)⟩⟩
  case fr =>
    intro A B k o hf hk e
    exact (hf.block k (lt_of_heap e) (by omega) (by omega)).trans e
  case sp =>
    intro pre A B row hs hg hr
    have k : ∀ m, ItS w.heap.size (w.heap.size + 1 + 1) w.heap.size s m A → ItS w.heap.size (w.heap.size + 1 + 1) w.heap.size s m B := fun m hm => by
      obtain ⟨tv, h1, h2, h3, h4⟩ := hm
      have kk : ∀ (i : Nat) cs t f, A.heap[i]? = some (.cells cs t f) → B.heap[i]? = some (.cells cs t f) := fun i cs t f e => by
        refine (hg.block i (lt_of_heap e) (fun e' => ?_)).trans e
        obtain ⟨_, o, ho, hc⟩ := hr i e'.symm
        rw [ho] at e
        cases e
        cases hc
      refine ⟨tv, kk _ _ _ _ h1, h2.of fun A cs _ e => (kk _ _ _ _ e).trans e.symm, ?_, kk _ _ _ _ h4⟩
      obtain ⟨u, hu, k1, k2⟩ := h3
      have hu2 := k2.size
      refine ⟨u, hu, k1, k2.grown hg (by omega) (fun g e => by have := (hr g e).1; omega)⟩
    obtain ⟨q, x, n, h1, h2, h3⟩ := hs
    exact ⟨q, x, n, h1, h2, h3.imp (fun h => ⟨h.1, k _ h.2⟩) (fun h => ⟨h.1, h.2.1, k _ h.2.2⟩)⟩
  case hif =>
    rintro pre A B ⟨⟨⟨v, hv, hrow, _⟩, h1, hsw⟩, hB⟩ hf
    refine ⟨⟨⟨v, (hf.block _ hv.lt (by omega) (by omega)).trans hv, ?_, trivial⟩, h1, Nat.le_trans hsw hf.size⟩, hf.toBelow hB (Nat.le_refl _) (Nat.le_refl _) hB.size⟩
    refine ⟨hrow.1, hrow.2.imp id fun ⟨g, cap, cur, k1, k2, k3, k4⟩ => ⟨g, cap, cur, k1, k2, (hf.block g (lt_of_heap k3) (by omega) (by omega)).trans k3, k4⟩⟩
  case hie =>
    rintro pre A ⟨q, rfl⟩ ⟨⟨_, h1, _⟩, _⟩
    have := h1 zeroRc (by simp)
    rw [zero_wrong] at this
    cases this
  case assign =>
    rintro l pre x W K ⟨⟨⟨v, hv, hrow, _⟩, h1, hsw⟩, hB⟩ hK
    have H1 := Lib.hid (hv.alloc (.cells #[.int .i64 x.op, .int .i64 x.id, .string x.data] 23))
    have H2 := Lib.hid (hrow.alloc (.cells #[.int .i64 x.op, .int .i64 x.id, .string x.data] 23))
    have H3 := Lib.hid h1
    clear hv hrow h1
    simp only [rcV]
    gi_wp2
    exact hK _ _ ((KeepsOthers.alloc _ _).from _) (fun m hm => hm.keepT (KeepT.below ((Below.refl _ _).alloc (Nat.le_refl _) _)) ((Below.refl _ _).alloc (by omega) _)) ⟨⟨⟨_, H1.out, H2.out, trivial⟩, H3.out, by simp; omega⟩, hB.alloc hB.size _⟩ ⟨W.heap.size, hsw, rfl, World.alloc_heap_new W _⟩
  case body =>
    have hmix : Tryz.prog.follows .mixedOrders = true := by kernel_rfl
    rintro l pre ⟨op, id, data⟩ a' W hl hlo ⟨⟨⟨v, hv, hrow, _⟩, h1, hsw⟩, hB⟩ ⟨B, hBl, rfl, hbox⟩ hnx
    simp only at hbox
    obtain ⟨n, hso, hx⟩ := hnx
    obtain ⟨e0, e1, e2⟩ := box_cells hbox
    have hbl : B < W.heap.size := World.block_lt_of_cell? _ _ e0
    have HB := Lib.hid hB
    have HV := Lib.hid hv
    have HROW := Lib.hid hrow
    have HBOX := Lib.hid hbox
    have H1 := Lib.hid h1
    have hpl : pre.length ≤ s.size := by
      have e := hso.len
      have h2 := hso.2.2
      have : pre.length ≤ (layL pre).length := lay_le pre
      omega
    clear hB hv hrow hbox h1 hbx hI0
    rcases hx with hx | ⟨hx, _⟩
    · have hr := (decO_some.1 hx).2.1
      have heq := rec_ne op id data (right_op hr)
      have HR := Lib.hid hr
      have HSO := Lib.hid hso
      clear hx hr hso
      gi_wp2
      gi_region_with_o (first
        | (refine ⟨trivial, ?_⟩; gi_at_call 35; refine (CallsIn.inRound l (callsIn_wide.2 (fnone_any _))).mono ?_; rintro e w1 ⟨rfl, rfl⟩))
      all_goals
        have hbW : Below W.heap.size W ((W.alloc (.cells #[.int .i64 0, .int .i64 0, .string ⟨#[]⟩] 23)).drew) := ((Below.refl W.heap.size W).alloc (Nat.le_refl _) _).drew
        have hv2 : Boxed ((W.alloc (.cells #[.int .i64 0, .int .i64 0, .string ⟨#[]⟩] 23)).drew) (w.heap.size + 1) 25 v := (hbW.block _ HV.out.lt).trans HV.out
        have hrow2 := ownsRow_belowR HROW.out hbW
        have hbox2 := (hbW.block B hbl).trans HBOX.out
        have hsw2 : w0.heap.size ≤ ((W.alloc (.cells #[.int .i64 0, .int .i64 0, .string ⟨#[]⟩] 23)).drew).heap.size := Nat.le_trans hsw hbW.size
        generalize (W.alloc (.cells #[.int .i64 0, .int .i64 0, .string ⟨#[]⟩] 23)).drew = W1 at hbW hv2 hrow2 hbox2 hsw2 ⊢
        have HBW := Lib.hid hbW
        obtain ⟨e0, e1, e2⟩ := box_cells hbox2
        have q0 := hv2.cell
        have q1 := hv2.frozen
        have hv3 := hv2.alloc (.cells #[.int .i64 op, .int .i64 id, .string data] 23)
        have c3 := hv3.cell
        have f3 := hv3.frozen
        have HV3 := Lib.hid hv3
        have HR3 := Lib.hid (hrow2.alloc (.cells #[.int .i64 op, .int .i64 id, .string data] 23))
        clear hbW hv2 hrow2 hbox2 hv3
        gi_wp2_with (gi_at_builtin; refine wpListIn_append_own _ rfl _ _ 25 rfl w0.heap.size 23 i0 (.agg #[.int .i64 0, .int .i64 0, .string ⟨#[]⟩]) 3 32 Tryz.underlying25 hi hz0 hz1 hz2 rfl (by decide) _ _ _ rfl HR3.out ⟨W1.heap.size, 0, none⟩ 1 1 (rcL ⟨op, id, data⟩) rfl rfl (news_rec W1 op id data) (rcL_one _) (by unfold maxLen; omega) (by omega) (by simp; omega) ?_; intro v' w2 hown' hgrow _; obtain ⟨g', cap', rfl⟩ := ownsRow_posR hown' (by omega); obtain ⟨bx3, bx4, row4, ko4⟩ := boxRow HV3.out (by decide) HR3.out hown' hgrow; have hc5 := bx3.cell; have hf5 := bx3.frozen)
        have hkt : KeepT W (w2.setCell ⟨w.heap.size + 1, 0, none⟩ (.slice (some ⟨g', 0, none⟩) (pre.length + 1) cap')) := (KeepT.below HBW.out).trans ((KeepT.below ((Below.refl _ _).alloc (Nat.le_refl _) _)).trans ((KeepT.row HR3.out hgrow).trans (KeepT.set bx3 _)))
        have hbk : Below w.heap.size W (w2.setCell ⟨w.heap.size + 1, 0, none⟩ (.slice (some ⟨g', 0, none⟩) (pre.length + 1) cap')) := (((HBW.out.mono (by omega)).alloc (by omega) _).grown hgrow (by simp; omega) (fun g e => by have := ownBaseR HR3.out g e; omega)).setCell (p := ⟨w.heap.size + 1, 0, none⟩) (by simp) _
        refine ⟨((keeps_belowR HBW.out).trans ((KeepsOthers.alloc _ _).trans ko4)).from _, fun m hm => hm.keepT hkt hbk, ⟨⟨_, bx4, ?_, trivial⟩, ?_, ?_⟩, HB.out.trans hbk⟩
        · rw [List.length_append, rcsL_snoc]
          exact row4
        · intro r hr
          rcases List.mem_append.1 hr with hr | hr
          · exact H1.out r hr
          · rw [List.mem_singleton.1 hr]; exact HR.out
        · exact Nat.le_trans hsw hkt.1
    · obtain ⟨rfl, rfl, rfl⟩ : op = 0 ∧ id = 0 ∧ data = ⟨#[]⟩ := by unfold zeroRc at hx; injection hx with h1 h2 h3; exact ⟨h1, h2, h3⟩
      have heq := rec_zero
      clear hx hso
      gi_wp2
      gi_region_with_o (first
        | (refine ⟨trivial, ?_⟩; gi_at_call 35; refine (CallsIn.inRound l (callsIn_wide.2 (fnone_any _))).mono ?_; rintro e w1 ⟨rfl, rfl⟩))
      all_goals
        have hbW : Below W.heap.size W ((W.alloc (.cells #[.int .i64 0, .int .i64 0, .string ⟨#[]⟩] 23)).drew) := ((Below.refl W.heap.size W).alloc (Nat.le_refl _) _).drew
        gi_wp2
        refine ⟨(keeps_belowR hbW).from _, fun m hm => hm.keepT (KeepT.below hbW) (hbW.mono (by omega)), ⟨v, (hbW.block _ HV.out.lt).trans HV.out, ?_, rfl, ?_⟩, HB.out.trans (hbW.mono HB.out.size)⟩
        · rw [List.dropLast_concat]; exact ownsRow_belowR HROW.out hbW
        · rw [List.dropLast_concat]; rfl
  case done =>
    rintro D ys W hD hf _ _
    exact hf.elim
  case stop =>
    rintro D c pre W hD hsp ⟨⟨v, hv, hrow, rfl, hpre⟩, hB⟩ hK
    obtain ⟨q, x, n, hq, hso, hx⟩ := hsp
    have hq := hpre.symm.trans hq
    obtain ⟨rfl, hxz⟩ := List.append_inj' hq rfl
    obtain rfl : x = zeroRc := by simpa using hxz.symm
    rcases hx with ⟨hx, _⟩ | ⟨_, hd, hit⟩
    · have := (decO_some.1 hx).2.1
      rw [zero_wrong] at this
      cases this
    obtain ⟨tv, hx1, _⟩ := hit
    have e1 : W.cell? ⟨w.heap.size, 1, none⟩ = some (.int .i64 ((n : Nat) : Int)) := hx1.cell 1
    have hvc := hv.cell
    have HSC := Lib.hid (show ScanOf s pre.dropLast n from ⟨hso, hd⟩)
    have HOWN := Lib.hid (rcsOwn_of hrow)
    obtain ⟨A, cp, hve, hcp, _⟩ := rcsOwn_of hrow
    subst hve
    have HPL := Lib.hid hpre
    clear hv hrow hpre hq hso hd hx1
    gi_wp2
    obtain ⟨k, hk⟩ : ∃ k, pre.dropLast.length = k := ⟨_, rfl⟩
    rw [hk] at hvc hcp
    have HK := Lib.hid hk
    have HCP := Lib.hid hcp
    have HBB := Lib.hid hB
    have hl1 := fun W => sl_three A k cp hcp W
    clear hk hI0 hbx hcp hB hxz
    refine wpIn_wide.2 ?_
    go_quiet (fail)
    gi_wp2
    rw [Exit.noGoto_ret]
    have hKd : (W.drewN nq).heap[D]? = some (.deferred (some [])) := hK
    have hBd : Below w.heap.size w (W.drewN nq) := cdrewN HBB.out nq
    refine ⟨by simp, .inl ⟨_, _, rfl, run_takeDeferred hKd, ?_⟩⟩
    refine ⟨_, results_tmp2 rfl _ _ _, pre.dropLast, n, .slice A k k, HSC.out, rfl, ?_, hBd.trans (belowK_b (w := w) (Nat.le_refl _) (W.drewN nq) D _ _ (by omega) hKd rfl rfl)⟩
    obtain ⟨A', c', e, _, hr⟩ := HOWN.out
    injection e with e3 e4 e5
    subst e3
    refine ⟨A, k, by rw [HK.out], by rw [HK.out]; exact Nat.le_refl _, fun j r hj => ?_⟩
    obtain ⟨g, hA, hg, k0, k1, k2⟩ := hr j r hj
    have kk : ∀ {p : Addr} {x : Value}, W.cell? p = some x → ((W.drewN nq).putObj D (.deferred none)).cell? p = some x := fun {p x} e => cell_kept (show (W.drewN nq).cell? p = some x from e) (grownBy_putObj' _ D (.deferred none)) (fun r e => by cases e; exact ⟨_, hKd, rfl⟩)
    exact ⟨g, hA, by simpa using hg, kk k0, kk k1, kk k2⟩
end Go.Proofs.YtdlkmdjhjdpmeaaGreatDoor
