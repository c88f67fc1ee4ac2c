/- An append of one item to a row of items of the call's own: the row's block is the old one, or a new one. -/
import Derived.Test.YtmbmolgkccjedaaGreatDoorM21
import Derived.Test.YtmbmolgkccjedaaGreatDoorApp
set_option linter.unusedVariables false
set_option linter.unusedSimpArgs false
namespace Go.Proofs.YtmbmolgkccjedaaGreatDoor
open Go.RowKit

theorem it_info : (Tryz.prog.info? 26).map (fun i => (i.zero, i.size, i.bytes)) = some (some (.agg #[.int .i64 0, .int .i64 0, .string ⟨#[]⟩, .slice none 0 0]), 4, 56) := by kernel_rfl

theorem wpList_append_new {P : Program} (w : World) {ops : Array Oper} {rest : List Oper} {o : Oper} {a : Act} {Q : Exit → Act → World → Prop} (hgd : o.guard = none) (s x : Operand) (t : TypeId)
    (ho : o.op = .call { callee := .builtin .append, args := #[s, x], argTypes := #[t, t] })
    (base : Nat) (e : TypeId) (i : TypeInfo) (z : Value) (size bytes : Nat) (ht : P.underlying t = some (.slice e)) (hi : P.info? e = some i) (hz : i.zero = some z)
    (hsize : i.size = size) (hby : i.bytes = bytes) (hzs : z.cells.size = size) (hsz : 0 < size)
    (v : Value) (n : Nat) (xs : List Value) (hs : a.eval s = v) (hown : w.ownsRow base e size v n xs)
    (ad : Addr) (c : Nat) (news : List Value) (hx : a.eval x = .slice (some ad) 1 c) (hl : news.length = 1 * size) (hnews : ∀ j u, news[j]? = some u → w.cell? (ad.add j) = some u) (h1 : ∀ u ∈ news, u.oneCell' = true)
    (h63 : n + 1 ≤ maxLen) (hbytes : (n + 1) * bytes ≤ 140737488355328) (hbase : base ≤ w.heap.size)
    (h : ∀ v' w', w'.ownsRow base e size v' (n + 1) (xs ++ news) → w.grownBy w' v.ownBlock → (∀ g, v'.ownBlock = some g → v.ownBlock = some g ∨ g = w.heap.size) → wpList P ops Q rest (a.put o.dst v') w') : wpList P ops Q (o :: rest) a w := by
  refine wpList_plain hgd fun K hK => ?_
  obtain ⟨v', w', hr, h2, h3, h4⟩ := run_append_new (P := P) w base t o.type e i z size bytes ht hi hz hsize hby hzs hsz v n xs hown ad c news hl hnews h1 h63 hbytes hbase
  unfold Oper.wp execOp
  simp only [ho, resolve, invoke, builtin, Sem.run_bind, Sem.run_pure, Result.andThen_ok, List.map_toArray, List.map_cons, List.map_nil, hs, hx, hr]
  exact hK _ _ (h v' w' h2 h3 h4)
end Go.Proofs.YtmbmolgkccjedaaGreatDoor

/- A reader's list while it is read: its row of items in memory, and what keeps it. -/
set_option linter.unusedVariables false
set_option linter.unusedSimpArgs false
namespace Go.Proofs.YtmbmolgkccjedaaGreatDoor
open Go.RowKit

/-- A row of items that the call owns, at blocks from base on, the items' own rows in other blocks. -/
def RowM (base : Nat) (W : World) (v : Value) (xs : List Itm) : Prop := ∃ cs, W.ownsRow base 26 4 v xs.length cs ∧ ItRow (fun b => base ≤ b ∧ v.ownBlock ≠ some b) W xs cs

theorem RowM.nil (base : Nat) (W : World) : RowM base W (.slice none 0 0) [] := ⟨[], World.ownsRow_nil _ _ _ _, by simp [ItRow]⟩

/-- Where all blocks from base on stay. -/
theorem RowM.stay {base : Nat} {W W' : World} {v : Value} {xs : List Itm} (h : RowM base W v xs) (hg : W.grownBy W' none ∨ ∃ r, W.grownBy W' (some r) ∧ r < base) : RowM base W' v xs := by
  obtain ⟨cs, ho, hr⟩ := h
  have key : ∀ b, base ≤ b → b < W.heap.size → W'.heap[b]? = W.heap[b]? := by
    intro b hb hl
    rcases hg with hg | ⟨r, hg, hlt⟩
    · exact hg.block b hl (by simp)
    · exact hg.block b hl (by intro e; cases e; omega)
  refine ⟨cs, ?_, ItRow.keep (fun a u hk e => ⟨(cell_heap (key a.block hk.1 (World.block_lt_of_cell? _ _ e))).trans e, hk⟩) hr⟩
  rcases hg with hg | ⟨r, hg, hlt⟩
  · refine ho.kept hg ?_
    by_cases e : v.ownBlock = none
    · exact .inl e
    · exact .inr e
  · refine ho.kept hg ?_
    by_cases e : v.ownBlock = some r
    · have := (ho.lt r e).1
      omega
    · exact .inr e

/-- Behind an append of an item whose rows lie in blocks that were new when it was read. -/
theorem RowM.append {base n : Nat} {W W1 : World} {v v' : Value} {xs : List Itm} {x : Itm} {c0 c1 c2 c3 : Value} (h : RowM base W v xs) (hn : base ≤ n) (hvn : ∀ g, v.ownBlock = some g → g < n) (hnW : n ≤ W.heap.size)
    (hx : ItV (fun b => n ≤ b) W x (.agg #[c0, c1, c2, c3])) {cs : List Value} (hcs : W.ownsRow base 26 4 v xs.length cs) (hr : ItRow (fun b => base ≤ b ∧ v.ownBlock ≠ some b) W xs cs)
    (hown : W1.ownsRow base 26 4 v' (xs.length + 1) (cs ++ [c0, c1, c2, c3])) (hg : W.grownBy W1 v.ownBlock) (hf : ∀ g, v'.ownBlock = some g → v.ownBlock = some g ∨ g = W.heap.size) : RowM base W1 v' (xs ++ [x]) := by
  have key : ∀ (a : Addr) (u : Value), v.ownBlock ≠ some a.block → W.cell? a = some u → W1.cell? a = some u ∧ v'.ownBlock ≠ some a.block := fun a u hne e => by
    have hl := World.block_lt_of_cell? _ _ e
    refine ⟨(cell_heap (hg.block a.block hl (fun e' => hne e'.symm))).trans e, fun e' => ?_⟩
    rcases hf _ e' with h1 | h1
    · exact hne h1
    · omega
  refine ⟨cs ++ [c0, c1, c2, c3], by simpa using hown, ?_⟩
  refine ItRow.snoc ?_ (ItRow.keep (fun a u hk e => ⟨(key a u hk.2 e).1, hk.1, (key a u hk.2 e).2⟩) hr)
  refine ItV.keep (fun a u hk e => ?_) x _ hx
  have hne : v.ownBlock ≠ some a.block := fun e' => by have := hvn _ e'; omega
  exact ⟨(key a u hne e).1, Nat.le_trans hn hk, (key a u hne e).2⟩

/-- The row that was read is a list of items. -/
theorem RowM.list {base : Nat} {W : World} {v : Value} {xs : List Itm} (h : RowM base W v xs) : ∃ (p : Option Addr) (cap : Nat), v = .slice p xs.length cap ∧ xs.length ≤ cap ∧ cap ≤ maxLen ∧ ItsV (fun b => base ≤ b) W xs p 0 := by
  obtain ⟨cs, ho, hr⟩ := h
  exact ItRow.list ho (ItRow.keep (fun a u hk e => ⟨e, hk.1⟩) hr) (fun b hb => hb)

/-- Reading so many items in all is reading some, and then the others. -/
theorem rdN_add (f : Nat → List UInt8 → Except Int (Itm × List UInt8 × Nat)) : ∀ (k m c : Nat) (l : List UInt8), rdN f (k + m) c l = match rdN f k c l with
    | .error e => .error e
    | .ok (xs, r, c') => match rdN f m c' r with
      | .error e => .error e
      | .ok (ys, r', c'') => .ok (xs ++ ys, r', c'')
  | 0, m, c, l => by
    simp only [Nat.zero_add, rdN, List.nil_append]
    cases rdN f m c l with
    | error e => rfl
    | ok t => obtain ⟨ys, r, c'⟩ := t; rfl
  | k + 1, m, c, l => by
    rw [show k + 1 + m = (k + m) + 1 by omega, rdN, rdN]
    cases h1 : f c l with
    | error e => rfl
    | ok t =>
      obtain ⟨x, r, c1⟩ := t
      simp only
      rw [rdN_add f k m c1 r]
      cases h2 : rdN f k c1 r with
      | error e => rfl
      | ok t2 =>
        obtain ⟨xs, r2, c2⟩ := t2
        simp only
        cases h3 : rdN f m c2 r2 with
        | error e => rfl
        | ok t3 => obtain ⟨ys, r3, c3⟩ := t3; rfl
theorem rdN_one (f : Nat → List UInt8 → Except Int (Itm × List UInt8 × Nat)) (c : Nat) (l : List UInt8) : rdN f 1 c l = match f c l with
    | .error e => .error e
    | .ok (x, r, c') => .ok ([x], r, c') := by
  rw [rdN]
  cases f c l with
  | error e => rfl
  | ok t => obtain ⟨x, r, c'⟩ := t; rfl
/-- One item more. -/
theorem rdN_snoc {f : Nat → List UInt8 → Except Int (Itm × List UInt8 × Nat)} {k c c' c'' : Nat} {l r r' : List UInt8} {xs : List Itm} {x : Itm} (h : rdN f k c l = .ok (xs, r, c')) (h2 : f c' r = .ok (x, r', c'')) : rdN f (k + 1) c l = .ok (xs ++ [x], r', c'') := by
  rw [rdN_add, h]
  simp only
  rw [rdN_one, h2]
/-- What is wrong with one is wrong with all. -/
theorem rdN_err {f : Nat → List UInt8 → Except Int (Itm × List UInt8 × Nat)} {k n c c' : Nat} {l r : List UInt8} {xs : List Itm} {e : Int} (hk : k < n) (h : rdN f k c l = .ok (xs, r, c')) (h2 : f c' r = .error e) : rdN f n c l = .error e := by
  obtain ⟨m, rfl⟩ : ∃ m, n = k + (m + 1) := ⟨n - k - 1, by omega⟩
  rw [rdN_add, h]
  simp only
  rw [rdN, h2]
end Go.Proofs.YtmbmolgkccjedaaGreatDoor

/- A reader's list of package item, over any contract of next one deeper. -/
set_option linter.unusedVariables false
set_option linter.unusedSimpArgs false
namespace Go.Proofs.YtmbmolgkccjedaaGreatDoor
open Go.RowKit

theorem heap_frozen {W : World} {B : Nat} {cs : Array Value} {t : TypeId} (h : W.heap[B]? = some (.cells cs t (0, 0))) (i : Nat) : W.frozen? ⟨B, i, none⟩ = false := by
  unfold World.frozen?
  rw [h]
  simp
theorem heap_set {W : World} {B : Nat} {cs : Array Value} {t : TypeId} (h : W.heap[B]? = some (.cells cs t (0, 0))) (i : Nat) (v : Value) : (W.setCell ⟨B, i, none⟩ v).heap[B]? = some (.cells (cs.setIfInBounds i v) t (0, 0)) := by
  obtain ⟨hlt, hk⟩ := Array.getElem?_eq_some_iff.1 h
  show (W.heap.modify B _)[B]? = _
  rw [Array.getElem?_eq_getElem (by rw [Array.size_modify]; exact hlt), Array.getElem_modify_self, hk]
  rfl

theorem frGrow {R : Nat} {w A B : World} {row : Option Nat} (h : Fr R w A) (hg : A.grownBy B row) (hr : ∀ g, row = some g → w.heap.size ≤ g) : Fr R w B :=
  ⟨hg.os.trans h.os, hg.tape.trans h.tape, hg.output.trans h.output, Nat.le_trans h.size hg.size, fun k hk hne => (hg.block k (Nat.lt_of_lt_of_le hk h.size) (fun e => by have := hr k e.symm; omega)).trans (h.block k hk hne)⟩

/-- What head starts from lies below the reader. -/
def HeadB (R : Nat) (W : World) : Prop := ∃ u, HeadOK u ∧ Below u.heap.size u W ∧ u.heap.size ≤ R
theorem HeadB.ok {R : Nat} {W : World} (h : HeadB R W) : HeadOK W := by
  obtain ⟨u, h1, h2, _⟩ := h
  exact h1.below h2
theorem HeadB.fr {R : Nat} {W W' : World} (h : HeadB R W) (hF : Fr R W W') (hR : R ≤ W.heap.size) : HeadB R W' := by
  obtain ⟨u, h1, h2, h3⟩ := h
  exact ⟨u, h1, h2.trans ((hF.toBelow hR).mono h3), h3⟩

/-- A list while it is read: the answer's box, the item's, its row. -/
structure LM (R : Nat) (s : ByteArray) (i c d : Int) (w : World) (v : Value) (xs : List Itm) (wr : World) : Prop where
  rd : RdS R s i c d wr
  a0 : wr.heap[w.heap.size]? = some (.cells #[.int .i64 0, .int .i64 0, .string ⟨#[]⟩, .slice none 0 0, .nilIface] 173 (0, 0))
  a1 : wr.heap[w.heap.size + 1]? = some (.cells #[.int .i64 4, .int .i64 0, .string ⟨#[]⟩, v] 26 (0, 0))
  row : RowM (w.heap.size + 1 + 1) wr v xs
  fr : Fr R w wr

/-- What next answers, of what is read: f: how much deeper it may be. -/
def NextR (R : Nat) (s : ByteArray) (i c d f : Nat) (w : World) (e' : Ending) (w' : World) : Prop :=
  match rd f c (s.data.toList.drop i) with
  | .error e => ∃ p, e' = .returned (badA (placedV p e)) ∧ Fr R w w'
  | .ok (x, r, c') => ∃ (k n : Int) (q : ByteArray) (p : Option Addr) (m cap : Nat), e' = .returned (.agg #[.int .i64 k, .int .i64 n, .string q, .slice p m cap, .nilIface]) ∧ ItV (fun b => w.heap.size ≤ b) w' x (.agg #[.int .i64 k, .int .i64 n, .string q, .slice p m cap]) ∧ RdS R s ((s.size - r.length : Nat) : Int) (c' : Int) (d : Int) w' ∧ Fr R w w'
/-- What list answers. -/
def ListR (R : Nat) (s : ByteArray) (i c d f n : Nat) (w : World) (e' : Ending) (w' : World) : Prop :=
  match rdN (rd f) n c (s.data.toList.drop i) with
  | .error e => ∃ p, e' = .returned (badA (placedV p e)) ∧ Fr R w w'
  | .ok (xs, r, c') => ∃ (p : Option Addr) (cap : Nat), e' = .returned (.agg #[.int .i64 4, .int .i64 0, .string ⟨#[]⟩, .slice p xs.length cap, .nilIface]) ∧ ItV (fun b => w.heap.size ≤ b) w' (.mk 4 0 [] xs) (.agg #[.int .i64 4, .int .i64 0, .string ⟨#[]⟩, .slice p xs.length cap]) ∧ RdS R s ((s.size - r.length : Nat) : Int) (c' : Int) (d : Int) w' ∧ Fr R w w'

theorem rdN_sfx (f : Nat) : ∀ (n c : Nat) (l : List UInt8) (xs : List Itm) (r : List UInt8) (c' : Nat), c ≤ 60 → rdN (rd f) n c l = .ok (xs, r, c') → r <:+ l ∧ c' ≤ 60 ∧ xs.length = n ∧ c' = c + cnts xs := by
  intro n
  induction n with
  | zero =>
    intro c l xs r c' hc h
    simp only [rdN, Except.ok.injEq, Prod.mk.injEq] at h
    obtain ⟨rfl, rfl, rfl⟩ := h
    exact ⟨List.suffix_refl _, hc, rfl, by simp [cnts]⟩
  | succ n ih =>
    intro c l xs r c' hc h
    rw [rdN] at h
    cases h1 : rd f c l with
    | error e => rw [h1] at h; cases h
    | ok y =>
      obtain ⟨y, r1, c1⟩ := y
      rw [h1] at h
      simp only [] at h
      cases h2 : rdN (rd f) n c1 r1 with
      | error e => rw [h2] at h; cases h
      | ok ys =>
        obtain ⟨ys, r2, c2⟩ := ys
        rw [h2] at h
        simp only [Except.ok.injEq, Prod.mk.injEq] at h
        obtain ⟨rfl, rfl, rfl⟩ := h
        obtain ⟨a1, a2, a3, a4, a5⟩ := rd_back _ _ _ _ _ _ h1
        obtain ⟨b1, b2, b3, b4⟩ := ih _ _ _ _ _ a4 h2
        exact ⟨b1.trans ⟨_, a5.symm⟩, b2, by simp [b3], by simp only [cnts]; omega⟩
theorem sfx_drop {r S : List UInt8} {i : Nat} (h : r <:+ S.drop i) : r = S.drop (S.length - r.length) ∧ r.length ≤ S.length := by
  have h2 : r <:+ S := h.trans (List.drop_suffix i S)
  exact ⟨List.suffix_iff_eq_drop.1 h2, h2.length_le⟩

set_option maxRecDepth 100000 in
set_option maxHeartbeats 4000000 in
theorem list_any (f : Nat) (R : Nat) (s : ByteArray) (i c d n : Nat) (w : World) (hH : HeadB R w) (hS : RdS R s (i : Int) (c : Int) (d : Int) w) (hs : s.size ≤ 1000000) (hi : i ≤ s.size) (hc : c ≤ 60) (hd : d ≤ 6) (hn : n ≤ 281474976710655)
    (ih : ∀ (i c : Nat) (W : World), HeadB R W → RdS R s (i : Int) (c : Int) ((d + 1 : Nat) : Int) W → i ≤ s.size → c ≤ 60 → Calls Tryz.prog 114 #[.pointer (some ⟨R, 0, none⟩)] W (NextR R s i c (d + 1) f W)) :
    Calls Tryz.prog 157 #[.pointer (some ⟨R, 0, none⟩), .int .i64 (n : Int)] w (ListR R s i c d f n w) := by
  have hl := hS.lt
  have IH := Lib.hid ih
  have HH := Lib.hid hH
  have hS2 := (hS.below ((Below.refl _ _).alloc (Nat.le_refl _) (.cells #[.int .i64 0, .int .i64 0, .string ⟨#[]⟩, .slice none 0 0, .nilIface] 173))).below ((Below.refl _ _).alloc (Nat.le_refl _) (.cells #[.int .i64 4, .int .i64 0, .string ⟨#[]⟩, .slice none 0 0] 26))
  have r3 := hS2.c3
  have q3 := hS2.f3
  have hL0 : LM R s (i : Int) (c : Int) ((d : Int) + 1) w (.slice none 0 0) [] (((w.setCell ⟨R, 3, none⟩ (.int .i64 ((d : Int) + 1))).alloc (.cells #[.int .i64 0, .int .i64 0, .string ⟨#[]⟩, .slice none 0 0, .nilIface] 173)).alloc (.cells #[.int .i64 4, .int .i64 0, .string ⟨#[]⟩, .slice none 0 0] 26)) := by
    refine ⟨((hS.deep ((d : Int) + 1)).below ((Below.refl _ _).alloc (Nat.le_refl _) _)).below ((Below.refl _ _).alloc (Nat.le_refl _) _), ?_, ?_, RowM.nil _ _, frAlloc (frAlloc (Fr.set R 3 w _) _) _⟩
    · have := World.alloc_heap_new (w.setCell ⟨R, 3, none⟩ (.int .i64 ((d : Int) + 1))) (.cells #[.int .i64 0, .int .i64 0, .string ⟨#[]⟩, .slice none 0 0, .nilIface] 173)
      rw [show (w.setCell ⟨R, 3, none⟩ (.int .i64 ((d : Int) + 1))).heap.size = w.heap.size by simp] at this
      exact (Below.heap_alloc _ _ _ (by simp)).trans this
    · have := World.alloc_heap_new ((w.setCell ⟨R, 3, none⟩ (.int .i64 ((d : Int) + 1))).alloc (.cells #[.int .i64 0, .int .i64 0, .string ⟨#[]⟩, .slice none 0 0, .nilIface] 173)) (.cells #[.int .i64 4, .int .i64 0, .string ⟨#[]⟩, .slice none 0 0] 26)
      rw [show ((w.setCell ⟨R, 3, none⟩ (.int .i64 ((d : Int) + 1))).alloc (.cells #[.int .i64 0, .int .i64 0, .string ⟨#[]⟩, .slice none 0 0, .nilIface] 173)).heap.size = w.heap.size + 1 by simp] at this
      exact this
  have HL0 := Lib.hid hL0
  clear ih hH hS hS2 hL0
  go_enter Tryz.func157, Tryz.ntmps157
  go_wp2_with fail
  clear r3 q3
  generalize (((w.setCell ⟨R, 3, none⟩ (.int .i64 ((d : Int) + 1))).alloc (.cells #[.int .i64 0, .int .i64 0, .string ⟨#[]⟩, .slice none 0 0, .nilIface] 173)).alloc (.cells #[.int .i64 4, .int .i64 0, .string ⟨#[]⟩, .slice none 0 0] 26)) = w0 at *
  go_loopw [16] (fun ii wr => ∃ (j : Nat) (xs : List Itm) (r : List UInt8) (c' : Nat) (v : Value), j ≤ n ∧ ii = .int .i64 (j : Int) ∧ rdN (rd f) j c (s.data.toList.drop i) = .ok (xs, r, c') ∧ LM R s ((s.size - r.length : Nat) : Int) (c' : Int) ((d : Int) + 1) w v xs wr) (fun ii _ => n - (intOf ii).toNat)
  case atStart =>
    refine ⟨0, [], s.data.toList.drop i, c, .slice none 0 0, Nat.zero_le _, rfl, rfl, ?_⟩
    have e : s.size - (s.data.toList.drop i).length = i := by
      rw [List.length_drop, Array.length_toList]
      show s.size - (s.size - i) = i
      omega
    rw [e]
    exact HL0.out
  case round =>
    obtain ⟨j, xs, r, c', v, hj, rfl, hrd, hM⟩ := hrel
    obtain ⟨hsf, hc6, hxl, hcc⟩ := rdN_sfx f j c _ xs r c' hc hrd
    obtain ⟨hrs, hrl⟩ := sfx_drop hsf
    rw [Array.length_toList] at hrs hrl
    have HRD := Lib.hid hrd
    have hRl := hM.rd.lt
    have HMM := Lib.hid hM
    by_cases hlt : j < n
    · have HN := IH.out (s.size - r.length) c' wr (HH.out.fr hM.fr (by omega)) (by rw [show ((d + 1 : Nat) : Int) = (d : Int) + 1 by omega]; exact hM.rd) (Nat.sub_le _ _) hc6
      unfold NextR at HN
      rw [show s.data.toList.drop (s.size - r.length) = r from hrs.symm] at HN
      have HX := Lib.hid hxl
      clear hsf hrd hrs hrl hM hxl
      cases hr : rd f c' r with
      | error e =>
        have HE := Lib.hid (rdN_err hlt HRD.out hr)
        rw [hr] at HN
        have HNN := Lib.hid HN
        clear HN hr
        go_wp2_with fail
        refine HNN.out.mono ?_
        clear HNN
        unfold badA placedV
        rintro e' w1 ⟨p, rfl, hF1⟩
        have hA0 := (hF1.block _ (lt_of_heap HMM.out.a0) (by intro e; cases e; omega)).trans HMM.out.a0
        have k0 := heap_cell hA0 0 _ rfl
        have f0 := heap_frozen hA0 0
        have k1 := heap_cell hA0 1 _ rfl
        have f1 := heap_frozen hA0 1
        have k2 := heap_cell hA0 2 _ rfl
        have f2 := heap_frozen hA0 2
        have k3 := heap_cell hA0 3 _ rfl
        have f3 := heap_frozen hA0 3
        have k4 := heap_cell hA0 4 _ rfl
        have f4 := heap_frozen hA0 4
        have hz1 : w.heap.size < w1.heap.size := lt_of_heap hA0
        have HF := Lib.hid (HMM.out.fr.trans hF1)
        clear hF1 hA0 HMM
        go_wp2_with fail
        refine bodyPost_ret (v := .agg #[.int .i64 0, .int .i64 0, .string ⟨#[]⟩, .slice none 0 0, .iface 247 (.agg #[.int .i64 p, .iface 106 (.agg #[.int .i64 e])])]) (by simp [results, Tryz.results157, go_sem, hz1, Nat.lt_succ_of_lt hz1, Nat.ne_of_lt hz1, k0, k1, k2, k3, k4]) rfl ?_
        unfold ListR
        rw [HE.out]
        exact ⟨p, rfl, frAlloc (frNew (frNew (frNew (frNew (frNew HF.out (Nat.le_refl _) _ _) (Nat.le_refl _) _ _) (Nat.le_refl _) _ _) (Nat.le_refl _) _ _) (Nat.le_refl _) _ _) _⟩
      | ok t =>
        obtain ⟨x, r', c''⟩ := t
        have HE := Lib.hid (rdN_snoc HRD.out hr)
        rw [hr] at HN
        have HNN := Lib.hid HN
        clear HN hr
        go_wp2_with fail
        refine HNN.out.mono ?_
        clear HNN
        rintro e' w1 ⟨k, nn, q, p, m, cap, rfl, hxv, hS1, hF1⟩
        have hA1 := (hF1.block _ (lt_of_heap HMM.out.a1) (by intro e; cases e; omega)).trans HMM.out.a1
        have hA0 := (hF1.block _ (lt_of_heap HMM.out.a0) (by intro e; cases e; omega)).trans HMM.out.a0
        have hz1 : w.heap.size + 1 < w1.heap.size := lt_of_heap hA1
        have hz1n : w.heap.size + 1 ≠ w1.heap.size := by omega
        have x3 := heap_cell hA1 3 _ rfl
        have y3 := heap_frozen hA1 3
        have hB3 : Below w1.heap.size w1 ((w1.alloc (.cells #[.int .i64 k, .int .i64 nn, .string q, .slice p m cap, .nilIface] 173)).alloc (.cells #[.int .i64 k, .int .i64 nn, .string q, .slice p m cap] 26)) := ((Below.refl _ _).alloc (Nat.le_refl _) _).alloc (by simp) _
        have hrow3 := (HMM.out.row.stay (.inr ⟨R, hF1, by omega⟩)).stay (.inl ⟨hB3.os, hB3.tape, hB3.output, hB3.size, fun b hb _ => hB3.block b hb⟩)
        obtain ⟨cs, hown3, hr3⟩ := id hrow3
        have hvn : ∀ g, v.ownBlock = some g → g < wr.heap.size := fun g hg => by obtain ⟨cs', ho', _⟩ := HMM.out.row; exact (ho'.lt g hg).2
        obtain ⟨i0, hi0, hz0, hzs, hzb⟩ := info_parts it_info
        have hxs : xs.length ≤ 60 := by have := cnts_length xs; omega
        have HX3 := Lib.hid (hxv.below hB3)
        have HS3 := Lib.hid (hS1.below hB3)
        have HF3 := Lib.hid ((HMM.out.fr.trans hF1).trans (Fr.below hB3))
        have HA0 := Lib.hid ((hB3.block _ (by omega)).trans hA0)
        have HA1 := Lib.hid ((hB3.block _ hz1).trans hA1)
        have HROW := Lib.hid hrow3
        have HR3 := Lib.hid hr3
        have hsW : wr.heap.size ≤ w1.heap.size := hF1.size
        have hbW : w.heap.size + 1 + 1 ≤ wr.heap.size := by have := lt_of_heap HMM.out.a1; omega
        clear hxv hS1 hF1 hA0 hA1 hB3 hrow3 hr3 HMM HRD
        go_wp2_with (at_builtin; refine wpList_append_new _ rfl _ _ 24 rfl (w.heap.size + 1 + 1) 26 i0 (.agg #[.int .i64 0, .int .i64 0, .string ⟨#[]⟩, .slice none 0 0]) 4 56 Tryz.underlying24 hi0 hz0 hzs hzb rfl (by decide) _ _ _ rfl hown3 ⟨w1.heap.size + 1, 0, none⟩ 1 [.int .i64 k, .int .i64 nn, .string q, .slice p m cap] rfl rfl ?c1 ?c2 ?c3 ?c4 ?c5 ?_)
        case c1 =>
          intro j' u hj'
          rw [base_add]
          rcases j' with _ | _ | _ | _ | j' <;> simp at hj'
          all_goals (subst hj'; go_simp)
        case c2 =>
          intro u hu
          simp only [List.mem_cons, List.not_mem_nil, or_false] at hu
          rcases hu with rfl | rfl | rfl | rfl <;> rfl
        case c3 => unfold maxLen; omega
        case c4 => omega
        case c5 => simp; omega
        intro v' w4 hown4 hg4 hf4
        have hne : ∀ b, b < w.heap.size + 1 + 1 → some b ≠ v.ownBlock := fun b hb e => by have := (hown3.lt b e.symm).1; omega
        have hRowN := HROW.out.append (n := wr.heap.size) hbW hvn (by simp; omega) (ItV.mono HX3.out (fun b _ hb => hb)) hown3 HR3.out (v' := v') hown4 hg4 (fun g hg => by have := hf4 g hg; simpa using this)
        have hA14 := (hg4.block _ (lt_of_heap HA1.out) (hne _ (by omega))).trans HA1.out
        have hA04 := (hg4.block _ (lt_of_heap HA0.out) (hne _ (by omega))).trans HA0.out
        have hS4 := HS3.out.heap (hg4.block R HS3.out.lt (hne _ (by omega)))
        have hF4 := frGrow HF3.out hg4 (fun g hg => by have := (hown3.lt g hg).1; omega)
        obtain ⟨g4, cap4, rfl⟩ := ownsRow_pos hown4 (by omega)
        have x4 := heap_cell hA14 3 _ rfl
        have y4 := heap_frozen hA14 3
        have HM5 : LM R s ((s.size - r'.length : Nat) : Int) (c'' : Int) ((d : Int) + 1) w (.slice (some ⟨g4, 0, none⟩) (xs.length + 1) cap4) (xs ++ [x]) (w4.setCell ⟨w.heap.size + 1, 3, none⟩ (.slice (some ⟨g4, 0, none⟩) (xs.length + 1) cap4)) := by
          refine ⟨?_, (Below.heap_setCell _ _ _ _ (by simp)).trans hA04, heap_set hA14 3 _, hRowN.stay (.inr ⟨w.heap.size + 1, Fr.set (w.heap.size + 1) 3 w4 _, by omega⟩), frNew hF4 (by omega) _ _⟩
          have := hS4.other (b := w.heap.size + 1) (by omega) 3 (.slice (some ⟨g4, 0, none⟩) (xs.length + 1) cap4)
          rw [show ((d + 1 : Nat) : Int) = (d : Int) + 1 by omega] at this
          exact this
        have HM := Lib.hid HM5
        clear HM5 hown4 hg4 hf4 hRowN hA14 hA04 hS4 hF4 hown3 x3 y3 hne hvn
        go_wp2_with fail
        go_roundw
        case rel => exact ⟨j + 1, _, _, _, _, by omega, by go_num, HE.out, HM.out⟩
        case measure => simp [intOf]; omega
    · obtain rfl : j = n := by omega
      obtain ⟨p, cap, rfl, hpc, hpm, _⟩ := hM.row.list
      have x0 := heap_cell hM.a1 0 _ rfl
      have x1 := heap_cell hM.a1 1 _ rfl
      have x2 := heap_cell hM.a1 2 _ rfl
      have x3 := heap_cell hM.a1 3 _ rfl
      have r3 := hM.rd.c3
      have q3 := hM.rd.f3
      have hzA := lt_of_heap hM.a1
      have hRA : w.heap.size + 1 ≠ R := by omega
      have hRA0 : w.heap.size ≠ R := by omega
      have k0 := heap_cell hM.a0 0 _ rfl
      have f0 := heap_frozen hM.a0 0
      have k1 := heap_cell hM.a0 1 _ rfl
      have f1 := heap_frozen hM.a0 1
      have k2 := heap_cell hM.a0 2 _ rfl
      have f2 := heap_frozen hM.a0 2
      have k3 := heap_cell hM.a0 3 _ rfl
      have f3 := heap_frozen hM.a0 3
      have k4 := heap_cell hM.a0 4 _ rfl
      have f4 := heap_frozen hM.a0 4
      clear hsf hrd hrs hrl hM
      go_wp2_with fail
      refine (igoodi_any _ _ _ _ _ _ _).mono ?_
      rintro e w6 ⟨rfl, hb6⟩
      replace f0 := (hb6.frozen (p := ⟨w.heap.size, 0, none⟩) (by simp; omega)).trans ((frozen_heap (p := ⟨w.heap.size, 0, none⟩) (Below.heap_setCell _ _ _ _ (by show w.heap.size ≠ R; omega))).trans f0)
      replace k0 := (hb6.cell (p := ⟨w.heap.size, 0, none⟩) (by simp; omega)).trans ((cell_heap (p := ⟨w.heap.size, 0, none⟩) (Below.heap_setCell _ _ _ _ (by show w.heap.size ≠ R; omega))).trans k0)
      replace f1 := (hb6.frozen (p := ⟨w.heap.size, 1, none⟩) (by simp; omega)).trans ((frozen_heap (p := ⟨w.heap.size, 1, none⟩) (Below.heap_setCell _ _ _ _ (by show w.heap.size ≠ R; omega))).trans f1)
      replace k1 := (hb6.cell (p := ⟨w.heap.size, 1, none⟩) (by simp; omega)).trans ((cell_heap (p := ⟨w.heap.size, 1, none⟩) (Below.heap_setCell _ _ _ _ (by show w.heap.size ≠ R; omega))).trans k1)
      replace f2 := (hb6.frozen (p := ⟨w.heap.size, 2, none⟩) (by simp; omega)).trans ((frozen_heap (p := ⟨w.heap.size, 2, none⟩) (Below.heap_setCell _ _ _ _ (by show w.heap.size ≠ R; omega))).trans f2)
      replace k2 := (hb6.cell (p := ⟨w.heap.size, 2, none⟩) (by simp; omega)).trans ((cell_heap (p := ⟨w.heap.size, 2, none⟩) (Below.heap_setCell _ _ _ _ (by show w.heap.size ≠ R; omega))).trans k2)
      replace f3 := (hb6.frozen (p := ⟨w.heap.size, 3, none⟩) (by simp; omega)).trans ((frozen_heap (p := ⟨w.heap.size, 3, none⟩) (Below.heap_setCell _ _ _ _ (by show w.heap.size ≠ R; omega))).trans f3)
      replace k3 := (hb6.cell (p := ⟨w.heap.size, 3, none⟩) (by simp; omega)).trans ((cell_heap (p := ⟨w.heap.size, 3, none⟩) (Below.heap_setCell _ _ _ _ (by show w.heap.size ≠ R; omega))).trans k3)
      replace f4 := (hb6.frozen (p := ⟨w.heap.size, 4, none⟩) (by simp; omega)).trans ((frozen_heap (p := ⟨w.heap.size, 4, none⟩) (Below.heap_setCell _ _ _ _ (by show w.heap.size ≠ R; omega))).trans f4)
      replace k4 := (hb6.cell (p := ⟨w.heap.size, 4, none⟩) (by simp; omega)).trans ((cell_heap (p := ⟨w.heap.size, 4, none⟩) (Below.heap_setCell _ _ _ _ (by show w.heap.size ≠ R; omega))).trans k4)
      have hd0 : (d : Int) + 1 - 1 = (d : Int) := by omega
      have HS6 := Lib.hid ((HMM.out.rd.deep (d : Int)).below hb6)
      have HF6 := Lib.hid ((HMM.out.fr.trans (Fr.set R 3 _ _)).trans (Fr.below hb6))
      have HR6 := Lib.hid ((HMM.out.row.stay (.inr ⟨R, Fr.set R 3 wr (.int .i64 (d : Int)), by omega⟩)).stay (.inl ⟨hb6.os, hb6.tape, hb6.output, hb6.size, fun b hb _ => hb6.block b hb⟩))
      clear hb6
      go_wp2_with fail
      refine bodyPost_ret (v := .agg #[.int .i64 4, .int .i64 0, .string ⟨#[]⟩, .slice p j cap, .nilIface]) (by simp [results, Tryz.results157, go_sem, k0, k1, k2, k3, k4]) rfl ?_
      unfold ListR
      rw [HRD.out]
      have e6 : ∀ (W : World) (o : Nat) (v : Value), RowM (w.heap.size + 1 + 1) W (.slice p xs.length cap) xs → RowM (w.heap.size + 1 + 1) (W.setCell ⟨w.heap.size, o, none⟩ v) (.slice p xs.length cap) xs := fun W o v h => h.stay (.inr ⟨w.heap.size, Fr.set w.heap.size o W v, by omega⟩)
      refine ⟨p, cap, by rw [hxl], ?_, ?_, ?_⟩
      · obtain ⟨p', cap', e, _, _, hits⟩ := (e6 _ 4 .nilIface (e6 _ 3 (.slice p j cap) (e6 _ 2 (.string ⟨#[]⟩) (e6 _ 1 (.int .i64 0) (e6 _ 0 (.int .i64 4) HR6.out))))).list
        simp only [Value.slice.injEq] at e
        obtain ⟨rfl, _, rfl⟩ := e
        simp only [ItV]
        exact ⟨p, cap, rfl, hpc, hpm, by simp, by decide, by decide, ItsV.mono hits (fun b _ hb => by omega)⟩
      · exact ((((HS6.out.other hRA0 _ _).other hRA0 _ _).other hRA0 _ _).other hRA0 _ _).other hRA0 _ _
      · exact frNew (frNew (frNew (frNew (frNew HF6.out (Nat.le_refl _) _ _) (Nat.le_refl _) _ _) (Nat.le_refl _) _ _) (Nat.le_refl _) _ _) (Nat.le_refl _) _ _
end Go.Proofs.YtmbmolgkccjedaaGreatDoor
