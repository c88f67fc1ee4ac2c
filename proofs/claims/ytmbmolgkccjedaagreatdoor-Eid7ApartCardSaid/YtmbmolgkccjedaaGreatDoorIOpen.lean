/- An item in memory: the value and the rows that its lists are; an item that came in; a row of items that a call owns. -/
import Derived.Test.YtmbmolgkccjedaaGreatDoorM10
import Derived.OpenShut
import Derived.Deep.Slices
import Derived.Carry
import Derived.Laws.AppendOwn
import Derived.ProofKit
set_option linter.unusedVariables false
set_option linter.unusedSimpArgs false
namespace Go.Proofs.YtmbmolgkccjedaaGreatDoor
open Go.ChangeShapes Go.WideShapes Go.RowKit

mutual
/-- The value v is the item x: its list's items lie in memory, in blocks that are ok. -/
def ItV (ok : Nat → Prop) (W : World) : Itm → Value → Prop
  | .mk k n s l, v => ∃ (p : Option Addr) (cap : Nat), v = .agg #[.int .i64 k, .int .i64 n, .string ⟨s.toArray⟩, .slice p l.length cap] ∧ l.length ≤ cap ∧ cap ≤ maxLen ∧ s.length ≤ maxLen ∧ (Lit.int .i64 k).wf = true ∧ (Lit.int .i64 n).wf = true ∧ ItsV ok W l p 0
/-- From the place i on of the row at p stand the items l. -/
def ItsV (ok : Nat → Prop) (W : World) : List Itm → Option Addr → Nat → Prop
  | [], _, _ => True
  | x :: r, p, i => (∃ (a : Addr) (c0 c1 c2 c3 : Value), p = some a ∧ ok a.block ∧ W.cell? (a.add (i * 4)) = some c0 ∧ W.cell? (a.add (i * 4 + 1)) = some c1 ∧ W.cell? (a.add (i * 4 + 2)) = some c2 ∧ W.cell? (a.add (i * 4 + 3)) = some c3 ∧ ItV ok W x (.agg #[c0, c1, c2, c3])) ∧ ItsV ok W r p (i + 1)
end

theorem add_block (a : Addr) (i : Nat) : (a.add i).block = a.block := by unfold Addr.add; split <;> rfl
theorem add_add4 (a : Addr) (i j : Nat) : (a.add i).add j = a.add (i + j) := Go.Deep.add_add a i j

mutual
/-- An item stays what it is where the cells of its blocks stay, and in blocks that are ok in another sense. -/
theorem ItV.keep {ok ok' : Nat → Prop} {W W' : World} (hk : ∀ (a : Addr) (v : Value), ok a.block → W.cell? a = some v → W'.cell? a = some v ∧ ok' a.block) : ∀ (x : Itm) (v : Value), ItV ok W x v → ItV ok' W' x v
  | .mk k n s l, v, h => by
    simp only [ItV] at h ⊢
    obtain ⟨p, cap, h1, h2, h3, h4, h5, h6, h7⟩ := h
    exact ⟨p, cap, h1, h2, h3, h4, h5, h6, ItsV.keep hk l p 0 h7⟩
theorem ItsV.keep {ok ok' : Nat → Prop} {W W' : World} (hk : ∀ (a : Addr) (v : Value), ok a.block → W.cell? a = some v → W'.cell? a = some v ∧ ok' a.block) : ∀ (l : List Itm) (p : Option Addr) (i : Nat), ItsV ok W l p i → ItsV ok' W' l p i
  | [], _, _, _ => trivial
  | x :: r, p, i, h => by
    simp only [ItsV] at h ⊢
    obtain ⟨⟨a, c0, c1, c2, c3, h1, h0, h2, h3, h4, h5, h6⟩, h7⟩ := h
    have c : ∀ {j : Nat} {v : Value}, W.cell? (a.add j) = some v → W'.cell? (a.add j) = some v := fun e => (hk _ _ (by rw [add_block]; exact h0) e).1
    have o := (hk _ _ (by rw [add_block]; exact h0) h2).2
    rw [add_block] at o
    exact ⟨⟨a, c0, c1, c2, c3, h1, o, c h2, c h3, c h4, c h5, ItV.keep hk x _ h6⟩, ItsV.keep hk r p (i + 1) h7⟩
end
theorem ItV.below {ok : Nat → Prop} {W W' : World} {x : Itm} {v : Value} (h : ItV ok W x v) (hb : Below W.heap.size W W') : ItV ok W' x v :=
  ItV.keep (fun _ _ ho e => ⟨(hb.cell (World.block_lt_of_cell? _ _ e)).trans e, ho⟩) x v h
theorem ItsV.below {ok : Nat → Prop} {W W' : World} {l : List Itm} {p : Option Addr} {i : Nat} (h : ItsV ok W l p i) (hb : Below W.heap.size W W') : ItsV ok W' l p i :=
  ItsV.keep (fun _ _ ho e => ⟨(hb.cell (World.block_lt_of_cell? _ _ e)).trans e, ho⟩) l p i h
theorem ItV.mono {ok ok' : Nat → Prop} {W : World} {x : Itm} {v : Value} (h : ItV ok W x v) (ho : ∀ b, b < W.heap.size → ok b → ok' b) : ItV ok' W x v :=
  ItV.keep (fun _ _ hb e => ⟨e, ho _ (World.block_lt_of_cell? _ _ e) hb⟩) x v h
theorem ItsV.mono {ok ok' : Nat → Prop} {W : World} {l : List Itm} {p : Option Addr} {i : Nat} (h : ItsV ok W l p i) (ho : ∀ b, b < W.heap.size → ok b → ok' b) : ItsV ok' W l p i :=
  ItsV.keep (fun _ _ hb e => ⟨e, ho _ (World.block_lt_of_cell? _ _ e) hb⟩) l p i h

/-- The item at a place of a row. -/
theorem ItsV.at {ok : Nat → Prop} {W : World} {p : Option Addr} : ∀ (l : List Itm) (i j : Nat) (x : Itm), ItsV ok W l p i → l[j]? = some x → ∃ (a : Addr) (c0 c1 c2 c3 : Value), p = some a ∧ ok a.block ∧ W.cell? (a.add ((i + j) * 4)) = some c0 ∧ W.cell? (a.add ((i + j) * 4 + 1)) = some c1 ∧ W.cell? (a.add ((i + j) * 4 + 2)) = some c2 ∧ W.cell? (a.add ((i + j) * 4 + 3)) = some c3 ∧ ItV ok W x (.agg #[c0, c1, c2, c3])
  | [], _, _, _, _, h => by simp at h
  | y :: r, i, 0, x, h, hj => by
    simp only [ItsV] at h
    obtain rfl : y = x := by simpa using hj
    exact h.1
  | y :: r, i, j + 1, x, h, hj => by
    simp only [ItsV] at h
    have := ItsV.at r (i + 1) j x h.2 (by simpa using hj)
    rw [show i + 1 + j = i + (j + 1) by omega] at this
    exact this

/-- Items that are known one by one are a list of items. -/
theorem its_of {ok : Nat → Prop} {W : World} {a : Addr} (n : Nat) (ha : ok a.block) : ∀ (m i : Nat), i + m = n → (∀ j, j < n → ∃ (x : Itm) (c0 c1 c2 c3 : Value), W.cell? (a.add (j * 4)) = some c0 ∧ W.cell? (a.add (j * 4 + 1)) = some c1 ∧ W.cell? (a.add (j * 4 + 2)) = some c2 ∧ W.cell? (a.add (j * 4 + 3)) = some c3 ∧ ItV ok W x (.agg #[c0, c1, c2, c3])) → ∃ l : List Itm, l.length = m ∧ ItsV ok W l (some a) i := by
  intro m
  induction m with
  | zero => intro i _ _; exact ⟨[], rfl, by simp [ItsV]⟩
  | succ m ih =>
    intro i hi h
    obtain ⟨x, c0, c1, c2, c3, h1, h2, h3, h4, h5⟩ := h i (by omega)
    obtain ⟨l, hl, hs⟩ := ih (i + 1) (by omega) h
    refine ⟨x :: l, by simp [hl], ?_⟩
    simp only [ItsV]
    exact ⟨⟨a, c0, c1, c2, c3, rfl, ha, h1, h2, h3, h4, h5⟩, hs⟩

section
variable {H : Type} {enc : TypeId × Value → H} {P : Program} {w : World} {base : Nat} {spare : Nat → Bool} {held : Bool} {tI tN tS tL : TypeId} {f0 f1 f2 f3 : Field}

set_option maxHeartbeats 1000000 in
theorem item_of_trod (hI : P.underlying tI = some (.struct #[f0, f1, f2, f3])) (t0 : f0.type = tN) (t1 : f1.type = tN) (t2 : f2.type = tS) (t3 : f3.type = tL) (o0 : f0.offset = 0) (o1 : f1.offset = 1) (o2 : f2.offset = 2) (o3 : f3.offset = 3)
    (hN : P.underlying tN = some (.int .i64)) (hS : P.underlying tS = some .string) (hL : P.underlying tL = some (.slice tI)) (cN : P.cellsOf tN = 1) (cS : P.cellsOf tS = 1) (cL : P.cellsOf tL = 1) (cI : P.cellsOf tI = 4) :
    ∀ (fuel : Nat) (cs : List Value) (x : DataW H × List MemPlace), DataW.trod enc P w base spare held fuel tI cs = some x →
      ∃ (it : Itm) (c0 c1 c2 c3 : Value), cs = [c0, c1, c2, c3] ∧ ItV (fun _ => True) w it (.agg #[c0, c1, c2, c3]) ∧ ∀ p ∈ x.2, p.block < w.heap.size := by
  intro fuel
  induction fuel using Nat.strongRecOn with
  | _ fuel ih =>
    intro cs x h
    obtain ⟨xs, n, rfl, rfl, hl, hxl, hf⟩ := DataW.trod_struct hI h
    have k0 := hf 0 f0 rfl
    have k1 := hf 1 f1 rfl
    have k2 := hf 2 f2 rfl
    have k3 := hf 3 f3 rfl
    rw [t0, o0, cN] at k0
    rw [t1, o1, cN] at k1
    rw [t2, o2, cS] at k2
    rw [t3, o3, cL] at k3
    rw [cI] at hl
    obtain ⟨c0, c1, c2, c3, rfl⟩ : ∃ c0 c1 c2 c3, cs = [c0, c1, c2, c3] := by
      rcases cs with _ | ⟨c0, _ | ⟨c1, _ | ⟨c2, _ | ⟨c3, _ | ⟨c4, r⟩⟩⟩⟩⟩ <;> simp at hl
      exact ⟨c0, c1, c2, c3, rfl⟩
    obtain ⟨y0, y1, y2, y3, rfl⟩ : ∃ y0 y1 y2 y3, xs = [y0, y1, y2, y3] := by
      rcases xs with _ | ⟨y0, _ | ⟨y1, _ | ⟨y2, _ | ⟨y3, _ | ⟨y4, r⟩⟩⟩⟩⟩ <;> simp at hxl
      exact ⟨y0, y1, y2, y3, rfl⟩
    obtain ⟨m0, e0, rfl, w0⟩ := DataW.trod_int hN (k0.trans rfl)
    obtain ⟨m1, e1, rfl, w1⟩ := DataW.trod_int hN (k1.trans rfl)
    obtain ⟨s, e2, rfl, ws⟩ := DataW.trod_string hS (k2.trans rfl)
    have k3' := k3.trans (show [_, _, _, y3][3]? = some y3 from rfl)
    simp at e0 e1 e2 k3'
    subst e0 e1 e2
    have hs : (⟨s.data.toList.toArray⟩ : ByteArray) = s := by simp
    rcases DataW.trod_slice hL k3' with ⟨e3, rfl⟩ | ⟨a, len, cap, elems, rest, n', rfl, e3, rfl, hb, hle, hm, hlen, hel, hsp, hns⟩
    · obtain rfl : c3 = .slice none 0 0 := by simpa using e3
      refine ⟨.mk m0 m1 s.data.toList [], _, _, _, _, rfl, ?_, by simp⟩
      simp only [ItV]
      exact ⟨none, 0, by rw [hs]; rfl, Nat.le_refl _, Nat.zero_le _, by rw [Array.length_toList]; exact ws, w0, w1, by simp [ItsV]⟩
    · obtain rfl : c3 = .slice (some a) len cap := by simpa using e3
      rw [cI] at hel hsp
      have each : ∀ j y, (elems ++ rest)[j]? = some y → ∃ cs', w.cells? base (a.add (j * 4)) 4 = some cs' ∧ DataW.trod enc P w base spare held n' tI cs' = some y := by
        intro j y hj
        by_cases hjl : j < len
        · rw [List.getElem?_append_left (by omega)] at hj
          have := hel j hjl
          rw [hj] at this
          exact Option.bind_eq_some_iff.1 this
        · rw [List.getElem?_append_right (by omega), hlen] at hj
          have hjr : j - len < rest.length := (List.getElem?_eq_some_iff.1 hj).1
          cases hs' : spare a.block with
          | false => rw [hns hs'] at hjr; simp at hjr
          | true =>
            obtain ⟨q1, q2⟩ := hsp hs'
            have := q2 (j - len) (by omega)
            rw [show len + (j - len) = j by omega, hj] at this
            exact Option.bind_eq_some_iff.1 this
      have each' : ∀ j y, (elems ++ rest)[j]? = some y → (∃ (x : Itm) (c0 c1 c2 c3 : Value), w.cell? (a.add (j * 4)) = some c0 ∧ w.cell? (a.add (j * 4 + 1)) = some c1 ∧ w.cell? (a.add (j * 4 + 2)) = some c2 ∧ w.cell? (a.add (j * 4 + 3)) = some c3 ∧ ItV (fun _ => True) w x (.agg #[c0, c1, c2, c3])) ∧ ∀ p ∈ y.2, p.block < w.heap.size := by
        intro j y hj
        obtain ⟨cs', h1, h2⟩ := each j y hj
        obtain ⟨it, d0, d1, d2, d3, rfl, hit, hp⟩ := ih n' (by omega) cs' y h2
        obtain ⟨_, _, hc⟩ := World.cells?_some h1
        have q0 := hc 0 (by omega)
        have q1 := hc 1 (by omega)
        have q2 := hc 2 (by omega)
        have q3 := hc 3 (by omega)
        rw [add_add4] at q0 q1 q2 q3
        exact ⟨⟨it, d0, d1, d2, d3, q0, q1, q2, q3, hit⟩, hp⟩
      obtain ⟨l, hll, hits⟩ := its_of (ok := fun _ => True) (W := w) (a := a) len trivial len 0 (by omega) (fun j hj => (each' j _ (by rw [List.getElem?_append_left (by omega)]; exact List.getElem?_eq_getElem (by omega))).1)
      refine ⟨.mk m0 m1 s.data.toList l, _, _, _, _, rfl, ?_, ?_⟩
      · simp only [ItV]
        exact ⟨some a, cap, by rw [hs, hll], by omega, hm, by rw [Array.length_toList]; exact ws, w0, w1, hits⟩
      · intro p hp
        simp only [List.flatMap_cons, List.flatMap_nil, List.nil_append, List.append_nil] at hp
        rcases List.mem_append.1 hp with hp | hp
        · obtain ⟨i, hi, rfl⟩ := MemPlace.mem_row.1 hp
          have hne : 0 < (elems ++ rest).length := by rw [List.length_append]; rw [cI] at hi; omega
          obtain ⟨⟨_, d0, _, _, _, q0, _⟩, _⟩ := each' 0 _ (List.getElem?_eq_getElem hne)
          have h1 := World.block_lt_of_cell? _ _ q0
          rw [add_block] at h1
          simpa [MemPlace.block] using h1
        · obtain ⟨y, hy, hpy⟩ := List.mem_flatMap.1 hp
          obtain ⟨j, hj⟩ := List.mem_iff_getElem?.1 hy
          exact (each' j y hj).2 p hpy
end

/-- The cells cs are those of the items, four each. -/
def ItRow (ok : Nat → Prop) (W : World) : List Itm → List Value → Prop
  | [], cs => cs = []
  | x :: r, cs => ∃ (c0 c1 c2 c3 : Value) (cs' : List Value), cs = c0 :: c1 :: c2 :: c3 :: cs' ∧ ItV ok W x (.agg #[c0, c1, c2, c3]) ∧ ItRow ok W r cs'
theorem ItRow.length {ok : Nat → Prop} {W : World} : ∀ {l : List Itm} {cs : List Value}, ItRow ok W l cs → cs.length = l.length * 4
  | [], cs, h => by simp only [ItRow] at h; subst h; rfl
  | x :: r, cs, h => by
    simp only [ItRow] at h
    obtain ⟨c0, c1, c2, c3, cs', rfl, _, h2⟩ := h
    have := ItRow.length h2
    simp only [List.length_cons]
    omega
theorem ItRow.snoc {ok : Nat → Prop} {W : World} {x : Itm} {c0 c1 c2 c3 : Value} (hx : ItV ok W x (.agg #[c0, c1, c2, c3])) : ∀ {l : List Itm} {cs : List Value}, ItRow ok W l cs → ItRow ok W (l ++ [x]) (cs ++ [c0, c1, c2, c3])
  | [], cs, h => by simp only [ItRow] at h; subst h; simp only [List.nil_append, ItRow]; exact ⟨c0, c1, c2, c3, [], rfl, hx, rfl⟩
  | y :: r, cs, h => by
    simp only [ItRow] at h
    obtain ⟨d0, d1, d2, d3, cs', rfl, h1, h2⟩ := h
    simp only [List.cons_append, ItRow]
    exact ⟨d0, d1, d2, d3, _, rfl, h1, ItRow.snoc hx h2⟩
theorem ItRow.keep {ok ok' : Nat → Prop} {W W' : World} (hk : ∀ (a : Addr) (v : Value), ok a.block → W.cell? a = some v → W'.cell? a = some v ∧ ok' a.block) : ∀ {l : List Itm} {cs : List Value}, ItRow ok W l cs → ItRow ok' W' l cs
  | [], cs, h => h
  | x :: r, cs, h => by
    simp only [ItRow] at h ⊢
    obtain ⟨c0, c1, c2, c3, cs', h0, h1, h2⟩ := h
    exact ⟨c0, c1, c2, c3, cs', h0, ItV.keep hk x _ h1, ItRow.keep hk h2⟩
theorem base_add (g j : Nat) : (⟨g, 0, none⟩ : Addr).add j = ⟨g, j, none⟩ := by unfold Addr.add; split <;> simp_all
theorem its_of_row {ok : Nat → Prop} {W : World} {g : Nat} (hg : ok g) : ∀ (l : List Itm) (cs : List Value) (i : Nat), ItRow ok W l cs → (∀ j u, cs[j]? = some u → W.cell? ⟨g, i * 4 + j, none⟩ = some u) → ItsV ok W l (some ⟨g, 0, none⟩) i
  | [], _, _, _, _ => by simp [ItsV]
  | x :: r, cs, i, h, hc => by
    simp only [ItRow] at h
    obtain ⟨c0, c1, c2, c3, cs', rfl, h1, h2⟩ := h
    simp only [ItsV]
    refine ⟨⟨⟨g, 0, none⟩, c0, c1, c2, c3, rfl, hg, ?_, ?_, ?_, ?_, h1⟩, its_of_row hg r cs' (i + 1) h2 (fun j u hj => ?_)⟩
    · rw [base_add]; exact hc 0 c0 rfl
    · rw [base_add]; exact hc 1 c1 rfl
    · rw [base_add]; exact hc 2 c2 rfl
    · rw [base_add]; exact hc 3 c3 rfl
    · have := hc (j + 4) u (by simpa using hj)
      rw [show (i + 1) * 4 + j = i * 4 + (j + 4) by omega]
      exact this
theorem ItV.one {ok : Nat → Prop} {W : World} {x : Itm} {c0 c1 c2 c3 : Value} (h : ItV ok W x (.agg #[c0, c1, c2, c3])) : ∀ u ∈ [c0, c1, c2, c3], u.oneCell' = true := by
  cases x with
  | mk k n s l =>
    simp only [ItV] at h
    obtain ⟨p, cap, h1, _⟩ := h
    simp only [Value.agg.injEq, Array.mk.injEq, List.cons.injEq, and_true] at h1
    obtain ⟨rfl, rfl, rfl, rfl⟩ := h1
    intro u hu
    simp only [List.mem_cons, List.not_mem_nil, or_false] at hu
    rcases hu with rfl | rfl | rfl | rfl <;> rfl
/-- A row that the call owns, of items, is a list of items. -/
theorem ItRow.list {ok : Nat → Prop} {W : World} {base : Nat} {e : TypeId} {v : Value} {l : List Itm} {cs : List Value} (ho : W.ownsRow base e 4 v l.length cs) (h : ItRow ok W l cs) (hok : ∀ b, base ≤ b → ok b) :
    ∃ (p : Option Addr) (cap : Nat), v = .slice p l.length cap ∧ l.length ≤ cap ∧ cap ≤ maxLen ∧ ItsV ok W l p 0 := by
  obtain ⟨h1, ⟨rfl, h2⟩ | ⟨g, cap, cur, rfl, hb, hg, hn, hm, hs, ht⟩⟩ := ho
  · have : l = [] := List.eq_nil_of_length_eq_zero h2
    subst this
    exact ⟨none, 0, rfl, Nat.le_refl _, Nat.zero_le _, by simp [ItsV]⟩
  · refine ⟨_, cap, rfl, hn, hm, its_of_row (hok g hb) l cs 0 h (fun j u hj => ?_)⟩
    have hjl : j < cs.length := (List.getElem?_eq_some_iff.1 hj).1
    rw [← ht, List.getElem?_take, if_pos (by omega)] at hj
    unfold World.cell?
    rw [Nat.zero_mul, Nat.zero_add]
    simp [hg]
    simpa using hj
end Go.Proofs.YtmbmolgkccjedaaGreatDoor
