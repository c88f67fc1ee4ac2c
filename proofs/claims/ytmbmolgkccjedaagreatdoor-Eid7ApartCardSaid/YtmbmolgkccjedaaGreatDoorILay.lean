/- Contracts of lay and Encode of package item: the bytes of a right item; ErrItem of any other. -/
import Derived.Test.YtmbmolgkccjedaaGreatDoorM20
import Derived.Maps.AppendAt
import Derived.Lib.AppendStr
import Derived.Laws.BytesArg
set_option linter.unusedVariables false
set_option linter.unusedSimpArgs false
namespace Go.Proofs.YtmbmolgkccjedaaGreatDoor
open Go.RowKit Go.Shelf

attribute [local go_sem] Oper.semAt_some

/-- Bytes of a text, appended to a row of the call's own, inside a fence. -/
theorem wpListIn_append_str {F : Fence} {n : Nat} {P : Program} (w : World) {ops : Array Oper} {rest : List Oper} {o : Oper} {a : Act} {Q : Exit → Act → World → Prop} (hgd : o.guard = none) (sl x : Operand) (t u : TypeId)
    (ho : o.op = .call { callee := .builtin .append, args := #[sl, x], argTypes := #[t, u] })
    (base : Nat) (e : TypeId) (i : TypeInfo) (ht : P.underlying t = some (.slice e)) (hu : P.underlying u = some .string) (hi : P.info? e = some i) (hz : i.zero = some (.int .u8 0)) (hsize : i.size = 1) (hby : i.bytes = 1)
    (v : Value) (k : Nat) (xs : List Value) (hs : a.eval sl = v) (hown : w.ownsRow base e 1 v k xs) (s : ByteArray) (hx : a.eval x = .string s) (h63 : k + s.size ≤ maxLen) (hbytes : k + s.size ≤ 140737488355328) (hbase : base ≤ w.heap.size)
    (h : ∀ v' w', w'.ownsRow base e 1 v' (k + s.size) (xs ++ Lib.strCells s) → w.grownBy w' v.ownBlock → wpListIn F n P ops Q rest (a.put o.dst v') w') : wpListIn F n P ops Q (o :: rest) a w := by
  refine wpListIn_plain hgd fun K hK' => ?_
  obtain ⟨v', w', hrun, r1, r2, r3⟩ := Lib.run_append_own_string (P := P) w base t u o.type e i ht hu hi hz hsize hby v k xs hown s h63 hbytes hbase
  unfold Oper.wpIn
  refine ⟨?_, ?_⟩
  · simp [Oper.about, ho, resolve, Target.leads, Sem.run_pure]
  · rw [Oper.semAt_plain F _ _ (by rw [ho]; intro c hc'; cases hc')]
    simp [execOp, ho, resolve, invoke, builtin, hs, hx, hrun, Result.andThen]
    exact hK' _ _ (h v' w' r1 r2)

set_option maxHeartbeats 400000 in
theorem ibads_any (tv : TypeId) (v : Value) (w : World) :
    Calls Tryz.prog 67 #[.iface tv v] w fun e w' => e = .returned (.agg #[.string ⟨#[]⟩, .iface tv v]) ∧ Below w.heap.size w w' := by
  go_enter Tryz.func67, Tryz.ntmps67
  go_wp2
  refine bodyPost_ret (v := .agg #[.string ⟨#[]⟩, .iface tv v]) (by simp [results, Tryz.results67, go_sem]) rfl ⟨rfl, ?_⟩
  exact (Below.refl _ _).alloc (Nat.le_refl _) _

set_option maxHeartbeats 400000 in
theorem igoods_any (s : ByteArray) (w : World) :
    Calls Tryz.prog 70 #[.string s] w fun e w' => e = .returned (.agg #[.string s, .nilIface]) ∧ Below w.heap.size w w' := by
  go_enter Tryz.func70, Tryz.ntmps70
  go_wp2
  refine bodyPost_ret (v := .agg #[.string s, .nilIface]) (by simp [results, Tryz.results70, go_sem]) rfl ⟨rfl, ?_⟩
  exact (Below.refl _ _).alloc (Nat.le_refl _) _

set_option maxRecDepth 100000 in
set_option maxHeartbeats 2000000 in
theorem lay_no (ok0 : Nat → Prop) (k n : Int) (s : List UInt8) (l : List Itm) (p : Option Addr) (cap : Nat) (w : World) (hx : ItV ok0 w (.mk k n s l) (.agg #[.int .i64 k, .int .i64 n, .string ⟨s.toArray⟩, .slice p l.length cap])) (hd : dep (.mk k n s l) ≤ 900) (hr : rightI (.mk k n s l) = false) :
    Calls Tryz.prog 42 #[.agg #[.int .i64 k, .int .i64 n, .string ⟨s.toArray⟩, .slice p l.length cap]] w fun e w' => e = .returned (.agg #[.string ⟨#[]⟩, .iface 106 (.agg #[.int .i64 40])]) ∧ Below w.heap.size w w' := by
  have HX := Lib.hid hx
  have HR := Lib.hid hr
  clear hx hr
  go_enter Tryz.func42, Tryz.ntmps42
  go_wp2_with fail
  have hB0 : Below w.heap.size w ((w.alloc (.cells #[.int .i64 k, .int .i64 n, .string ⟨s.toArray⟩, .slice p l.length cap] 26)).alloc (.cells #[.string ⟨#[]⟩, .nilIface] 79)) := ((Below.refl _ w).alloc (Nat.le_refl _) _).alloc (by simp) _
  refine (iright_any ok0 _ _ _ (HX.out.below hB0) hd).mono ?_
  rintro e w1 ⟨rfl, hb1⟩
  rw [HR.out]
  have r0 : w1.cell? ⟨w.heap.size + 1, 0, none⟩ = some (.string ⟨#[]⟩) := (hb1.cell (p := ⟨w.heap.size + 1, 0, none⟩) (by simp)).trans (by go_simp)
  have r1 : w1.cell? ⟨w.heap.size + 1, 1, none⟩ = some .nilIface := (hb1.cell (p := ⟨w.heap.size + 1, 1, none⟩) (by simp)).trans (by go_simp)
  have g0 : w1.frozen? ⟨w.heap.size + 1, 0, none⟩ = false := (hb1.frozen (p := ⟨w.heap.size + 1, 0, none⟩) (by simp)).trans (by go_simp)
  have g1 : w1.frozen? ⟨w.heap.size + 1, 1, none⟩ = false := (hb1.frozen (p := ⟨w.heap.size + 1, 1, none⟩) (by simp)).trans (by go_simp)
  have hB1 := Lib.hid (hB0.trans (hb1.mono hB0.size))
  have hz1 : w.heap.size + 1 < w1.heap.size := World.block_lt_of_cell? _ _ r0
  clear hb1 hB0
  go_wp2_with fail
  refine (ibads_any _ _ _).mono ?_
  rintro e w2 ⟨rfl, hb2⟩
  have q0 : w2.cell? ⟨w.heap.size + 1, 0, none⟩ = some (.string ⟨#[]⟩) := (hb2.cell (p := ⟨w.heap.size + 1, 0, none⟩) (by simp; omega)).trans r0
  have q1 : w2.cell? ⟨w.heap.size + 1, 1, none⟩ = some .nilIface := (hb2.cell (p := ⟨w.heap.size + 1, 1, none⟩) (by simp; omega)).trans r1
  have p0 : w2.frozen? ⟨w.heap.size + 1, 0, none⟩ = false := (hb2.frozen (p := ⟨w.heap.size + 1, 0, none⟩) (by simp; omega)).trans g0
  have p1 : w2.frozen? ⟨w.heap.size + 1, 1, none⟩ = false := (hb2.frozen (p := ⟨w.heap.size + 1, 1, none⟩) (by simp; omega)).trans g1
  have hB2 := Lib.hid (hB1.out.trans (hb2.mono hB1.out.size))
  clear hb2 r0 r1 g0 g1
  go_wp2_with fail
  refine bodyPost_ret (v := .agg #[.string ⟨#[]⟩, .iface 106 (.agg #[.int .i64 40])]) (by simp [results, Tryz.results42, go_sem, q0, q1]) rfl ⟨rfl, ?_⟩
  exact (hB2.out.setCell (p := ⟨w.heap.size + 1, 0, none⟩) (by simp) _).setCell (p := ⟨w.heap.size + 1, 1, none⟩) (by simp) _

/-- What a round of lay keeps: below n the blocks but its own box; from n on what is no row of bytes. -/
structure KpB (z n : Nat) (W W' : World) : Prop where
  size : W.heap.size ≤ W'.heap.size
  low : ∀ b, b < n → b ≠ z → b < W.heap.size → W'.heap[b]? = W.heap[b]?
  high : ∀ b c t r, n ≤ b → W.heap[b]? = some (.cells c t r) → t ≠ 5 → W'.heap[b]? = some (.cells c t r)
theorem KpB.refl (z n : Nat) (W : World) : KpB z n W W := ⟨Nat.le_refl _, fun _ _ _ _ => rfl, fun _ _ _ _ _ h _ => h⟩
theorem KpB.trans {z n : Nat} {A B C : World} (h : KpB z n A B) (k : KpB z n B C) : KpB z n A C :=
  ⟨Nat.le_trans h.size k.size, fun b h1 h2 h3 => (k.low b h1 h2 (Nat.lt_of_lt_of_le h3 h.size)).trans (h.low b h1 h2 h3), fun b c t r h1 h2 h3 => k.high b c t r h1 (h.high b c t r h1 h2 h3) h3⟩
theorem KpB.below {z n : Nat} {A B : World} (h : Below A.heap.size A B) : KpB z n A B :=
  ⟨h.size, fun b _ _ h3 => h.block b h3, fun b c t r _ h2 _ => (h.block b (lt_of_heap h2)).trans h2⟩
theorem KpB.grown {z n : Nat} {A B : World} {row : Option Nat} (hg : A.grownBy B row) (hr : ∀ r, row = some r → n ≤ r ∧ ∀ c t q, A.heap[r]? = some (.cells c t q) → t = 5) : KpB z n A B :=
  ⟨hg.size, fun b h1 _ h3 => hg.block b h3 (fun e => by have := (hr b e.symm).1; omega), fun b c t r _ h2 h3 => (hg.block b (lt_of_heap h2) (fun e => h3 ((hr b e.symm).2 c t r h2))).trans h2⟩
theorem KpB.set {z n : Nat} (W : World) (v : Value) (hz : z < n) : KpB z n W (W.setCell ⟨z, 0, none⟩ v) :=
  ⟨(grownBy_setCell' W z v).size, fun b _ h2 h3 => (grownBy_setCell' W z v).block b h3 (fun e => h2 (by cases e; rfl)), fun b c t r h1 h2 _ => ((grownBy_setCell' W z v).block b (lt_of_heap h2) (fun e => by cases e; omega)).trans h2⟩
theorem keepB_b {z : Nat} {w : World} (W : World) (l : Nat) (o o' : Obj) (hl : w.heap.size ≤ l) (h : W.heap[l]? = some o) (hc : o.isCells = false) (_ : o.isWalk = false) : KpB z w.heap.size W (W.putObj l o') :=
  KpB.grown (grownBy_putObj' _ l o') (fun r e => by cases e; exact ⟨hl, fun c t q e => by rw [h] at e; cases e; cases hc⟩)
theorem KpB.row {z n : Nat} {A B : World} {v : Value} {k : Nat} {xs : List Value} (hrow : A.ownsRow n 5 1 v k xs) (hg : A.grownBy B v.ownBlock) : KpB z n A B := by
  refine KpB.grown hg (fun r e => ?_)
  rcases hrow.2 with ⟨rfl, _⟩ | ⟨g, cap, cur, rfl, hb, hgb, _⟩
  · simp [Value.ownBlock] at e
  · obtain rfl : g = r := by simpa [Value.ownBlock] using e
    exact ⟨hb, fun c t q e => by rw [hgb] at e; cases e; rfl⟩
theorem KpB.cell {z n : Nat} {A B : World} (h : KpB z n A B) (hn : A.heap.size ≤ n) (a : Addr) (u : Value) (hz : a.block ≠ z) (e : A.cell? a = some u) : B.cell? a = some u := by
  have hb := World.block_lt_of_cell? _ _ e
  have := h.low a.block (by omega) hz hb
  unfold World.cell? at e ⊢
  rw [this]
  exact e
theorem KpB.frozen {z n : Nat} {A B : World} (h : KpB z n A B) (hn : A.heap.size ≤ n) (a : Addr) (hz : a.block ≠ z) (hb : a.block < A.heap.size) : B.frozen? a = A.frozen? a := by
  have := h.low a.block (by omega) hz hb
  unfold World.frozen?
  rw [this]
theorem KpB.box {z : Nat} {w0 : World} (W : World) (cs : Array Value) (W' : World) (h : KpB z w0.heap.size w0 W) (h' : KpB z w0.heap.size (W.alloc (.cells cs 26)) W') (i : Nat) (u : Value) (hu : cs[i]? = some u) : W'.cell? ⟨W.heap.size, i, none⟩ = some u := by
  have := h'.high W.heap.size cs 26 (0, 0) h.size (World.alloc_heap_new W _) (by decide)
  unfold World.cell?
  rw [this]
  simpa using hu
theorem ownsRow_pos {W : World} {base : Nat} {e : TypeId} {size : Nat} {v : Value} {k : Nat} {xs : List Value} (h : W.ownsRow base e size v k xs) (hk : 0 < k) : ∃ g cap, v = .slice (some ⟨g, 0, none⟩) k cap := by
  rcases h.2 with ⟨_, h0⟩ | ⟨g, cap, _, rfl, _⟩
  · omega
  · exact ⟨g, cap, rfl⟩
/-- What lies behind an append to a row of bytes, and the store of it into its box. -/
theorem boxS {W w1 : World} {n₀ B : Nat} {t : TypeId} {v v' : Value} {k m : Nat} {xs ys : List Value} (hv : Boxed W B t v) (hte : t ≠ 5) (hrow : W.ownsRow n₀ 5 1 v k xs) (hown' : w1.ownsRow n₀ 5 1 v' m ys) (hgrow : W.grownBy w1 v.ownBlock) :
    Boxed w1 B t v ∧ Boxed (w1.setCell ⟨B, 0, none⟩ v') B t v' ∧ (w1.setCell ⟨B, 0, none⟩ v').ownsRow n₀ 5 1 v' m ys ∧ KeepsOthers W (w1.setCell ⟨B, 0, none⟩ v') := by
  have hv1 : Boxed w1 B t v := hv.kept hgrow (hv.not_row hte hrow)
  refine ⟨hv1, hv1.set v', hown'.kept (grownBy_setCell' w1 B v') (.inr (hv1.not_row hte hown').symm), ?_⟩
  refine (KeepsOthers.of_grownBy hgrow fun j o ej hj => ?_).trans (KeepsOthers.setCell _ _ _)
  rcases hrow.2 with ⟨rfl, _⟩ | ⟨g, cap, cur, rfl, _, hgb, _⟩
  · simp [Value.ownBlock] at ej
  · obtain rfl : g = j := by simpa [Value.ownBlock] using ej
    rw [hgb] at hj; cases hj; rfl
theorem ownBase {W : World} {n₀ : Nat} {e : TypeId} {v : Value} {k : Nat} {xs : List Value} (hrow : W.ownsRow n₀ e 1 v k xs) (g : Nat) (h : v.ownBlock = some g) : n₀ ≤ g := (hrow.lt g h).1

/-- The bytes of an item's own: its head, its text. -/
def enc1 : Itm → List UInt8
  | .mk k n s l => headL k.toNat (argN k n s l) ++ s
def catY (l : List (Nat × Itm)) : List UInt8 := l.flatMap fun p => enc1 p.2
theorem catY_append (a b : List (Nat × Itm)) : catY (a ++ b) = catY a ++ catY b := by simp [catY]
mutual
theorem catY_flat : ∀ (d : Nat) (x : Itm), catY (flat d x) = encI x
  | d, .mk k n s l => by
    rw [flat, encI, ← catY_flats (d + 1) l]
    simp [catY, enc1]
theorem catY_flats : ∀ (d : Nat) (l : List Itm), catY (flats d l) = encIs l
  | _, [] => rfl
  | d, x :: r => by rw [flats, encIs, catY_append, catY_flat d x, catY_flats d r]
end
theorem heap_cell {W : World} {B : Nat} {cs : Array Value} {t : TypeId} (h : W.heap[B]? = some (.cells cs t (0, 0))) (i : Nat) (u : Value) (hu : cs[i]? = some u) : W.cell? ⟨B, i, none⟩ = some u := by
  unfold World.cell?
  rw [h]
  simpa using hu
theorem item_row {W : World} {B : Nat} {cs : Array Value} {r : Nat × Nat} {base k : Nat} {v : Value} {xs : List Value} (h : W.heap[B]? = some (.cells cs 26 r)) (hr : W.ownsRow base 5 1 v k xs) : some B ≠ v.ownBlock := by
  rcases hr.2 with ⟨rfl, _⟩ | ⟨g, cap, cur, rfl, _, hgb, _⟩
  · simp [Value.ownBlock]
  · intro e'
    obtain rfl : B = g := by simpa [Value.ownBlock] using e'
    rw [hgb] at h
    simp at h
theorem ownsRow_belowL {w w' : World} {base : Nat} {e : TypeId} {size : Nat} {v : Value} {n : Nat} {xs : List Value} (h : w.ownsRow base e size v n xs) (hb : Below w.heap.size w w') : w'.ownsRow base e size v n xs := by
  have hg : w.grownBy w' none := ⟨hb.os, hb.tape, hb.output, hb.size, fun k hk _ => hb.block k hk⟩
  refine h.kept hg ?_
  by_cases e : v.ownBlock = none
  · exact .inl e
  · exact .inr e
/-- A byte as a cell. -/
def bvl (b : UInt8) : Value := .int .u8 (b.toNat : Int)
theorem strCells_bvl (s : ByteArray) : Lib.strCells s = s.data.toList.map bvl := rfl
theorem arg_own {k n : Int} {s : List UInt8} {l : List Itm} (h : ownB k n s l = true) : (if k = 4 then (l.length : Int) else if k = 0 then n else (s.length : Int)) = ((argN k n s l : Nat) : Int) := by
  rcases ownB_cases h with ⟨N, rfl, rfl, hN, rfl, rfl⟩ | ⟨rfl, rfl, hs6, rfl⟩ | ⟨rfl, rfl, hs6, rfl, ht⟩ | ⟨rfl, rfl, rfl⟩ <;> simp [argN]
theorem henc_own {k n : Int} {s : List UInt8} {l : List Itm} (h : ownB k n s l = true) (hl : l.length ≤ 60) : hencR k ((argN k n s l : Nat) : Int) = (⟨(headL k.toNat (argN k n s l)).toArray⟩, 0) := by
  rcases ownB_cases h with ⟨N, rfl, rfl, hN, rfl, rfl⟩ | ⟨rfl, rfl, hs6, rfl⟩ | ⟨rfl, rfl, hs6, rfl, ht⟩ | ⟨rfl, rfl, rfl⟩
  · exact hencR_of (M := 0) (by decide) (by simp [argN]; omega)
  · exact hencR_of (M := 2) (by decide) (by simp [argN]; omega)
  · exact hencR_of (M := 3) (by decide) (by simp [argN]; omega)
  · exact hencR_of (M := 4) (by decide) (by simp [argN]; omega)
theorem lay_row {W : World} {n₀ n3 n5 : Nat} {v : Value} {L hdl ys T : List UInt8} (hrow : W.ownsRow n₀ 5 1 v n5 (L.map bvl ++ Lib.strCells ⟨hdl.toArray⟩ ++ Lib.strCells ⟨ys.toArray⟩)) (hT : T = L ++ (hdl ++ ys)) (h3 : L.length + (⟨hdl.toArray⟩ : ByteArray).size = n3) (h5 : n3 + (⟨ys.toArray⟩ : ByteArray).size = n5) : W.ownsRow n₀ 5 1 v T.length (T.map bvl) := by
  have e1 : T.length = n5 := by
    rw [hT, ← h5, ← h3]
    simp [ByteArray.size]
    omega
  have e2 : T.map bvl = L.map bvl ++ Lib.strCells ⟨hdl.toArray⟩ ++ Lib.strCells ⟨ys.toArray⟩ := by
    rw [hT, strCells_bvl, strCells_bvl]
    simp
  rw [e1, e2]
  exact hrow
theorem conv_ownL {w : World} {base : Nat} {v : Value} {l : List UInt8} (h : w.ownsRow base 5 1 v l.length (l.map bvl)) : (convert 110 9 v).run Tryz.prog w = .ok (.string ⟨l.toArray⟩) w := by
  have h' := h
  rcases h'.2 with ⟨rfl, h0⟩ | ⟨g, cap, cur, rfl, _⟩
  · have : l = [] := List.eq_nil_of_length_eq_zero h0
    subst this
    exact run_convert_bytes_nil w _ 5 Tryz.underlying110 Tryz.underlying5 0 0 _ Tryz.underlying9
  · refine run_convert_bytes_back w _ _ 5 _ cap l Tryz.underlying110 Tryz.underlying5 Tryz.underlying9 ?_
    intro j hj
    exact h.cells (g := g) rfl j _ (by simp [hj, bvl])
theorem lay_res {B : Nat} {x0 x1 : Value} {W : World} {tmps : Array Value} (h0 : W.cell? ⟨B, 0, none⟩ = some x0) (h1 : W.cell? ⟨B, 1, none⟩ = some x1) (h2 : tmps[2]?.getD undef = .pointer (some ⟨B, 0, none⟩) := by rfl) : (results Tryz.f42 tmps).run Tryz.prog W = .ok (.agg #[x0, x1]) W := by
  simp [results, Tryz.results42, go_sem, h2, h0, h1]
/-- What is right alone and has few enough in it. -/
def PYl (x : Itm) : Prop := okI x = true ∧ cnt x ≤ 60
theorem PYl.mem (k n : Int) (s : List UInt8) (l : List Itm) (h : PYl (.mk k n s l)) (x : Itm) (hx : x ∈ l) : PYl x := by
  unfold PYl at h ⊢
  simp only [okI, Bool.and_eq_true, cnt] at h
  exact ⟨okIs_mem hx h.1.2, by have := cnt_mem hx; omega⟩
theorem enc1_len {x : Itm} (h : PYl x) : 1 ≤ (enc1 x).length ∧ (enc1 x).length ≤ 609 := by
  obtain ⟨k, n, s, l⟩ := x
  unfold PYl at h
  simp only [okI, Bool.and_eq_true] at h
  have := own_len h.1.1
  have h3 := headL_length k.toNat (argN k n s l)
  have h4 := wid_le (argN k n s l)
  simp only [enc1, List.length_append]
  omega
theorem catYl_len {ok : Nat → Prop} {w0 : World} : ∀ (ys : List (Yl PYl ok w0)), (catY (ys.map Yl.key)).length ≤ 609 * ys.length
  | [] => by simp [catY]
  | y :: r => by
    have h1 := catYl_len r
    have h2 := (enc1_len y.q).2
    have e : catY ((y :: r).map Yl.key) = enc1 y.x ++ catY (r.map Yl.key) := by simp [catY, Yl.key]
    rw [e, List.length_append, List.length_cons]
    omega

set_option maxRecDepth 100000 in
set_option maxHeartbeats 4000000 in
theorem lay_yes (ok0 : Nat → Prop) (k n : Int) (s : List UInt8) (l : List Itm) (p : Option Addr) (cap : Nat) (w : World) (hH : HeadOK w) (hx : ItV ok0 w (.mk k n s l) (.agg #[.int .i64 k, .int .i64 n, .string ⟨s.toArray⟩, .slice p l.length cap])) (hd : dep (.mk k n s l) ≤ 900) (hr : rightI (.mk k n s l) = true) :
    Calls Tryz.prog 42 #[.agg #[.int .i64 k, .int .i64 n, .string ⟨s.toArray⟩, .slice p l.length cap]] w fun e w' => e = .returned (.agg #[.string ⟨(encI (.mk k n s l)).toArray⟩, .nilIface]) ∧ Below w.heap.size w w' := by
  obtain ⟨i0, hi, hz0, hz1, hz2⟩ := info_parts u8_info
  have HX := Lib.hid hx
  have HR := Lib.hid hr
  have HH := Lib.hid hH
  clear hx hr hH
  refine (callsIn_wide (n := 9)).1 ?_
  refine callsIn_of_wp_marks Tryz.func42 rfl trivial ?_ rfl
  simp only [Tryz.ntmps42, List.size_toArray, List.length_cons, List.length_nil, Nat.reduceAdd, Nat.reduceSub, Array.replicate_succ, Array.replicate_zero, List.push_toArray, List.append_toArray, List.nil_append, List.cons_append]
  gi_wp2
  have hB0 : Below w.heap.size w ((w.alloc (.cells #[.int .i64 k, .int .i64 n, .string ⟨s.toArray⟩, .slice p l.length cap] 26)).alloc (.cells #[.string ⟨#[]⟩, .nilIface] 79)) := ((Below.refl _ w).alloc (Nat.le_refl _) _).alloc (by simp) _
  refine ⟨trivial, ?_⟩
  refine (callsIn_wide.2 (iright_any ok0 _ _ _ (HX.out.below hB0) hd)).mono ?_
  rintro e w1 ⟨rfl, hb1⟩
  rw [HR.out]
  have x0 : w1.cell? ⟨w.heap.size, 0, none⟩ = some (.int .i64 k) := (hb1.cell (p := ⟨w.heap.size, 0, none⟩) (by simp; omega)).trans (by go_simp)
  have x1 : w1.cell? ⟨w.heap.size, 1, none⟩ = some (.int .i64 n) := (hb1.cell (p := ⟨w.heap.size, 1, none⟩) (by simp; omega)).trans (by go_simp)
  have x2 : w1.cell? ⟨w.heap.size, 2, none⟩ = some (.string ⟨s.toArray⟩) := (hb1.cell (p := ⟨w.heap.size, 2, none⟩) (by simp; omega)).trans (by go_simp)
  have x3 : w1.cell? ⟨w.heap.size, 3, none⟩ = some (.slice p l.length cap) := (hb1.cell (p := ⟨w.heap.size, 3, none⟩) (by simp; omega)).trans (by go_simp)
  have r0 : w1.cell? ⟨w.heap.size + 1, 0, none⟩ = some (.string ⟨#[]⟩) := (hb1.cell (p := ⟨w.heap.size + 1, 0, none⟩) (by simp)).trans (by go_simp)
  have r1 : w1.cell? ⟨w.heap.size + 1, 1, none⟩ = some .nilIface := (hb1.cell (p := ⟨w.heap.size + 1, 1, none⟩) (by simp)).trans (by go_simp)
  have g0 : w1.frozen? ⟨w.heap.size + 1, 0, none⟩ = false := (hb1.frozen (p := ⟨w.heap.size + 1, 0, none⟩) (by simp)).trans (by go_simp)
  have g1 : w1.frozen? ⟨w.heap.size + 1, 1, none⟩ = false := (hb1.frozen (p := ⟨w.heap.size + 1, 1, none⟩) (by simp)).trans (by go_simp)
  have hB1 := hB0.trans (hb1.mono hB0.size)
  have hzz : w.heap.size + 1 < w1.heap.size := World.block_lt_of_cell? _ _ r0
  clear hb1 hB0
  replace x0 := cell_alloc_l (.cells #[.slice none 0 0] 110) x0
  replace x1 := cell_alloc_l (.cells #[.slice none 0 0] 110) x1
  replace x2 := cell_alloc_l (.cells #[.slice none 0 0] 110) x2
  replace x3 := cell_alloc_l (.cells #[.slice none 0 0] 110) x3
  have hzx : w.heap.size < w1.heap.size := by omega
  have hzn : w.heap.size ≠ w1.heap.size := by omega
  gi_wp2
  refine ⟨trivial, ?_⟩
  refine (within_in _ 1 1 1 _ _).mono ?_
  rintro e w' ⟨rfl, rfl⟩
  gi_wp2
  clear x0 x1 x2 x3
  have hB2 : Below w.heap.size w ((((w1.alloc (.cells #[.slice none 0 0] 110)).alloc (.cells #[.int .i64 k, .int .i64 n, .string ⟨s.toArray⟩, .slice p l.length cap] 26)).alloc (.cells #[.int .i64 1] 3)).alloc (.cells #[.slice (some ⟨w1.heap.size + 1, 0, none⟩) 1 1] 24)) := ((((hB1.alloc hB1.size _).alloc (by simp; omega) _).alloc (by simp; omega) _).alloc (by simp; omega) _)
  have hBw : Below w1.heap.size w1 ((((w1.alloc (.cells #[.slice none 0 0] 110)).alloc (.cells #[.int .i64 k, .int .i64 n, .string ⟨s.toArray⟩, .slice p l.length cap] 26)).alloc (.cells #[.int .i64 1] 3)).alloc (.cells #[.slice (some ⟨w1.heap.size + 1, 0, none⟩) 1 1] 24)) := (((((Below.refl _ w1).alloc (Nat.le_refl _) _).alloc (by simp) _).alloc (by simp; omega) _).alloc (by simp; omega) _)
  have hsz : ((((w1.alloc (.cells #[.slice none 0 0] 110)).alloc (.cells #[.int .i64 k, .int .i64 n, .string ⟨s.toArray⟩, .slice p l.length cap] 26)).alloc (.cells #[.int .i64 1] 3)).alloc (.cells #[.slice (some ⟨w1.heap.size + 1, 0, none⟩) 1 1] 24)).heap.size = w1.heap.size + 1 + 1 + 1 + 1 := by simp
  have d0 : ((((w1.alloc (.cells #[.slice none 0 0] 110)).alloc (.cells #[.int .i64 k, .int .i64 n, .string ⟨s.toArray⟩, .slice p l.length cap] 26)).alloc (.cells #[.int .i64 1] 3)).alloc (.cells #[.slice (some ⟨w1.heap.size + 1, 0, none⟩) 1 1] 24)).cell? ⟨w1.heap.size + 1, 0, none⟩ = some (.int .i64 k) := by go_simp
  have d1 : ((((w1.alloc (.cells #[.slice none 0 0] 110)).alloc (.cells #[.int .i64 k, .int .i64 n, .string ⟨s.toArray⟩, .slice p l.length cap] 26)).alloc (.cells #[.int .i64 1] 3)).alloc (.cells #[.slice (some ⟨w1.heap.size + 1, 0, none⟩) 1 1] 24)).cell? ⟨w1.heap.size + 1, 1, none⟩ = some (.int .i64 n) := by go_simp
  have d2 : ((((w1.alloc (.cells #[.slice none 0 0] 110)).alloc (.cells #[.int .i64 k, .int .i64 n, .string ⟨s.toArray⟩, .slice p l.length cap] 26)).alloc (.cells #[.int .i64 1] 3)).alloc (.cells #[.slice (some ⟨w1.heap.size + 1, 0, none⟩) 1 1] 24)).cell? ⟨w1.heap.size + 1, 2, none⟩ = some (.string ⟨s.toArray⟩) := by go_simp
  have d3 : ((((w1.alloc (.cells #[.slice none 0 0] 110)).alloc (.cells #[.int .i64 k, .int .i64 n, .string ⟨s.toArray⟩, .slice p l.length cap] 26)).alloc (.cells #[.int .i64 1] 3)).alloc (.cells #[.slice (some ⟨w1.heap.size + 1, 0, none⟩) 1 1] 24)).cell? ⟨w1.heap.size + 1, 3, none⟩ = some (.slice p l.length cap) := by go_simp
  have c1 : ((((w1.alloc (.cells #[.slice none 0 0] 110)).alloc (.cells #[.int .i64 k, .int .i64 n, .string ⟨s.toArray⟩, .slice p l.length cap] 26)).alloc (.cells #[.int .i64 1] 3)).alloc (.cells #[.slice (some ⟨w1.heap.size + 1, 0, none⟩) 1 1] 24)).cell? ⟨w1.heap.size, 0, none⟩ = some (.slice none 0 0) := by go_simp
  have f1 : ((((w1.alloc (.cells #[.slice none 0 0] 110)).alloc (.cells #[.int .i64 k, .int .i64 n, .string ⟨s.toArray⟩, .slice p l.length cap] 26)).alloc (.cells #[.int .i64 1] 3)).alloc (.cells #[.slice (some ⟨w1.heap.size + 1, 0, none⟩) 1 1] 24)).frozen? ⟨w1.heap.size, 0, none⟩ = false := by go_simp
  have c4 : ((((w1.alloc (.cells #[.slice none 0 0] 110)).alloc (.cells #[.int .i64 k, .int .i64 n, .string ⟨s.toArray⟩, .slice p l.length cap] 26)).alloc (.cells #[.int .i64 1] 3)).alloc (.cells #[.slice (some ⟨w1.heap.size + 1, 0, none⟩) 1 1] 24)).cell? ⟨w1.heap.size + 1 + 1, 0, none⟩ = some (.int .i64 ((1 : Nat) : Int)) := by go_simp
  have c5 : ((((w1.alloc (.cells #[.slice none 0 0] 110)).alloc (.cells #[.int .i64 k, .int .i64 n, .string ⟨s.toArray⟩, .slice p l.length cap] 26)).alloc (.cells #[.int .i64 1] 3)).alloc (.cells #[.slice (some ⟨w1.heap.size + 1, 0, none⟩) 1 1] 24)).cell? ⟨w1.heap.size + 1 + 1 + 1, 0, none⟩ = some (.slice (some ⟨w1.heap.size + 1, 0, none⟩) 1 1) := by go_simp
  have hbx : Boxed ((((w1.alloc (.cells #[.slice none 0 0] 110)).alloc (.cells #[.int .i64 k, .int .i64 n, .string ⟨s.toArray⟩, .slice p l.length cap] 26)).alloc (.cells #[.int .i64 1] 3)).alloc (.cells #[.slice (some ⟨w1.heap.size + 1, 0, none⟩) 1 1] 24)) w1.heap.size 110 (.slice none 0 0) := (((Boxed.new w1 _ _).alloc _).alloc _).alloc _
  have R0 := (hBw.cell (p := ⟨w.heap.size + 1, 0, none⟩) hzz).trans r0
  have R1 := (hBw.cell (p := ⟨w.heap.size + 1, 1, none⟩) hzz).trans r1
  have G0 := (hBw.frozen (p := ⟨w.heap.size + 1, 0, none⟩) hzz).trans g0
  have G1 := (hBw.frozen (p := ⟨w.heap.size + 1, 1, none⟩) hzz).trans g1
  generalize ((((w1.alloc (.cells #[.slice none 0 0] 110)).alloc (.cells #[.int .i64 k, .int .i64 n, .string ⟨s.toArray⟩, .slice p l.length cap] 26)).alloc (.cells #[.int .i64 1] 3)).alloc (.cells #[.slice (some ⟨w1.heap.size + 1, 0, none⟩) 1 1] 24)) = w0 at *
  clear r0 r1 g0 g1
  have hwz : w.heap.size ≤ w1.heap.size := by omega
  have HH0 := Lib.hid (HH.out.below hB2)
  generalize w1.heap.size = z at *
  have hx0 : ItV (fun b => b ≠ z) w0 (.mk k n s l) (.agg #[.int .i64 k, .int .i64 n, .string ⟨s.toArray⟩, .slice p l.length cap]) :=
    ItV.keep (fun a u _ e => by have hlt := World.block_lt_of_cell? _ _ e; exact ⟨(hB2.cell hlt).trans e, by omega⟩) _ _ HX.out
  have hI0 := its_one (B := z + 1) (by omega) d0 d1 d2 d3 hx0
  have hmix : Tryz.prog.follows .mixedOrders = true := by kernel_rfl
  have hPY : PYl (.mk k n s l) := ⟨((rightI_iff _).1 HR.out).1, ((rightI_iff _).1 HR.out).2.2⟩
  have hcn : cnts [.mk k n s l] ≤ 60 := by have := hPY.2; simp only [cnts]; omega
  clear hx0 d0 d1 d2 d3 c1 f1 hBw
  refine wpIn_rangeFunc_ownH rfl (by omega) (gf := 71) (lb := #[.pointer (some ⟨z + 1 + 1, 0, none⟩), .pointer (some ⟨z + 1 + 1 + 1, 0, none⟩)]) rfl trivial (enters_of Tryz.func71 (by kernel_rfl) rfl)
    (within_stops _ PYl PYl.mem (fun b => b ≠ z) w0 (KpB z w0.heap.size) (KpB.refl _ _) KpB.trans (fun W o _ => KpB.below ((Below.refl _ _).alloc (Nat.le_refl _) _)) (fun W h a u ha e => h.cell (Nat.le_refl _) a u ha e) KpB.box (fun W h => KpB.below h) 900 (some ⟨z + 1, 0, none⟩) 1 1 [.mk k n s l] 1 rfl (by simp only [deps]; omega) (by omega) (by decide) hI0 (fun x hx => by rw [List.mem_singleton.1 hx]; exact hPY) _ _ (by omega) (by omega) c4 c5) KpB.trans (keepB_b (w := w0)) (Below.refl _ _) (fun _ => rfl)
    (fun pre W => ((∃ v, Boxed W z 110 v ∧ W.ownsRow w0.heap.size 5 1 v (catY (pre.map Yl.key)).length ((catY (pre.map Yl.key)).map bvl)) ∧ KpB z w0.heap.size w0 W) ∧ Below w.heap.size w W)
    (fun _ _ _ => False)
    (OwnFrom.and (fun s A B row hs hg hr => ⟨by
      obtain ⟨v, hv, hrow⟩ := hs.1
      obtain ⟨v', hv', hrow', _⟩ := holdsRow_own w0.heap.size z 110 5 1 (fun _ : Unit => (catY (s.map Yl.key)).length) (fun _ => (catY (s.map Yl.key)).map bvl) (fun _ _ => True) () A B row ⟨v, hv, hrow, trivial⟩ hg (fun r e => (hr r e).2)
      exact ⟨v', hv', hrow'⟩, hs.2.trans (KpB.grown hg (fun r e => ⟨(hr r e).1, fun c t q e' => by obtain ⟨o, ho, hc⟩ := (hr r e).2; rw [ho] at e'; cases e'; cases hc⟩))⟩) (ownFrom_below (Nat.le_refl _) (by omega)))
    (fun c s A B row hs _ _ => hs)
    ⟨⟨⟨_, hbx, World.ownsRow_nil _ _ _ _⟩, KpB.refl _ _ _⟩, hB2⟩
    (fun y a' W => ∃ B : Nat, ∃ v0 v1 v2 v3 : Value, y.v = .agg #[v0, v1, v2, v3] ∧ w0.heap.size ≤ B ∧ a' = { tmps := #[.agg #[.int .i64 k, .int .i64 n, .string ⟨s.toArray⟩, .slice p l.length cap], .pointer (some ⟨w.heap.size, 0, none⟩), .pointer (some ⟨w.heap.size + 1, 0, none⟩), .pointer (some ⟨z, 0, none⟩), undef, .pointer (some ⟨B, 0, none⟩), undef, undef, .agg #[.int .i64 k, .int .i64 n, .string ⟨s.toArray⟩, .slice p l.length cap], .bool true, .bool false, undef, undef, undef, .agg #[.int .i64 k, .int .i64 n, .string ⟨s.toArray⟩, .slice p l.length cap], .slice (some ⟨z + 1, 0, none⟩) 1 1, .func (.func 71) #[] #[.pointer (some ⟨z + 1 + 1, 0, none⟩), .pointer (some ⟨z + 1 + 1 + 1, 0, none⟩)], .int .i64 (y.d : Int), .agg #[v0, v1, v2, v3], undef, undef, undef, undef, undef, undef, undef, undef, undef, undef, undef, undef, undef, undef, undef, undef, undef, undef], defers := [] } ∧ W.heap[B]? = some (.cells #[v0, v1, v2, v3] 26 (0, 0)))
    (fun y a' => Own.from (fun s A B row hs hg hr => by
      obtain ⟨b, v0, v1, v2, v3, h1, h1', h2, h3⟩ := hs
      exact ⟨b, v0, v1, v2, v3, h1, h1', h2, (hg.block b (lt_of_heap h3) (fun e => by obtain ⟨o, ho, hc⟩ := hr b e.symm; rw [h3] at ho; cases ho; cases hc)).trans h3⟩) _) ?assign ?body ?done ?stop
  case assign =>
    rintro l' pre y W K ⟨⟨⟨v, hv, hrow⟩, h7⟩, hB⟩ hK
    obtain ⟨yk, yn, ys, yl, yp, yc, hyx, hyv, _⟩ := y.shape
    have k1 := hv.alloc (.cells #[.int .i64 yk, .int .i64 yn, .string ⟨ys.toArray⟩, .slice yp yl.length yc] 26)
    have k2 := hrow.alloc (.cells #[.int .i64 yk, .int .i64 yn, .string ⟨ys.toArray⟩, .slice yp yl.length yc] 26)
    have H1 := Lib.hid k1
    have H2 := Lib.hid k2
    have H7 := Lib.hid h7
    clear hv hrow h7 c4 c5 k1 k2
    simp only [hyv]
    gi_wp2
    exact hK _ _ ((KeepsOthers.alloc _ _).from _) (KpB.below ((Below.refl _ _).alloc (Nat.le_refl _) _)) ⟨⟨⟨_, H1.out, H2.out⟩, H7.out.trans (KpB.below ((Below.refl _ _).alloc (Nat.le_refl _) _))⟩, hB.alloc hB.size _⟩ ⟨W.heap.size, _, _, _, _, hyv, H7.out.size, rfl, World.alloc_heap_new W _⟩
  case body =>
    rintro l' pre y a' W _ _ ⟨⟨⟨v, hv, hrow⟩, h7⟩, hB⟩ ⟨B, v0, v1, v2, v3, hyv', hBl, rfl, hbox⟩ hlen
    clear c4 c5
    obtain ⟨yk, yn, ys, yl, yp, yc, hyx, hyv, hys⟩ := y.shape
    rw [hyv] at hyv'
    simp only [Value.agg.injEq, Array.mk.injEq, List.cons.injEq, and_true] at hyv'
    obtain ⟨rfl, rfl, rfl, rfl⟩ := hyv'
    have e0 := heap_cell hbox 0 _ rfl
    have e1 := heap_cell hbox 1 _ rfl
    have e2 := heap_cell hbox 2 _ rfl
    have e3 := heap_cell hbox 3 _ rfl
    have HBOX := Lib.hid hbox
    have hyk : catY ((pre ++ [y]).map Yl.key) = catY (pre.map Yl.key) ++ (headL yk.toNat (argN yk yn ys yl) ++ ys) := by
      rw [List.map_append, catY_append]
      congr 1
      simp [catY, Yl.key, hyx, enc1]
    have HYK := Lib.hid hyk
    have hLl := catYl_len pre
    have hhl := headL_length yk.toNat (argN yk yn ys yl)
    have hhw := wid_le (argN yk yn ys yl)
    clear hbox hyk
    have hq := y.q
    rw [hyx] at hq
    have ho : ownB yk yn ys yl = true := by have := hq.1; simp only [okI, Bool.and_eq_true] at this; exact this.1
    have hy6 := own_len ho
    have HA := Lib.hid (arg_own ho)
    have HE := Lib.hid (henc_own ho (by have h2 := hq.2; have := cnts_length yl; simp only [cnt] at h2; omega))
    have H7 := Lib.hid h7
    have HROW := Lib.hid hrow
    have HV := Lib.hid hv
    have HB := Lib.hid hB
    have hbl : B < W.heap.size := World.block_lt_of_cell? _ _ e0
    have hvc := hv.cell
    have hvf := hv.frozen
    have hzB : z ≠ B := by omega
    have hzW : z < W.heap.size := hv.lt
    have HHW := Lib.hid (HH.out.below hB)
    clear hq ho h7 hrow hv hB
    gi_wp2
    gi_region_with_o (first
      | (refine ⟨trivial, ?_⟩; gi_at_call 69; refine (CallsIn.inRound l' (callsIn_wide.2 (iarg_any _ _ _ _ _ _ _))).mono ?_; rintro e w1 ⟨rfl, hb1⟩; rw [HA.out]; have e0' : w1.cell? ⟨B, 0, none⟩ = some (.int .i64 yk) := (hb1.cell (p := ⟨B, 0, none⟩) (by simp <;> omega)).trans (by simpa using e0); have hW1 : Below W.heap.size W w1 := (Below.refl W.heap.size W).drew.trans (hb1.mono (by simp)))
      | (refine ⟨trivial, ?_⟩; gi_at_call 68; refine (CallsIn.inRound l' (callsIn_wide.2 (hencode_any _ _ _ (HHW.out.below hW1)))).mono ?_; rintro e w2 ⟨rfl, hb2⟩; rw [HE.out]))
    all_goals
      have hW2 : Below W.heap.size W w2 := hW1.trans (hb2.mono hW1.size)
      have hv2 : Boxed w2 z 110 v := (hW2.block z hzW).trans HV.out
      have hrow2 := ownsRow_belowL HROW.out hW2
      have hbox2 := (hW2.block B hbl).trans HBOX.out
      have e22 := heap_cell hbox2 2 _ rfl
      have hvc2 := hv2.cell
      have hvf2 := hv2.frozen
      have HW2 := Lib.hid hW2
      have hs02 : w0.heap.size ≤ w2.heap.size := by have := hW2.size; omega
      clear hb1 hb2 hW1 hW2 e0' e0 e1 e2 e3 hvc hvf HV HROW HBOX HA HE HHW
      generalize hLL : catY (pre.map Yl.key) = L at *
      generalize headL yk.toNat (argN yk yn ys yl) = hdl at *
      have hsz1 : (⟨hdl.toArray⟩ : ByteArray).size = hdl.length := by simp [ByteArray.size]
      have hsz2 : (⟨ys.toArray⟩ : ByteArray).size = ys.length := by simp [ByteArray.size]
      have hh1 : 1 ≤ hdl.length := by omega
      have hh9 : hdl.length ≤ 9 := by omega
      have hL9 : L.length ≤ 36540 := by omega
      have HS1 := Lib.hid hsz1
      have HS2 := Lib.hid hsz2
      clear hhl hhw hsz1 hsz2
      gi_wp2_with (first
        | (gi_at_builtin; refine wpListIn_append_str _ rfl _ _ 110 9 rfl w0.heap.size 5 i0 Tryz.underlying110 Tryz.underlying9 hi hz0 hz1 hz2 _ _ _ rfl row4 ⟨ys.toArray⟩ rfl (by have := HS2.out; unfold maxLen; omega) (by have := HS2.out; omega) hs04 ?_; intro v5 w5 hown5 hgrow5; obtain ⟨n5, hn5⟩ : ∃ n5, n3 + (⟨ys.toArray⟩ : ByteArray).size = n5 := ⟨_, rfl⟩; rw [hn5] at hown5; obtain ⟨g5, cap5, rfl⟩ := ownsRow_pos hown5 (by omega); obtain ⟨bx5, bx6, row6, ko6⟩ := boxS bx4 (by decide) row4 hown5 hgrow5; have hc5 := bx5.cell; have hf5 := bx5.frozen; have HN5 := Lib.hid hn5; clear hn5)
        | (gi_at_builtin; refine wpListIn_append_str _ rfl _ _ 110 9 rfl w0.heap.size 5 i0 Tryz.underlying110 Tryz.underlying9 hi hz0 hz1 hz2 _ _ _ rfl hrow2 ⟨hdl.toArray⟩ rfl (by have := HS1.out; unfold maxLen; omega) (by have := HS1.out; omega) hs02 ?_; intro v3 w3 hown3 hgrow3; obtain ⟨n3, hn3⟩ : ∃ n3, L.length + (⟨hdl.toArray⟩ : ByteArray).size = n3 := ⟨_, rfl⟩; rw [hn3] at hown3; have hn3a : 1 ≤ n3 := (by have := HS1.out; omega); have hn3b : n3 ≤ 36549 := (by have := HS1.out; omega); obtain ⟨g3, cap3, rfl⟩ := ownsRow_pos hown3 (by omega); obtain ⟨bx3, bx4, row4, ko4⟩ := boxS hv2 (by decide) hrow2 hown3 hgrow3; have hc3 := bx3.cell; have hf3 := bx3.frozen; have hbox3 := (hgrow3.block B (lt_of_heap hbox2) (item_row hbox2 hrow2)).trans hbox2; have e23 := heap_cell hbox3 2 _ rfl; have hs04 : w0.heap.size ≤ (w3.setCell ⟨z, 0, none⟩ (.slice (some ⟨g3, 0, none⟩) n3 cap3)).heap.size := Nat.le_trans hs02 ko4.size; have HN3 := Lib.hid hn3; clear hvc2 hvf2 e22 hn3))
      have hzn : z < w0.heap.size := by omega
      have hwn : w.heap.size ≤ w0.heap.size := by omega
      have hk6 : KpB z w0.heap.size W (w5.setCell ⟨z, 0, none⟩ (.slice (some ⟨g5, 0, none⟩) n5 cap5)) := (KpB.below HW2.out).trans (((KpB.row hrow2 hgrow3).trans (KpB.set w3 _ hzn)).trans ((KpB.row row4 hgrow5).trans (KpB.set w5 _ hzn)))
      have hB2 := HB.out.trans (HW2.out.mono HB.out.size)
      have hB3 := hB2.grown hgrow3 hB2.size (fun g e => Nat.le_trans hwn (ownBase hrow2 g e))
      have hB4 := hB3.setCell (p := ⟨z, 0, none⟩) hwz (.slice (some ⟨g3, 0, none⟩) n3 cap3)
      have hB5 := hB4.grown hgrow5 hB4.size (fun g e => Nat.le_trans hwn (ownBase row4 g e))
      have hB6 := hB5.setCell (p := ⟨z, 0, none⟩) hwz (.slice (some ⟨g5, 0, none⟩) n5 cap5)
      exact ⟨((keeps_below HW2.out).trans (ko4.trans ko6)).from _, hk6, ⟨⟨_, bx6, lay_row row6 HYK.out HN3.out HN5.out⟩, H7.out.trans hk6⟩, hB6⟩
  case done =>
    rintro D ys W hD hys ⟨⟨⟨v, hv, hrow⟩, h7⟩, hB⟩ hK
    have hcat : catY (ys.map Yl.key) = encI (.mk k n s l) := by rw [hys, flats_one, catY_flat]
    obtain ⟨y, hy⟩ : ∃ y, encI (.mk k n s l) = y := ⟨_, rfl⟩
    rw [hy] at hcat
    rw [hcat] at hrow
    obtain ⟨g, cp, rfl⟩ := ownsRow_pos hrow (by rw [← hy]; exact encI_cons _)
    have HY := Lib.hid hy
    clear hy
    have hcv := conv_ownL hrow
    have hvc := hv.cell
    have hvf := hv.frozen
    have hsm : w.heap.size + 1 < W.heap.size := by have := h7.size; omega
    have u0 := h7.cell (Nat.le_refl _) _ _ (by show w.heap.size + 1 ≠ z; omega) R0
    have u1 := h7.cell (Nat.le_refl _) _ _ (by show w.heap.size + 1 ≠ z; omega) R1
    have t0 := (h7.frozen (Nat.le_refl _) ⟨w.heap.size + 1, 0, none⟩ (by show w.heap.size + 1 ≠ z; omega) (by show w.heap.size + 1 < _; omega)).trans G0
    have t1 := (h7.frozen (Nat.le_refl _) ⟨w.heap.size + 1, 1, none⟩ (by show w.heap.size + 1 ≠ z; omega) (by show w.heap.size + 1 < _; omega)).trans G1
    have hDW : D < W.heap.size := lt_of_heap hK
    have HB := Lib.hid hB
    clear hys hcat hrow h7 hB c4 c5 R0 R1 G0 G1 hv
    gi_wp2
    refine ⟨trivial, ?_⟩
    refine (callsIn_wide.2 (igoods_any _ _)).mono ?_
    rintro e w8 ⟨rfl, hb8⟩
    have q0 : w8.cell? ⟨w.heap.size + 1, 0, none⟩ = some (.string ⟨#[]⟩) := (hb8.cell (p := ⟨w.heap.size + 1, 0, none⟩) hsm).trans u0
    have q1 : w8.cell? ⟨w.heap.size + 1, 1, none⟩ = some .nilIface := (hb8.cell (p := ⟨w.heap.size + 1, 1, none⟩) hsm).trans u1
    have p0 : w8.frozen? ⟨w.heap.size + 1, 0, none⟩ = false := (hb8.frozen (p := ⟨w.heap.size + 1, 0, none⟩) hsm).trans t0
    have p1 : w8.frozen? ⟨w.heap.size + 1, 1, none⟩ = false := (hb8.frozen (p := ⟨w.heap.size + 1, 1, none⟩) hsm).trans t1
    have hK8 := (hb8.block D hDW).trans hK
    have hB8 := Lib.hid (HB.out.trans (hb8.mono HB.out.size))
    clear hb8 u0 u1 t0 t1 hK
    gi_wp2
    refine ⟨by simp, .inl ?_⟩
    have hK9 : ((w8.setCell ⟨w.heap.size + 1, 0, none⟩ (.string ⟨y.toArray⟩)).setCell ⟨w.heap.size + 1, 1, none⟩ .nilIface).heap[D]? = some (.deferred (some [])) := by
      rw [Below.heap_setCell _ _ _ _ (by simp; omega), Below.heap_setCell _ _ _ _ (by simp; omega)]
      exact hK8
    obtain ⟨s0, s1⟩ : ((w8.setCell ⟨w.heap.size + 1, 0, none⟩ (.string ⟨y.toArray⟩)).setCell ⟨w.heap.size + 1, 1, none⟩ .nilIface).cell? ⟨w.heap.size + 1, 0, none⟩ = some (.string ⟨y.toArray⟩) ∧ ((w8.setCell ⟨w.heap.size + 1, 0, none⟩ (.string ⟨y.toArray⟩)).setCell ⟨w.heap.size + 1, 1, none⟩ .nilIface).cell? ⟨w.heap.size + 1, 1, none⟩ = some .nilIface := by
      constructor <;> simp [go_sem, q0, q1]
    have m0 := cell_kept s0 (grownBy_putObj' _ D (.deferred none)) (fun r e => by cases e; exact ⟨_, hK9, rfl⟩)
    have m1 := cell_kept s1 (grownBy_putObj' _ D (.deferred none)) (fun r e => by cases e; exact ⟨_, hK9, rfl⟩)
    have hB9 := ((hB8.out.setCell (p := ⟨w.heap.size + 1, 0, none⟩) (by simp) (.string ⟨y.toArray⟩)).setCell (p := ⟨w.heap.size + 1, 1, none⟩) (by simp) .nilIface).trans (belowK_b (w := w) (Nat.le_refl _) _ D _ (.deferred none) (by omega) hK9 rfl rfl)
    exact ⟨_, _, rfl, run_takeDeferred hK9, _, lay_res m0 m1, by rw [HY.out], hB9⟩
  case stop =>
    rintro D c pre W _ _ h _
    exact h.elim

set_option maxHeartbeats 1000000 in
theorem iencode_any (ok0 : Nat → Prop) (x : Itm) (v : Value) (w : World) (hH : HeadOK w) (hE : EnvE w) (hx : ItV ok0 w x v) (hd : dep x ≤ 900) :
    Calls Tryz.prog 23 #[v] w fun e w' => e = .returned (.tuple #[.string (iencB x).1, .int .i64 (iencB x).2]) ∧ Below w.heap.size w w' := by
  have hv := hx
  obtain ⟨k, n, s, l⟩ := x
  simp only [ItV] at hx
  obtain ⟨p, cap, rfl, _⟩ := hx
  have hB1 := (Below.refl w.heap.size w).alloc (Nat.le_refl _) (.cells #[.int .i64 k, .int .i64 n, .string ⟨s.toArray⟩, .slice p l.length cap] 26)
  have hx2 := hv.below hB1
  have hH2 := hH.below hB1
  have hE2 := hE.below hB1
  cases hr : rightI (.mk k n s l) with
  | false =>
    rw [iencB_bad hr]
    have HL := Lib.hid (lay_no ok0 k n s l p cap _ hx2 hd hr)
    clear hx2 hv hr hH2 hH
    go_enter Tryz.func23, Tryz.ntmps23
    go_wp2_with fail
    refine HL.out.mono ?_
    rintro e w1 ⟨rfl, hb1⟩
    have hB := hB1.trans (hb1.mono (by simp))
    go_wp2_with fail
    refine (itells_bad _ _ 40 _ (hE2.below hb1) (.inl rfl)).mono ?_
    rintro e w2 ⟨rfl, hb2⟩
    have HB := Lib.hid (hB.trans (hb2.mono hB.size))
    clear hb1 hb2 hB
    go_wp2_with fail
    go_ret2
    exact ⟨rfl, HB.out⟩
  | true =>
    rw [iencB_ok hr]
    have HL := Lib.hid (lay_yes ok0 k n s l p cap _ hH2 hx2 hd hr)
    clear hx2 hv hr hH2 hH
    generalize encI (.mk k n s l) = y at *
    go_enter Tryz.func23, Tryz.ntmps23
    go_wp2_with fail
    refine HL.out.mono ?_
    rintro e w1 ⟨rfl, hb1⟩
    have hB := hB1.trans (hb1.mono (by simp))
    go_wp2_with fail
    refine (itells_ok _ _).mono ?_
    rintro e w2 ⟨rfl, hb2⟩
    have HB := Lib.hid (hB.trans (hb2.mono hB.size))
    clear hb1 hb2 hB
    go_wp2_with fail
    go_ret2
    exact ⟨rfl, HB.out⟩
end Go.Proofs.YtmbmolgkccjedaaGreatDoor
