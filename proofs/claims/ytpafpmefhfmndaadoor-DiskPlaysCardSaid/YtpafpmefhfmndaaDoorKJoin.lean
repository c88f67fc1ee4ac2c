/- joined of package disk: the bytes of the first sectors, of as many as it takes. -/
import Derived.Test.YtpafpmefhfmndaaDoorKEach
import Derived.RangeFuncBox
import Derived.Laws.BytesArg
import Derived.Laws.IdiomStrings
import Derived.BigRegionIn
import Derived.Laws.AppendOwn
set_option linter.unusedVariables false
set_option linter.unusedSimpArgs false
namespace Go.Proofs.YtpafpmefhfmndaaDoor
open Go.RowKit Go.Shelf

attribute [local go_sem] Oper.semAt_some

theorem cell_new_l (W : World) (v : Value) (t : TypeId) : (W.alloc (.cells #[v] t)).cell? ⟨W.heap.size, 0, none⟩ = some v ∧ (W.alloc (.cells #[v] t)).frozen? ⟨W.heap.size, 0, none⟩ = false := by
  constructor <;> go_simp

theorem cell_alloc_l {W : World} {a : Addr} {v : Value} (o : Obj) (h : W.cell? a = some v) : (W.alloc o).cell? a = some v := cell_kept h (World.grownBy_alloc W o none) (fun r e => by cases e)

theorem frozen_alloc_l {W : World} {a : Addr} {v : Value} (o : Obj) (h : W.cell? a = some v) (hf : W.frozen? a = false) : (W.alloc o).frozen? a = false := (frozen_kept h (World.grownBy_alloc W o none) (fun r e => by cases e)).trans hf

theorem wpIn_scope_wide {n : Nat} {P : Program} {c : Code} {Q : Exit → Act → World → Prop} {a : Act} {w : World} (h : c.wpIn Fence.wide n P (Exit.noGoto Q) a w) : (Code.scope c).wpIn Fence.wide n P Q a w :=
  wpIn_wide.2 (wp_scope_straight (wpIn_wide.1 h))

theorem ownsRow_pos {W : World} {base : Nat} {e : TypeId} {size : Nat} {v : Value} {k : Nat} {xs : List Value} (h : W.ownsRow base e size v k xs) (hk : 0 < k) : ∃ g cap, v = .slice (some ⟨g, 0, none⟩) k cap := by
  rcases h.2 with ⟨_, h0⟩ | ⟨g, cap, _, rfl, _⟩
  · omega
  · exact ⟨g, cap, rfl⟩

/-- What lies behind an append to a row of bytes, and the store of it into its box. -/
theorem boxS {W w1 : World} {n₀ B : Nat} {t : TypeId} {v v' : Value} {k m : Nat} {xs ys : List Value} (hv : Boxed W B t v) (hte : t ≠ 5) (hrow : W.ownsRow n₀ 5 1 v k xs) (hown' : w1.ownsRow n₀ 5 1 v' m ys) (hgrow : W.grownBy w1 v.ownBlock) :
    Boxed w1 B t v ∧ Boxed (w1.setCell ⟨B, 0, none⟩ v') B t v' ∧ (w1.setCell ⟨B, 0, none⟩ v').ownsRow n₀ 5 1 v' m ys ∧ KeepsOthers W (w1.setCell ⟨B, 0, none⟩ v') := by
  have hv1 : Boxed w1 B t v := hv.kept hgrow (hv.not_row hte hrow)
  refine ⟨hv1, hv1.set v', hown'.kept (grownBy_setCell' w1 B v') (.inr (hv1.not_row hte hown').symm), ?_⟩
  refine (KeepsOthers.of_grownBy hgrow fun j o ej hj => ?_).trans (KeepsOthers.setCell _ _ _)
  rcases hrow.2 with ⟨rfl, _⟩ | ⟨g, cap, cur, rfl, _, hgb, _⟩
  · simp [Value.ownBlock] at ej
  · obtain rfl : g = j := by simpa [Value.ownBlock] using ej
    rw [hgb] at hj; cases hj; rfl

theorem ownBase {W : World} {n₀ : Nat} {e : TypeId} {v : Value} {k : Nat} {xs : List Value} (hrow : W.ownsRow n₀ e 1 v k xs) (g : Nat) (h : v.ownBlock = some g) : n₀ ≤ g := (hrow.lt g h).1

theorem ownsRow_belowL {w w' : World} {base : Nat} {e : TypeId} {size : Nat} {v : Value} {n : Nat} {xs : List Value} (h : w.ownsRow base e size v n xs) (hb : Below w.heap.size w w') : w'.ownsRow base e size v n xs := by
  have hg : w.grownBy w' none := ⟨hb.os, hb.tape, hb.output, hb.size, fun k hk _ => hb.block k hk⟩
  refine h.kept hg ?_
  by_cases e : v.ownBlock = none
  · exact .inl e
  · exact .inr e

theorem keeps_below {W W' : World} (hb : Below W.heap.size W W') : KeepsOthers W W' := ⟨hb.size, fun k o h _ => (hb.block k (lt_of_heap h)).trans h⟩

theorem grown_cell {w w' : World} {row : Option Nat} {B o : Nat} {x : Value} (h : w.cell? ⟨B, o, none⟩ = some x) (hg : w.grownBy w' row) (hr : row ≠ some B) : w'.cell? ⟨B, o, none⟩ = some x :=
  (World.cell?_of_block (a := ⟨B, o, none⟩) (hg.block B (World.block_lt_of_cell? _ _ h) (fun e => hr e.symm))).trans h

theorem grown_frozen {w w' : World} {row : Option Nat} {B o : Nat} {x : Value} (h : w.cell? ⟨B, o, none⟩ = some x) (hf : w.frozen? ⟨B, o, none⟩ = false) (hg : w.grownBy w' row) (hr : row ≠ some B) : w'.frozen? ⟨B, o, none⟩ = false :=
  (World.frozen?_of_block (a := ⟨B, o, none⟩) (hg.block B (World.block_lt_of_cell? _ _ h) (fun e => hr e.symm))).trans hf

/-- A byte as a cell. -/
def bvk (b : UInt8) : Value := .int .u8 (b.toNat : Int)
theorem conv_ownL {w : World} {base : Nat} {v : Value} {l : List UInt8} (h : w.ownsRow base 5 1 v l.length (l.map bvk)) : (convert 58 9 v).run Tryd.prog w = .ok (.string ⟨l.toArray⟩) w := by
  have h' := h
  rcases h'.2 with ⟨rfl, h0⟩ | ⟨g, cap, cur, rfl, _⟩
  · have : l = [] := List.eq_nil_of_length_eq_zero h0
    subst this
    exact run_convert_bytes_nil w _ 5 Tryd.underlying58 Tryd.underlying5 0 0 _ Tryd.underlying9
  · refine run_convert_bytes_back w _ _ 5 _ cap l Tryd.underlying58 Tryd.underlying5 Tryd.underlying9 ?_
    intro j hj
    exact h.cells (g := g) rfl j _ (by simp [hj, bvk])

theorem scells_bvk (s : ByteArray) : Lib.byteCells s.data.toList = s.data.toList.map bvk := rfl

/-- An operation that yields a value. -/
theorem opIn_val {F : Fence} {n : Nat} {P : Program} {o : Oper} {a : Act} {w w' : World} {K : Act → World → Prop} {Q : Exit → Act → World → Prop} {v : Value} (ha : o.about P w a.eval = none) (hd : ∀ c, o.op ≠ .defer c) (hs : (execOp a.eval o).run P w = .ok (.value v) w') (h : K (a.put o.dst v) w') : o.wpIn F n P a w K Q := by
  unfold Oper.wpIn
  refine ⟨by simp [ha], ?_⟩
  rw [Oper.semAt_plain F _ _ hd, hs]
  exact h

/-- An operation that yields nothing. -/
theorem opIn_skip {F : Fence} {n : Nat} {P : Program} {o : Oper} {a : Act} {w w' : World} {K : Act → World → Prop} {Q : Exit → Act → World → Prop} (ha : o.about P w a.eval = none) (hd : ∀ c, o.op ≠ .defer c) (hs : (execOp a.eval o).run P w = .ok .skip w') (h : K (a.put o.dst undef) w') : o.wpIn F n P a w K Q := by
  unfold Oper.wpIn
  refine ⟨by simp [ha], ?_⟩
  rw [Oper.semAt_plain F _ _ hd, hs]
  exact h

/-- What joined answers. -/
def JoinR (D : Dk) (least : Int) (w : World) (e : Ending) (w' : World) : Prop :=
  ∃ k, k ≤ D.ss.length ∧ e = .returned (.string ⟨(catS (D.ss.take k)).toArray⟩) ∧ (k = D.ss.length ∨ least ≤ 64 * (k : Int)) ∧ Below w.heap.size w w'

theorem u8_size : (Tryd.prog.info? 5).map (·.size) = some 1 := by kernel_rfl

set_option maxRecDepth 100000 in
set_option maxHeartbeats 4000000 in
theorem joined_any (a b : Nat) (D : Dk) (least : Int) (w : World) (h : DAt a b D w) :
    Calls Tryd.prog 47 #[.pointer (some ⟨a, 0, none⟩), .int .i64 least] w (JoinR D least w) := by
  obtain ⟨i0, hi, hz0, hz1, hz2⟩ := info_parts u8_info
  have ha := h.lta
  have hb := h.lt
  have hm := h.ok.m256
  have h64 := h.ok.a64
  have c0 := h.c0
  refine (callsIn_wide (n := 9)).1 ?_
  refine callsIn_of_wp_marks Tryd.func47 rfl trivial ?_ rfl
  simp only [Tryd.ntmps47, List.size_toArray, List.length_cons, List.length_nil, Nat.reduceAdd, Nat.reduceSub, Array.replicate_succ, Array.replicate_zero, List.push_toArray, List.append_toArray, List.nil_append, List.cons_append]
  gi_wp2
  refine wpIn_scope_wide ?_
  gi_wp2
  refine wpIn_label ?_
  gi_wp2_with (refine ⟨trivial, ?_⟩; gi_at_call 55; refine (callsIn_wide.2 (deach_any _ _ _ _)).mono ?_; rintro e w' ⟨rfl, rfl⟩)
  obtain ⟨xs, hxs⟩ := raw_of h64
  have hlen : xs.length = D.ss.length := by rw [← hxs, raw_length]
  have hB0 : Below w.heap.size w ((((w.alloc (.cells #[.int .i64 least] 3)).alloc (.cells #[.slice none 0 0] 58)).alloc (.cells #[.slice (some ⟨b, 0, none⟩) D.ss.length D.ss.length] 64)).alloc (.cells #[.slice (some ⟨b, 0, none⟩) D.ss.length D.ss.length] 62)) := ((((Below.refl _ w).alloc (Nat.le_refl _) _).alloc (by simp) _).alloc (by simp; omega) _).alloc (by simp; omega) _
  have hsz : ((((w.alloc (.cells #[.int .i64 least] 3)).alloc (.cells #[.slice none 0 0] 58)).alloc (.cells #[.slice (some ⟨b, 0, none⟩) D.ss.length D.ss.length] 64)).alloc (.cells #[.slice (some ⟨b, 0, none⟩) D.ss.length D.ss.length] 62)).heap.size ≥ w.heap.size + 1 + 1 + 1 + 1 := by simp
  have c1 : ((((w.alloc (.cells #[.int .i64 least] 3)).alloc (.cells #[.slice none 0 0] 58)).alloc (.cells #[.slice (some ⟨b, 0, none⟩) D.ss.length D.ss.length] 64)).alloc (.cells #[.slice (some ⟨b, 0, none⟩) D.ss.length D.ss.length] 62)).cell? ⟨w.heap.size, 0, none⟩ = some (.int .i64 least) := by go_simp
  have c3 : ((((w.alloc (.cells #[.int .i64 least] 3)).alloc (.cells #[.slice none 0 0] 58)).alloc (.cells #[.slice (some ⟨b, 0, none⟩) D.ss.length D.ss.length] 64)).alloc (.cells #[.slice (some ⟨b, 0, none⟩) D.ss.length D.ss.length] 62)).cell? ⟨w.heap.size + 1 + 1 + 1, 0, none⟩ = some (.slice (some ⟨b, 0, none⟩) D.ss.length D.ss.length) := by go_simp
  have hbx : Boxed ((((w.alloc (.cells #[.int .i64 least] 3)).alloc (.cells #[.slice none 0 0] 58)).alloc (.cells #[.slice (some ⟨b, 0, none⟩) D.ss.length D.ss.length] 64)).alloc (.cells #[.slice (some ⟨b, 0, none⟩) D.ss.length D.ss.length] 62)) (w.heap.size + 1) 58 (.slice none 0 0) := by
    have h1 := ((Boxed.new (w.alloc (.cells #[.int .i64 least] 3)) 58 (.slice none 0 0)).alloc (.cells #[.slice (some ⟨b, 0, none⟩) D.ss.length D.ss.length] 64)).alloc (.cells #[.slice (some ⟨b, 0, none⟩) D.ss.length D.ss.length] 62)
    rw [World.size_alloc] at h1
    exact h1
  have hD0 := h.below hB0
  generalize ((((w.alloc (.cells #[.int .i64 least] 3)).alloc (.cells #[.slice none 0 0] 58)).alloc (.cells #[.slice (some ⟨b, 0, none⟩) D.ss.length D.ss.length] 64)).alloc (.cells #[.slice (some ⟨b, 0, none⟩) D.ss.length D.ss.length] 62)) = w0 at *
  have hS0 : SecAt b (raw xs) w0 := by rw [hxs]; exact hD0.rg
  rw [← hlen] at c3
  refine wpIn_rangeFunc_ownH rfl (by omega) (gf := 68) (lb := #[.pointer (some ⟨w.heap.size + 1 + 1 + 1, 0, none⟩)]) rfl trivial (enters_of Tryd.func68 (by kernel_rfl) rfl)
    (values1_stops Fence.wide _ trivial rfl (by omega) (w.heap.size + 1 + 1 + 1) b xs (by omega) _ c3 hS0) keepBlk_t (keepBlk_b (w := w0)) (Below.refl _ _) (fun _ => rfl)
    (fun pre W => ((∃ v, Boxed W (w.heap.size + 1) 58 v ∧ W.ownsRow w0.heap.size 5 1 v (catS (raw pre)).length ((catS (raw pre)).map bvk) ∧ True) ∧ W.cell? ⟨w.heap.size, 0, none⟩ = some (.int .i64 least) ∧ w0.heap.size ≤ W.heap.size) ∧ Below w.heap.size w W)
    (fun c q W => ((∃ v, Boxed W (w.heap.size + 1) 58 v ∧ W.ownsRow w0.heap.size 5 1 v (catS (raw q.dropLast)).length ((catS (raw q.dropLast)).map bvk) ∧ (c = .exit 0 ∧ 1 ≤ q.length ∧ least ≤ 64 * ((q.length - 1 : Nat) : Int)))) ∧ Below w.heap.size w W)
    (OwnFrom.and (OwnFrom.and ((holdsRow_own w0.heap.size (w.heap.size + 1) 58 5 1 (fun pre : List S64 => (catS (raw pre)).length) (fun pre => (catS (raw pre)).map bvk) (fun _ _ => True)).from _) (Own.from (fun s A B row hs hg hr => ⟨cell_kept hs.1 hg hr, Nat.le_trans hs.2 hg.size⟩) _)) (ownFrom_below (Nat.le_refl _) (by omega)))
    (fun c => OwnFrom.and ((holdsRow_own w0.heap.size (w.heap.size + 1) 58 5 1 (fun q : List S64 => (catS (raw q.dropLast)).length) (fun q => (catS (raw q.dropLast)).map bvk) (fun q _ => c = .exit 0 ∧ 1 ≤ q.length ∧ least ≤ 64 * ((q.length - 1 : Nat) : Int))).from _) (ownFrom_below (Nat.le_refl _) (by omega)))
    ⟨⟨⟨_, hbx, World.ownsRow_nil _ _ _ _, trivial⟩, c1, Nat.le_refl _⟩, hB0⟩
    (fun (x : S64) a' W => ∃ B : Nat, a' = { tmps := #[.pointer (some ⟨a, 0, none⟩), .int .i64 least, undef, .pointer (some ⟨w.heap.size, 0, none⟩), .string ⟨#[]⟩, .pointer (some ⟨w.heap.size + 1, 0, none⟩), .pointer (some ⟨B, 0, none⟩), .pointer (some ⟨a, 0, none⟩), .pointer (some ⟨a, 0, none⟩), .pointer (some ⟨a, 0, none⟩), .agg #[.slice (some ⟨b, 0, none⟩) D.ss.length D.ss.length], .func (.func 68) #[] #[.pointer (some ⟨w.heap.size + 1 + 1 + 1, 0, none⟩)], .agg (scells x.1), undef, undef, undef, undef, undef, undef, undef, undef, undef], defers := [] } ∧ W.heap[B]? = some (.cells (scells x.1) 80 (0, 0)))
    (fun x a' => Own.from (fun s A B row hs hg hr => by
      obtain ⟨b', h2, h3⟩ := hs
      exact ⟨b', h2, (hg.block b' (lt_of_heap h3) (fun e => by obtain ⟨o, ho, hc⟩ := hr b' e.symm; rw [h3] at ho; cases ho; cases hc)).trans h3⟩) _) ?assign ?body ?done ?stop
  case assign =>
    rintro l pre ⟨x, hx64⟩ W K ⟨⟨⟨v, hv, hrow, _⟩, h1, hsw⟩, hB⟩ hK
    have k1 := hv.alloc (.cells (scells x) 80)
    have k2 := hrow.alloc (.cells (scells x) 80)
    have k3 := cell_alloc_l (.cells (scells x) 80) h1
    have hs2 : (Tryd.prog.info? 80).map (·.size) = some (scells x).size := by rw [scells_size hx64]; exact sector_size
    have H1 := Lib.hid k1
    have H2 := Lib.hid k2
    have H3 := Lib.hid k3
    have HS := Lib.hid hs2
    have H64 := Lib.hid (show x.size = 64 from hx64)
    clear hv hrow h1 c1 c3 k1 k2 k3 hs2
    simp only
    gi_wp2_with ((with_reducible refine wpListIn_store_new rfl 80 _ _ rfl _ (scells x) rfl rfl HS.out ?hc (scells_one x) ?_); case hc => (rw [scells_size H64.out]; rfl))
    exact hK _ _ ((KeepsOthers.alloc _ _).from _) (KeepBlk.below ((Below.refl _ _).alloc (Nat.le_refl _) _)) ⟨⟨⟨_, H1.out, H2.out, trivial⟩, H3.out, by simp; omega⟩, hB.alloc hB.size _⟩ ⟨W.heap.size, rfl, World.alloc_heap_new W _⟩
  case body =>
    rintro l pre ⟨x, hx64⟩ a' W hl hlo ⟨⟨⟨v, hv, hrow, _⟩, h1, hsw⟩, hB⟩ ⟨B, rfl, hbox⟩ hlt
    have hLl := catS_length (raw pre) (raw_all pre)
    rw [raw_length] at hLl
    have hvc := hv.cell
    have hvf := hv.frozen
    have HB := Lib.hid hB
    have HV := Lib.hid hv
    have HROW := Lib.hid hrow
    have HBOX := Lib.hid hbox
    have HL := Lib.hid hLl
    have hpl : pre.length ≤ 256 := by omega
    have hvl : ∃ A c, v = .slice A (catS (raw pre)).length c := by
      rcases hrow.2 with ⟨e, h0⟩ | ⟨g, cap, _, e, _⟩
      · exact ⟨none, 0, by rw [e, h0]⟩
      · exact ⟨_, _, e⟩
    obtain ⟨A, cp, rfl⟩ := hvl
    have H1 := Lib.hid h1
    clear hB hv hrow hbox c1 c3
    by_cases hge : least ≤ 64 * (pre.length : Int)
    · have hg : decide (((catS (raw pre)).length : Int) ≥ least) = true := by rw [hLl]; simp; omega
      clear hLl
      gi_wp2
      exact ⟨KeepsFrom.refl _ _, ⟨_, HV.out, by rw [List.dropLast_concat]; exact HROW.out, rfl, by simp, by simpa using hge⟩, HB.out⟩
    · have hg : decide (((catS (raw pre)).length : Int) ≥ least) = false := by rw [hLl]; simp; omega
      have hlb : (catS (raw pre)).length ≤ 16384 := by omega
      have hbd : Below W.heap.size W W.drew := (Below.refl W.heap.size W).drew
      have hbl : B < W.heap.size := lt_of_heap HBOX.out
      have hl64 : (x.data.toList.map bvk).length = 64 * 1 := by rw [List.length_map, Array.length_toList]; exact hx64
      obtain ⟨v', w2, hrun, hown2, hgrow2, _⟩ := run_append_own (P := Tryd.prog) W.drew w0.heap.size 58 58 5 i0 (.int .u8 0) 1 1 Tryd.underlying58 hi hz0 hz1 hz2 rfl (by decide) (.slice A (catS (raw pre)).length cp) _ _ (ownsRow_belowL HROW.out hbd) ⟨B, 0, none⟩ 64 64 (x.data.toList.map bvk) hl64
        (fun j u hj => by
          rw [Addr.add_mid, Nat.zero_add, cell_of_row _ B j (scells x) _ (0, 0) ((hbd.block B hbl).trans HBOX.out)]
          show (Lib.byteCells x.data.toList).toArray[j]? = some u
          rw [scells_bvk]
          simpa using hj)
        (fun u hu => by obtain ⟨q, _, rfl⟩ := List.mem_map.1 hu; rfl) (by unfold maxLen; omega) (by omega) (by simpa using hsw)
      obtain ⟨g', cap', rfl⟩ : ∃ g' cap', v' = .slice (some ⟨g', 0, none⟩) ((catS (raw pre)).length + 64) cap' := ownsRow_pos hown2 (by omega)
      have hv2 : Boxed W.drew (w.heap.size + 1) 58 (.slice A (catS (raw pre)).length cp) := HV.out
      obtain ⟨bx3, bx4, row4, ko4⟩ := boxS hv2 (by decide) (ownsRow_belowL HROW.out hbd) hown2 hgrow2
      have q0 := bx3.cell
      have q1 := bx3.frozen
      have dr0 : W.drew.cell? ⟨w.heap.size + 1, 0, none⟩ = some (.slice A (catS (raw pre)).length cp) := hv2.cell
      have HRUN := hrun
      have e1 : catS (raw (pre ++ [⟨x, hx64⟩])) = catS (raw pre) ++ x.data.toList := by rw [raw_snoc, catS_snoc]
      have hl' : (catS (raw pre)).length + 64 = (catS (raw (pre ++ [⟨x, hx64⟩]))).length := by rw [e1, List.length_append]; rw [List.length_map] at hl64; omega
      have k1 : (w2.setCell ⟨w.heap.size + 1, 0, none⟩ (.slice (some ⟨g', 0, none⟩) ((catS (raw pre)).length + 64) cap')).cell? ⟨w.heap.size, 0, none⟩ = some (.int .i64 least) := by
        have hrw : (Value.slice A (catS (raw pre)).length cp).ownBlock ≠ some w.heap.size := fun e => by have := ownBase HROW.out _ e; omega
        rw [World.cell?_setCell_other _ _ _ _ (by simp)]
        exact grown_cell ((hbd.cell (World.block_lt_of_cell? _ _ H1.out)).trans H1.out) hgrow2 hrw
      have kB : KeepBlk b W (w2.setCell ⟨w.heap.size + 1, 0, none⟩ (.slice (some ⟨g', 0, none⟩) ((catS (raw pre)).length + 64) cap')) := fun j u hj => by
        have hrw : (Value.slice A (catS (raw pre)).length cp).ownBlock ≠ some b := fun e => by have := ownBase HROW.out _ e; omega
        rw [World.cell?_setCell_other _ _ _ _ (fun e => by injection e with e1; omega)]
        exact grown_cell ((hbd.cell (World.block_lt_of_cell? _ _ hj)).trans hj) hgrow2 hrw
      have hB2 : Below w.heap.size w w2 := (HB.out.drew).grown hgrow2 (by have := HB.out.size; exact this) (fun g e => by have := ownBase HROW.out g e; omega)
      have hB3 := hB2.setCell (p := ⟨w.heap.size + 1, 0, none⟩) (by simp) (.slice (some ⟨g', 0, none⟩) ((catS (raw pre)).length + 64) cap')
      have hrow5 : (w2.setCell ⟨w.heap.size + 1, 0, none⟩ (.slice (some ⟨g', 0, none⟩) ((catS (raw pre)).length + 64) cap')).ownsRow w0.heap.size 5 1 (.slice (some ⟨g', 0, none⟩) ((catS (raw pre)).length + 64) cap') (catS (raw (pre ++ [⟨x, hx64⟩]))).length ((catS (raw (pre ++ [⟨x, hx64⟩]))).map bvk) := by
        rw [← hl', e1, List.map_append]; exact row4
      have HROW5 := Lib.hid hrow5
      have HKO : KeepsFrom w0.heap.size W (w2.setCell ⟨w.heap.size + 1, 0, none⟩ (.slice (some ⟨g', 0, none⟩) ((catS (raw pre)).length + 64) cap')) := ((keeps_below hbd).trans ko4).from _
      have HSW := Lib.hid (show w0.heap.size ≤ (w2.setCell ⟨w.heap.size + 1, 0, none⟩ (.slice (some ⟨g', 0, none⟩) ((catS (raw pre)).length + 64) cap')).heap.size from Nat.le_trans hsw HKO.size)
      clear hLl e1 hl' hl64 hgrow2 hown2 row4 hrow5 hv2 hrun hbd bx3
      gi_wp2
      refine wpIn_region_any (by kernel_rfl) ?_
      change wpAnyIn _ _ _ _ _ _ _ _ _ (World.drew _)
      refine wpAnyIn_ready (rs := [0, 1]) (by kernel_rfl) (by simp) (BigFrame.allReadyIn_want rfl (by simp [Region.wanted]) (fun K hK => ?_) (BigFrame.allReadyIn_want rfl (by simp [Region.wanted]) (fun K hK => ?_) AllReadyIn.nil))
      · refine opIn_val (v := .slice A (catS (raw pre)).length cp) (w' := W.drew) (by simp [Oper.about]) (fun c => by simp) (by simp [go_sem, execOp, Act.eval, dr0]) (hK _ _ ?_)
        refine wpAnyIn_ready (rs := [1]) (by kernel_rfl) (by simp) (BigFrame.allReadyIn_want rfl (by simp [Region.wanted]) (fun K hK => ?_) AllReadyIn.nil)
        refine opIn_val (v := .slice (some ⟨B, 0, none⟩) 64 64) (w' := W.drew) (by simp [Oper.about]) (fun c => by simp) (by simp [go_sem, execOp, Act.eval, Act.put]) (hK _ _ ?_)
        refine wpAnyIn_ready (rs := [2]) (by kernel_rfl) (by simp) (BigFrame.allReadyIn_want rfl (by simp [Region.wanted]) (fun K hK => ?_) AllReadyIn.nil)
        refine opIn_val (v := .slice (some ⟨g', 0, none⟩) ((catS (raw pre)).length + 64) cap') (w' := w2) (by simp [Oper.about, resolve, Target.leads, Sem.run_pure]) (fun c => by simp) (by simp [execOp, resolve, invoke, builtin, Act.eval, Act.put, HRUN, Result.andThen]) (hK _ _ ?_)
        refine wpAnyIn_ready (rs := [3]) (by kernel_rfl) (by simp) (BigFrame.allReadyIn_want rfl (by simp [Region.wanted]) (fun K hK => ?_) AllReadyIn.nil)
        refine opIn_skip (w' := w2.setCell ⟨w.heap.size + 1, 0, none⟩ (.slice (some ⟨g', 0, none⟩) ((catS (raw pre)).length + 64) cap')) (by simp [Oper.about]) (fun c => by simp) (by simp [go_sem, execOp, Act.eval, Act.put, q0, q1]) (hK _ _ ?_)
        refine wpAnyIn_done (by kernel_rfl) ?_ _
        exact ⟨HKO, kB, ⟨⟨⟨_, bx4, HROW5.out, trivial⟩, k1, HSW.out⟩, hB3⟩⟩
      · refine opIn_val (v := .slice (some ⟨B, 0, none⟩) 64 64) (w' := W.drew) (by simp [Oper.about]) (fun c => by simp) (by simp [go_sem, execOp, Act.eval]) (hK _ _ ?_)
        refine wpAnyIn_ready (rs := [0]) (by kernel_rfl) (by simp) (BigFrame.allReadyIn_want rfl (by simp [Region.wanted]) (fun K hK => ?_) AllReadyIn.nil)
        refine opIn_val (v := .slice A (catS (raw pre)).length cp) (w' := W.drew) (by simp [Oper.about]) (fun c => by simp) (by simp [go_sem, execOp, Act.eval, Act.put, dr0]) (hK _ _ ?_)
        refine wpAnyIn_ready (rs := [2]) (by kernel_rfl) (by simp) (BigFrame.allReadyIn_want rfl (by simp [Region.wanted]) (fun K hK => ?_) AllReadyIn.nil)
        refine opIn_val (v := .slice (some ⟨g', 0, none⟩) ((catS (raw pre)).length + 64) cap') (w' := w2) (by simp [Oper.about, resolve, Target.leads, Sem.run_pure]) (fun c => by simp) (by simp [execOp, resolve, invoke, builtin, Act.eval, Act.put, HRUN, Result.andThen]) (hK _ _ ?_)
        refine wpAnyIn_ready (rs := [3]) (by kernel_rfl) (by simp) (BigFrame.allReadyIn_want rfl (by simp [Region.wanted]) (fun K hK => ?_) AllReadyIn.nil)
        refine opIn_skip (w' := w2.setCell ⟨w.heap.size + 1, 0, none⟩ (.slice (some ⟨g', 0, none⟩) ((catS (raw pre)).length + 64) cap')) (by simp [Oper.about]) (fun c => by simp) (by simp [go_sem, execOp, Act.eval, Act.put, q0, q1]) (hK _ _ ?_)
        refine wpAnyIn_done (by kernel_rfl) ?_ _
        exact ⟨HKO, kB, ⟨⟨⟨_, bx4, HROW5.out, trivial⟩, k1, HSW.out⟩, hB3⟩⟩
  case done =>
    rintro E ys W hE rfl ⟨⟨⟨v, hv, hrow, _⟩, h1, hsw⟩, hB⟩ hK
    have hcv := conv_ownL hrow
    have hvc := hv.cell
    have HXS := Lib.hid hxs
    clear c1 c3 hv hrow h1 hxs
    gi_wp2
    refine ⟨by simp, .inl ⟨_, _, rfl, run_takeDeferred hK, ?_⟩⟩
    refine ⟨_, results_tmp rfl _ _ _, D.ss.length, Nat.le_refl _, ?_, .inl rfl, hB.trans (belowK_b (w := w) (Nat.le_refl _) W E _ _ (by omega) hK rfl rfl)⟩
    rw [List.take_length, ← HXS.out]
    rfl
  case stop =>
    rintro E c q W hE ⟨k, rfl⟩ ⟨⟨v, hv, hrow, rfl, h1, h2⟩, hB⟩ hK
    have hcv := conv_ownL hrow
    have hvc := hv.cell
    have hk : (xs.take k).length ≤ xs.length := by rw [List.length_take]; omega
    have hkk : (xs.take k).dropLast = xs.take ((xs.take k).length - 1) := by
      rw [List.dropLast_eq_take, List.take_take]
      congr 1
      rw [List.length_take]; omega
    have HKK := Lib.hid hkk
    have HXS := Lib.hid hxs
    have H2 := Lib.hid h2
    clear c1 c3 hv hrow hxs hkk h2
    gi_wp2
    refine ⟨by simp, .inl ⟨_, _, rfl, run_takeDeferred hK, ?_⟩⟩
    refine ⟨_, results_tmp rfl _ _ _, (xs.take k).length - 1, by omega, ?_, .inr H2.out, hB.trans (belowK_b (w := w) (Nat.le_refl _) W E _ _ (by omega) hK rfl rfl)⟩
    have e : raw ((xs.take k).dropLast) = D.ss.take ((xs.take k).length - 1) := by rw [HKK.out, raw_take, HXS.out]
    rw [← e]
    rfl
end Go.Proofs.YtpafpmefhfmndaaDoor
