/- Contract of number of package sdnv: the number whose groups stand at a place of a text, and the place behind them; or what is wrong. -/
import Derived.Test.YtajeanmmelldnaaDoorSWorth
import Derived.ScopeJumps
import Derived.WalkMore
set_option linter.unusedVariables false
set_option linter.unusedSimpArgs false
namespace Go.Proofs.YtajeanmmelldnaaDoor
open Go.RowKit

/-- A scope with one label behind all its jumps. -/
theorem wp_scope_fwd {P : Program} {a : Act} {w : World} {Q : Exit → Act → World → Prop} {c rest : Code} (l : Nat) (hf : findLabel c l = some rest)
    (h : c.wp P (Exit.jump l (fun a w => rest.wp P (Exit.noGoto Q) a w) Q) a w) : (Code.scope c).wp P Q a w :=
  wp_scope_jumps l _ (fun _ _ => 0) hf h (fun a w hJ => wp_mono hJ (fun e a w hq => by cases e <;> first | exact hq | exact hq.elim))

theorem dropB_len (s : ByteArray) (at0 : Int) : (dropB s at0).length ≤ s.size := by
  unfold dropB
  split
  · simp
  · rw [List.length_drop]; simp
/-- What number answers: nothing, with what is wrong; or what was read. -/
def NumBad (s : ByteArray) (at0 k : Int) (w : World) (e : Ending) (w' : World) : Prop :=
  (∃ v, Wrong k v ∧ e = .returned (.tuple #[.agg #[.string ⟨#[]⟩, .int .i64 0, .int .i64 0], v])) ∧ Below w.heap.size w w'

theorem num_res {B : Nat} {x y z v : Value} {W : World} {tmps : Array Value} (c : W.cell? ⟨B, 0, none⟩ = some x ∧ W.cell? ⟨B, 1, none⟩ = some y ∧ W.cell? ⟨B, 2, none⟩ = some z) (h2 : tmps[2]?.getD undef = .pointer (some ⟨B, 0, none⟩) := by rfl) (h3 : tmps[3]?.getD undef = v := by rfl) : (results Tryd.f29 tmps).run Tryd.prog W = .ok (.tuple #[.agg #[x, y, z], v]) W := by
  obtain ⟨c0, c1, c2⟩ := c
  simp [results, Tryd.results29, go_sem, h2, h3, c0, c1, c2]
theorem set3_cells {B : Nat} {a b c x y z : Value} {W : World} (k0 : W.cell? ⟨B, 0, none⟩ = some a) (k1 : W.cell? ⟨B, 1, none⟩ = some b) (k2 : W.cell? ⟨B, 2, none⟩ = some c) :
    (((W.setCell ⟨B, 0, none⟩ x).setCell ⟨B, 1, none⟩ y).setCell ⟨B, 2, none⟩ z).cell? ⟨B, 0, none⟩ = some x ∧ (((W.setCell ⟨B, 0, none⟩ x).setCell ⟨B, 1, none⟩ y).setCell ⟨B, 2, none⟩ z).cell? ⟨B, 1, none⟩ = some y ∧ (((W.setCell ⟨B, 0, none⟩ x).setCell ⟨B, 1, none⟩ y).setCell ⟨B, 2, none⟩ z).cell? ⟨B, 2, none⟩ = some z := by
  refine ⟨?_, ?_, ?_⟩
  · simp [go_sem, k0]
  · simp [go_sem, k1]
  · simp [go_sem, k2]

theorem set_far {B C o i : Nat} {x v : Value} {W : World} (h : W.cell? ⟨B, o, none⟩ = some x) (hne : B ≠ C := by omega) : (W.setCell ⟨C, i, none⟩ v).cell? ⟨B, o, none⟩ = some x := by
  rw [World.cell?_setCell_other _ _ _ _ (fun e => hne (congrArg Addr.block e).symm)]
  exact h
theorem jump_ret {l : Nat} {J : Act → World → Prop} {Q : Exit → Act → World → Prop} {a : Act} {w : World} : Exit.jump l J Q .ret a w = Q .ret a w := rfl

/-- What the three blocks of number hold: the parameter, the result, the reader. -/
theorem kept13 {w w1 : World} {s : ByteArray} {at0 : Int}
    (hc : ∀ b o, b < (((w.alloc (.cells #[.string s, .int .i64 at0] 51)).alloc (.cells #[.string ⟨#[]⟩, .int .i64 0, .int .i64 0] 53)).alloc (.cells #[.string s, .int .i64 at0, .int .i64 0] 53)).heap.size → w1.cell? ⟨b, o, none⟩ = (((w.alloc (.cells #[.string s, .int .i64 at0] 51)).alloc (.cells #[.string ⟨#[]⟩, .int .i64 0, .int .i64 0] 53)).alloc (.cells #[.string s, .int .i64 at0, .int .i64 0] 53)).cell? ⟨b, o, none⟩)
    (hf : ∀ b o, b < (((w.alloc (.cells #[.string s, .int .i64 at0] 51)).alloc (.cells #[.string ⟨#[]⟩, .int .i64 0, .int .i64 0] 53)).alloc (.cells #[.string s, .int .i64 at0, .int .i64 0] 53)).heap.size → w1.frozen? ⟨b, o, none⟩ = (((w.alloc (.cells #[.string s, .int .i64 at0] 51)).alloc (.cells #[.string ⟨#[]⟩, .int .i64 0, .int .i64 0] 53)).alloc (.cells #[.string s, .int .i64 at0, .int .i64 0] 53)).frozen? ⟨b, o, none⟩) :
    w1.cell? ⟨w.heap.size + 1, 0, none⟩ = some (.string ⟨#[]⟩) ∧ w1.cell? ⟨w.heap.size + 1, 1, none⟩ = some (.int .i64 0) ∧ w1.cell? ⟨w.heap.size + 1, 2, none⟩ = some (.int .i64 0) ∧
    w1.frozen? ⟨w.heap.size + 1, 0, none⟩ = false ∧ w1.frozen? ⟨w.heap.size + 1, 1, none⟩ = false ∧ w1.frozen? ⟨w.heap.size + 1, 2, none⟩ = false ∧
    w1.cell? ⟨w.heap.size, 1, none⟩ = some (.int .i64 at0) ∧
    w1.cell? ⟨w.heap.size + 1 + 1, 0, none⟩ = some (.string s) ∧ w1.cell? ⟨w.heap.size + 1 + 1, 1, none⟩ = some (.int .i64 at0) ∧ w1.cell? ⟨w.heap.size + 1 + 1, 2, none⟩ = some (.int .i64 0) ∧
    w1.frozen? ⟨w.heap.size + 1 + 1, 0, none⟩ = false ∧ w1.frozen? ⟨w.heap.size + 1 + 1, 1, none⟩ = false ∧ w1.frozen? ⟨w.heap.size + 1 + 1, 2, none⟩ = false := by
  refine ⟨?_, ?_, ?_, ?_, ?_, ?_, ?_, ?_, ?_, ?_, ?_, ?_, ?_⟩
  · exact (hc (w.heap.size + 1) 0 (by simp)).trans (by go_simp)
  · exact (hc (w.heap.size + 1) 1 (by simp)).trans (by go_simp)
  · exact (hc (w.heap.size + 1) 2 (by simp)).trans (by go_simp)
  · exact (hf (w.heap.size + 1) 0 (by simp)).trans (by go_simp)
  · exact (hf (w.heap.size + 1) 1 (by simp)).trans (by go_simp)
  · exact (hf (w.heap.size + 1) 2 (by simp)).trans (by go_simp)
  · exact (hc (w.heap.size) 1 (by simp; omega)).trans (by go_simp)
  · exact (hc (w.heap.size + 1 + 1) 0 (by simp)).trans (by go_simp)
  · exact (hc (w.heap.size + 1 + 1) 1 (by simp)).trans (by go_simp)
  · exact (hc (w.heap.size + 1 + 1) 2 (by simp)).trans (by go_simp)
  · exact (hf (w.heap.size + 1 + 1) 0 (by simp)).trans (by go_simp)
  · exact (hf (w.heap.size + 1 + 1) 1 (by simp)).trans (by go_simp)
  · exact (hf (w.heap.size + 1 + 1) 2 (by simp)).trans (by go_simp)

set_option maxRecDepth 100000 in
set_option maxHeartbeats 2000000 in
theorem number_short (s : ByteArray) (at0 : Int) (w : World) (hs : s.size ≤ 1000000) (h : spanG (dropB s at0) = none) :
    Calls Tryd.prog 29 #[.agg #[.string s, .int .i64 at0]] w (NumBad s at0 11 w) := by
  have H := Lib.hid h
  clear h
  go_enter Tryd.func29, Tryd.ntmps29
  go_wp2
  refine wp_scope_fwd 0 rfl ?_
  go_wp2_with fail
  refine (tgroups_any s at0 _ hs).mono ?_
  rintro e w1 ⟨⟨_, rfl⟩ | ⟨g, t, h2, _⟩, hb1⟩
  · obtain ⟨hc, hf⟩ := bcell hb1
    have hz : w.heap.size + 1 + 1 < w1.heap.size := by have := hb1.size; simp at this; omega
    have hB : Below w.heap.size w w1 := ((((Below.refl _ _).alloc (Nat.le_refl _) _).alloc (by simp) _).alloc (by simp; omega) _).trans (hb1.mono (by simp; omega))
    obtain ⟨k0, k1, k2, f0, f1, f2, t1, r0, r1, r2, g0, g1, g2⟩ := kept13 (s := s) (at0 := at0) hc hf
    clear hb1 hc hf
    go_wp2
    go_step3
    refine ⟨rfl, ?_⟩
    go_wp2
    go_region
    all_goals go_wp2
    rw [Exit.noGoto_ret]
    refine bodyPost_ret (v := .tuple #[.agg #[.string ⟨#[]⟩, .int .i64 0, .int .i64 0], .iface 66 (.agg #[.int .i64 at0, .iface 62 (.agg #[.int .i64 11])])]) (num_res (set3_cells k0 k1 k2)) rfl ⟨⟨_, .inr ⟨at0, rfl⟩, rfl⟩, ?_⟩
    exact (((hB.setCell (by simp) _).setCell (by simp) _).setCell (by simp) _).drew
  · rw [H.out] at h2; cases h2

/-- A first byte. -/
theorem first_byte {g : List UInt8} (h : 1 ≤ g.length) : ∃ h0 : 0 < (⟨g.toArray⟩ : ByteArray).size, g.head? = some ((⟨g.toArray⟩ : ByteArray)[0]'h0) := by
  rcases g with _ | ⟨b, r⟩
  · simp at h
  · exact ⟨by show 0 < (b :: r).toArray.size; simp, rfl⟩
theorem byte_128 {x : UInt8} : (((x.toNat : Nat) : Int) == 128) = decide (x = 128) := by
  rw [Bool.eq_iff_iff]
  simp
  constructor
  · intro h; exact UInt8.toNat_inj.1 (by show x.toNat = 128; omega)
  · rintro rfl; rfl

set_option maxRecDepth 100000 in
set_option maxHeartbeats 2000000 in
theorem number_form (s : ByteArray) (at0 : Int) (g t : List UInt8) (w : World) (hs : s.size ≤ 1000000) (h : spanG (dropB s at0) = some (g, t)) (hh : g.head? = some 128) :
    Calls Tryd.prog 29 #[.agg #[.string s, .int .i64 at0]] w (NumBad s at0 20 w) := by
  have hg := (spanG_len h).1
  obtain ⟨h0, hb⟩ := first_byte hg
  have ht : (((((⟨g.toArray⟩ : ByteArray)[0]'h0).toNat : Nat) : Int) == 128) = true := by rw [byte_128]; rw [hh] at hb; simpa using (Option.some.inj hb).symm
  have H := Lib.hid h
  clear h hb hh hg
  go_enter Tryd.func29, Tryd.ntmps29
  go_wp2
  refine wp_scope_fwd 0 rfl ?_
  go_wp2_with fail
  refine (tgroups_any s at0 _ hs).mono ?_
  rintro e w1 ⟨⟨h2, _⟩ | ⟨g', t', h2, rfl⟩, hb1⟩
  · rw [H.out] at h2; cases h2
  · obtain ⟨rfl, rfl⟩ : g = g' ∧ t = t' := by rw [H.out] at h2; simpa using h2
    clear h2
    obtain ⟨hc, hf⟩ := bcell hb1
    have hz : w.heap.size + 1 + 1 < w1.heap.size := by have := hb1.size; simp at this; omega
    have hB : Below w.heap.size w w1 := ((((Below.refl _ _).alloc (Nat.le_refl _) _).alloc (by simp) _).alloc (by simp; omega) _).trans (hb1.mono (by simp; omega))
    obtain ⟨k0, k1, k2, f0, f1, f2, t1, r0, r1, r2, g0, g1, g2⟩ := kept13 (s := s) (at0 := at0) hc hf
    clear hb1 hc hf
    generalize (⟨g.toArray⟩ : ByteArray) = q at *
    go_wp2
    go_step3
    refine ⟨rfl, ?_⟩
    go_wp2
    go_region
    all_goals go_wp2
    rw [Exit.noGoto_ret]
    refine bodyPost_ret (v := .tuple #[.agg #[.string ⟨#[]⟩, .int .i64 0, .int .i64 0], .iface 66 (.agg #[.int .i64 at0, .iface 62 (.agg #[.int .i64 20])])]) (num_res (set3_cells k0 k1 k2)) rfl ⟨⟨_, .inr ⟨at0, rfl⟩, rfl⟩, ?_⟩
    exact (((hB.setCell (by simp) _).setCell (by simp) _).setCell (by simp) _).drew

set_option maxRecDepth 100000 in
set_option maxHeartbeats 2000000 in
theorem number_num (s : ByteArray) (at0 : Int) (g t : List UInt8) (w : World) (hs : s.size ≤ 1000000) (h : spanG (dropB s at0) = some (g, t)) (hh : g.head? ≠ some 128) (hv : 281474976710655 < val7 g) :
    Calls Tryd.prog 29 #[.agg #[.string s, .int .i64 at0]] w (NumBad s at0 10 w) := by
  have hg := (spanG_len h).1
  obtain ⟨h0, hb⟩ := first_byte hg
  have ht : (((((⟨g.toArray⟩ : ByteArray)[0]'h0).toNat : Nat) : Int) == 128) = false := by rw [byte_128]; simp; intro e; rw [e] at hb; exact hh hb
  have hgs : (⟨g.toArray⟩ : ByteArray).size ≤ 1000000 := by
    show g.toArray.size ≤ _
    have h1 := (spanG_len h).2
    have h2 := dropB_len s at0
    simp; omega
  obtain ⟨q, hq⟩ : ∃ q : ByteArray, (⟨g.toArray⟩ : ByteArray) = q := ⟨_, rfl⟩
  have HV := Lib.hid (show 281474976710655 < val7 q.data.toList by rw [← hq]; exact hv)
  have HQ := Lib.hid hq
  have h0' : 0 < q.size := hq ▸ h0
  have ht' : (((((q[0]'h0').toNat : Nat) : Int)) == 128) = false := by subst hq; exact ht
  rw [hq] at hgs
  have H := Lib.hid h
  clear h hb hh hg hv hq ht h0
  go_enter Tryd.func29, Tryd.ntmps29
  go_wp2
  refine wp_scope_fwd 0 rfl ?_
  go_wp2_with fail
  refine (tgroups_any s at0 _ hs).mono ?_
  rintro e w1 ⟨⟨h2, _⟩ | ⟨g', t', h2, rfl⟩, hb1⟩
  · rw [H.out] at h2; cases h2
  · obtain ⟨rfl, rfl⟩ : g = g' ∧ t = t' := by rw [H.out] at h2; simpa using h2
    clear h2 H
    rw [HQ.out]
    go_wp2_with fail
    refine (worth_any q _ hgs).mono ?_
    rintro e w2 ⟨⟨h2, _⟩ | ⟨_, rfl⟩, hb2⟩
    · exact absurd HV.out (by omega)
    replace hb1 := hb1.trans (hb2.mono hb1.size)
    clear hb2 w1
    obtain ⟨hc, hf⟩ := bcell hb1
    have hz : w.heap.size + 1 + 1 < w2.heap.size := by have := hb1.size; simp at this; omega
    have hB : Below w.heap.size w w2 := ((((Below.refl _ _).alloc (Nat.le_refl _) _).alloc (by simp) _).alloc (by simp; omega) _).trans (hb1.mono (by simp; omega))
    obtain ⟨k0, k1, k2, f0, f1, f2, t1, r0, r1, r2, g0, g1, g2⟩ := kept13 (s := s) (at0 := at0) hc hf
    clear hb1 hc hf
    go_wp2
    go_step3
    refine ⟨rfl, ?_⟩
    go_wp2
    go_region
    all_goals go_wp2
    rw [Exit.noGoto_ret]
    refine bodyPost_ret (v := .tuple #[.agg #[.string ⟨#[]⟩, .int .i64 0, .int .i64 0], .iface 66 (.agg #[.int .i64 at0, .iface 62 (.agg #[.int .i64 10])])]) (num_res (set3_cells (set_far k0) (set_far k1) (set_far k2))) rfl ⟨⟨_, .inr ⟨at0, rfl⟩, rfl⟩, ?_⟩
    exact ((((hB.setCell (p := ⟨w.heap.size + 1 + 1, 2, none⟩) (by simp; omega) _).setCell (by simp) _).setCell (by simp) _).setCell (by simp) _).drew

/-- What number answers of a number: the reader behind it. -/
def NumOk (s : ByteArray) (at0 n j : Int) (w : World) (e : Ending) (w' : World) : Prop :=
  e = .returned (.tuple #[.agg #[.string s, .int .i64 (at0 + j), .int .i64 n], .nilIface]) ∧ Below w.heap.size w w'

set_option maxRecDepth 100000 in
set_option maxHeartbeats 2000000 in
theorem number_ok (s : ByteArray) (at0 : Int) (g t : List UInt8) (w : World) (hs : s.size ≤ 1000000) (h : spanG (dropB s at0) = some (g, t)) (hh : g.head? ≠ some 128) (hv : val7 g ≤ 281474976710655) :
    Calls Tryd.prog 29 #[.agg #[.string s, .int .i64 at0]] w (NumOk s at0 (val7 g : Nat) (g.length : Int) w) := by
  have hg := (spanG_len h).1
  obtain ⟨h0, hb⟩ := first_byte hg
  have ht : (((((⟨g.toArray⟩ : ByteArray)[0]'h0).toNat : Nat) : Int) == 128) = false := by rw [byte_128]; simp; intro e; rw [e] at hb; exact hh hb
  have hgs : (⟨g.toArray⟩ : ByteArray).size ≤ 1000000 := by
    show g.toArray.size ≤ _
    have h1 := (spanG_len h).2
    have h2 := dropB_len s at0
    simp; omega
  obtain ⟨e0, e1, e2⟩ := extract_pre (pre := g) ⟨t, (spanG_some h).1.symm⟩ (by intro e; subst e; simp at hg)
  have hgl : (⟨g.toArray⟩ : ByteArray).size = g.length := by show g.toArray.size = _; simp
  obtain ⟨q, hq⟩ : ∃ q : ByteArray, (⟨g.toArray⟩ : ByteArray) = q := ⟨_, rfl⟩
  have HV := Lib.hid (show val7 q.data.toList ≤ 281474976710655 by rw [← hq]; exact hv)
  have HE := Lib.hid (show val7 q.data.toList = val7 g by rw [← hq])
  have HQ := Lib.hid hq
  have h0' : 0 < q.size := hq ▸ h0
  have ht' : (((((q[0]'h0').toNat : Nat) : Int)) == 128) = false := by subst hq; exact ht
  rw [hq] at hgs hgl
  rw [← hgl] at e1 ⊢
  have H := Lib.hid h
  clear h hb hh hg hv e2 hgl hq ht h0
  go_enter Tryd.func29, Tryd.ntmps29
  go_wp2
  refine wp_scope_fwd 0 rfl ?_
  go_wp2_with fail
  refine (tgroups_any s at0 _ hs).mono ?_
  rintro e w1 ⟨⟨h2, _⟩ | ⟨g', t', h2, rfl⟩, hb1⟩
  · rw [H.out] at h2; cases h2
  · obtain ⟨rfl, rfl⟩ : g = g' ∧ t = t' := by rw [H.out] at h2; simpa using h2
    clear h2 H
    rw [HQ.out]
    go_wp2_with fail
    refine (worth_any q _ hgs).mono ?_
    rintro e w2 ⟨⟨_, rfl⟩ | ⟨h2, _⟩, hb2⟩
    case inr => exact absurd HV.out (by omega)
    replace hb1 := hb1.trans (hb2.mono hb1.size)
    rw [HE.out]
    clear hb2 w1
    obtain ⟨hc, hf⟩ := bcell hb1
    have hz : w.heap.size + 1 + 1 < w2.heap.size := by have := hb1.size; simp at this; omega
    have hB : Below w.heap.size w w2 := ((((Below.refl _ _).alloc (Nat.le_refl _) _).alloc (by simp) _).alloc (by simp; omega) _).trans (hb1.mono (by simp; omega))
    obtain ⟨k0, k1, k2, f0, f1, f2, t1, r0, r1, r2, g0, g1, g2⟩ := kept13 (s := s) (at0 := at0) hc hf
    clear hb1 hc hf
    go_wp2
    rw [jump_ret]
    refine bodyPost_ret (num_res (set3_cells (set_far (set_far k0)) (set_far (set_far k1)) (set_far (set_far k2)))) rfl ⟨rfl, ?_⟩
    exact ((((hB.setCell (p := ⟨w.heap.size + 1 + 1, 2, none⟩) (by simp; omega) _).setCell (p := ⟨w.heap.size + 1 + 1, 1, none⟩) (by simp; omega) _).setCell (by simp) _).setCell (by simp) _).setCell (by simp) _

/-- What Decode answers: the number, the place behind, the error's number. -/
def decR (s : ByteArray) (at0 : Int) : Int × Int × Int := match decL (dropB s at0) with | .error k => (0, 0, k) | .ok (n, t) => ((n : Int), (s.size : Int) - (t.length : Int), 0)
theorem decR_bad {s : ByteArray} {at0 k : Int} (h : decL (dropB s at0) = .error k) : decR s at0 = (0, 0, k) := by unfold decR; rw [h]
theorem decR_ok {s : ByteArray} {at0 : Int} {n : Nat} {t : List UInt8} (h : decL (dropB s at0) = .ok (n, t)) : decR s at0 = ((n : Int), (s.size : Int) - (t.length : Int), 0) := by unfold decR; rw [h]

/-- What stands behind, and the place behind. -/
theorem place_behind {s : ByteArray} {at0 : Int} {g t : List UInt8} (h : dropB s at0 = g ++ t) (hg : 1 ≤ g.length) : 0 ≤ at0 ∧ at0 + (g.length : Int) = (s.size : Int) - (t.length : Int) ∧ t = dropB s (at0 + (g.length : Int)) := by
  have hl := congrArg List.length h
  unfold dropB at h hl ⊢
  by_cases h0 : at0 < 0
  · rw [if_pos h0] at hl; simp at hl; omega
  · rw [if_neg h0] at h hl
    rw [List.length_drop, List.length_append] at hl
    simp at hl
    refine ⟨by omega, by omega, ?_⟩
    rw [if_neg (by omega)]
    have e : (at0 + (g.length : Int)).toNat = at0.toNat + g.length := by omega
    rw [e, ← List.drop_drop, h]
    simp

/-- What number answers, for every text and place. -/
def NumR (s : ByteArray) (at0 : Int) (w : World) (e : Ending) (w' : World) : Prop :=
  (∃ k, decL (dropB s at0) = .error k ∧ NumBad s at0 k w e w') ∨ (∃ n t j, decL (dropB s at0) = .ok (n, t) ∧ 0 ≤ at0 ∧ at0 + j = (s.size : Int) - (t.length : Int) ∧ 1 ≤ j ∧ t = dropB s (at0 + j) ∧ NumOk s at0 (n : Nat) j w e w')
theorem number_any (s : ByteArray) (at0 : Int) (w : World) (hs : s.size ≤ 1000000) :
    Calls Tryd.prog 29 #[.agg #[.string s, .int .i64 at0]] w (NumR s at0 w) := by
  cases h : spanG (dropB s at0) with
  | none => exact (number_short s at0 w hs h).mono fun e w' hb => .inl ⟨11, decL_none h, hb⟩
  | some p =>
    obtain ⟨g, t⟩ := p
    by_cases hh : g.head? = some 128
    · exact (number_form s at0 g t w hs h hh).mono fun e w' hb => .inl ⟨20, decL_form h hh, hb⟩
    · by_cases hv : 281474976710655 < val7 g
      · exact (number_num s at0 g t w hs h hh hv).mono fun e w' hb => .inl ⟨10, decL_num h hh hv, hb⟩
      · have hp := place_behind (spanG_some h).1 (spanG_len h).1
        exact (number_ok s at0 g t w hs h hh (by omega)).mono fun e w' hb => .inr ⟨val7 g, t, g.length, decL_ok h hh (by omega), hp.1, hp.2.1, by have := (spanG_len h).1; omega, hp.2.2, hb⟩

set_option maxRecDepth 100000 in
set_option maxHeartbeats 1000000 in
theorem decode_any (s : ByteArray) (at0 : Int) (w : World) (hG : EnvE w) (hs : s.size ≤ 1000000) :
    Calls Tryd.prog 17 #[.string s, .int .i64 at0] w fun e w' => e = .returned (.tuple #[.int .i64 (decR s at0).1, .int .i64 (decR s at0).2.1, .int .i64 (decR s at0).2.2]) ∧ Below w.heap.size w w' := by
  generalize hR : decR s at0 = R
  obtain ⟨x, y, z⟩ := R
  have HR := Lib.hid hR
  clear hR
  go_enter Tryd.func17, Tryd.ntmps17
  go_wp2_with fail
  refine (number_any s at0 _ hs).mono ?_
  rintro e w1 (⟨k, hd, ⟨v, hv, rfl⟩, hb1⟩ | ⟨n, t, j, hd, h0, hj, hj1, ht, rfl, hb1⟩)
  · have h := decR_bad hd
    rw [HR.out] at h
    obtain ⟨rfl, rfl, rfl⟩ : x = 0 ∧ y = 0 ∧ z = k := by simpa using h
    have HV := Lib.hid hv
    clear h hd hv HR
    go_wp2_with fail
    refine (tellr_bad _ _ _ v z _ (hG.below hb1) HV.out).mono ?_
    rintro e w2 ⟨rfl, hb2⟩
    go_wp2
    go_quiet (fail)
    go_wp2
    refine bodyPost_ret (results_tmp3 rfl _ _ _) rfl ⟨rfl, below_drewN ((hb1.trans (hb2.mono hb1.size)).alloc (by have := hb1.size; have := hb2.size; omega) _) _⟩
  · have h := decR_ok hd
    rw [HR.out, ← hj] at h
    obtain ⟨rfl, rfl, rfl⟩ : x = (n : Int) ∧ y = at0 + j ∧ z = 0 := by simpa using h
    clear h hd HR hj ht
    go_wp2_with fail
    refine (tellr_ok _ _ _ _).mono ?_
    rintro e w2 ⟨rfl, hb2⟩
    go_wp2
    go_quiet (fail)
    go_wp2
    refine bodyPost_ret (results_tmp3 rfl _ _ _) rfl ⟨rfl, below_drewN ((hb1.trans (hb2.mono hb1.size)).alloc (by have := hb1.size; have := hb2.size; omega) _) _⟩
end Go.Proofs.YtajeanmmelldnaaDoor
