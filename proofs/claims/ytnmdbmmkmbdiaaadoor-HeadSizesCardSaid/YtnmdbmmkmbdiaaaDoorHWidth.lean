/- Contract of width of package head: in how many bytes the argument stands behind a first byte to which so much is added. -/
import Derived.Test.YtnmdbmmkmbdiaaaDoorHEach
set_option linter.unusedVariables false
set_option linter.unusedSimpArgs false
namespace Go.Proofs.YtnmdbmmkmbdiaaaDoor
open Go.RowKit Go.Shelf

attribute [local go_sem] Oper.semAt_some

/-- The width that is told by what is added to a first byte. -/
def widI (t : Int) : Int := if t = 24 then 1 else if t = 25 then 2 else if t = 26 then 4 else if t = 27 then 8 else 0

theorem widI_of {x : Int × Int} (h : x ∈ wideL) : widI x.1 = x.2 := by
  simp only [wideL, List.mem_cons, List.not_mem_nil, or_false] at h
  rcases h with rfl | rfl | rfl | rfl <;> decide
theorem widI_no {t : Int} (h : ∀ x ∈ wideL, (x.1 == t) = false) : widI t = 0 := by
  have h1 := h (24, 1) (by decide)
  have h2 := h (25, 2) (by decide)
  have h3 := h (26, 4) (by decide)
  have h4 := h (27, 8) (by decide)
  simp only [beq_eq_false_iff_ne, ne_eq] at h1 h2 h3 h4
  unfold widI
  rw [if_neg (Ne.symm h1), if_neg (Ne.symm h2), if_neg (Ne.symm h3), if_neg (Ne.symm h4)]

set_option maxRecDepth 100000 in
set_option maxHeartbeats 2000000 in
theorem hwidth_any (b0 b1 b2 b3 : Addr) (m t n : Int) (w : World) (hE : EnvH b0 b1 b2 b3 w) :
    Calls Tryd.prog 33 #[.agg #[.int .i64 m, .int .i64 t, .int .i64 n]] w fun e w' => e = .returned (.int .i64 (widI t)) ∧ Below w.heap.size w w' := by
  refine (callsIn_wide (n := 9)).1 ?_
  refine callsIn_of_wp_marks Tryd.func33 rfl trivial ?_ rfl
  simp only [Tryd.ntmps33, List.size_toArray, List.length_cons, List.length_nil, Nat.reduceAdd, Nat.reduceSub, Array.replicate_succ, Array.replicate_zero, List.push_toArray, List.append_toArray, List.nil_append, List.cons_append]
  gi_wp2
  refine wpIn_scope_wide ?_
  gi_wp2
  refine wpIn_label ?_
  gi_wp2_with (refine ⟨trivial, ?_⟩; gi_at_call 38; refine (eachWide_in Fence.wide _ trivial rfl _).mono ?_; rintro e w' ⟨rfl, rfl⟩)
  have hn0 : ((w.alloc (.cells #[.int .i64 m, .int .i64 t, .int .i64 n] 48)).alloc (.cells #[.int .i64 0] 3)).heap.size = w.heap.size + 1 + 1 := by simp
  have c1 : ((w.alloc (.cells #[.int .i64 m, .int .i64 t, .int .i64 n] 48)).alloc (.cells #[.int .i64 0] 3)).cell? ⟨w.heap.size, 1, none⟩ = some (.int .i64 t) := by go_simp
  have c2 : ((w.alloc (.cells #[.int .i64 m, .int .i64 t, .int .i64 n] 48)).alloc (.cells #[.int .i64 0] 3)).cell? ⟨w.heap.size + 1, 0, none⟩ = some (.int .i64 0) := by go_simp
  have f2 : ((w.alloc (.cells #[.int .i64 m, .int .i64 t, .int .i64 n] 48)).alloc (.cells #[.int .i64 0] 3)).frozen? ⟨w.heap.size + 1, 0, none⟩ = false := by go_simp
  have hB0 : Below w.heap.size w ((w.alloc (.cells #[.int .i64 m, .int .i64 t, .int .i64 n] 48)).alloc (.cells #[.int .i64 0] 3)) := ((Below.refl _ w).alloc (Nat.le_refl _) _).alloc (by simp) _
  have hE0 := hE.below hB0
  generalize ((w.alloc (.cells #[.int .i64 m, .int .i64 t, .int .i64 n] 48)).alloc (.cells #[.int .i64 0] 3)) = w0 at *
  refine wpIn_rangeFunc_ownH rfl (by omega) (gf := 45) (lb := #[]) rfl trivial (enters_of Tryd.func45 (by kernel_rfl) rfl)
    (wide_stops Fence.wide _ trivial rfl (by omega) b0 b1 b2 b3 _ hE0) (fun _ _ => trivial) (fun _ _ _ _ _ _ _ _ => trivial) (Below.refl _ _) (fun _ => rfl)
    (fun pre W => (W.cell? ⟨w.heap.size, 1, none⟩ = some (.int .i64 t) ∧ W.cell? ⟨w.heap.size + 1, 0, none⟩ = some (.int .i64 0) ∧ W.frozen? ⟨w.heap.size + 1, 0, none⟩ = false ∧ ∀ x ∈ pre, (x.1 == t) = false) ∧ Below w.heap.size w W)
    (fun c pre W => (c = .exit 0 ∧ ∃ x : Int × Int, x ∈ pre ∧ x.1 = t ∧ W.cell? ⟨w.heap.size + 1, 0, none⟩ = some (.int .i64 x.2)) ∧ Below w.heap.size w W)
    (OwnFrom.and (Own.from (fun s A B row hs hg hr => ⟨cell_kept hs.1 hg hr, cell_kept hs.2.1 hg hr, (frozen_kept hs.2.1 hg hr).trans hs.2.2.1, hs.2.2.2⟩) _) (ownFrom_below (Nat.le_refl _) (by omega)))
    (fun c => OwnFrom.and (Own.from (fun s A B row hs hg hr => ⟨hs.1, hs.2.elim fun x hx => ⟨x, hx.1, hx.2.1, cell_kept hx.2.2 hg hr⟩⟩) _) (ownFrom_below (Nat.le_refl _) (by omega)))
    ⟨⟨c1, c2, f2, fun x hx => by cases hx⟩, hB0⟩
    (fun x a' W => ∃ B : Nat, a' = { tmps := #[.agg #[.int .i64 m, .int .i64 t, .int .i64 n], .pointer (some ⟨w.heap.size, 0, none⟩), .int .i64 0, .pointer (some ⟨w.heap.size + 1, 0, none⟩), .pointer (some ⟨B, 0, none⟩), .func (.func 45) #[] #[], .agg #[.int .i64 x.1, .int .i64 x.2], undef, undef, undef, undef, undef, undef, undef, undef], defers := [] } ∧ W.cell? ⟨B, 0, none⟩ = some (.int .i64 x.1) ∧ W.cell? ⟨B, 1, none⟩ = some (.int .i64 x.2))
    (fun x a' => Own.from (fun s A B row hs hg hr => hs.elim fun b hb => ⟨b, hb.1, cell_kept hb.2.1 hg hr, cell_kept hb.2.2 hg hr⟩) _) ?assign ?body ?done ?stop
  case assign =>
    rintro l pre x W K ⟨⟨h1, h2, h3, h4⟩, hB⟩ hK
    have k1 := cell_alloc_l (.cells #[.int .i64 x.1, .int .i64 x.2] 72) h1
    have k2 := cell_alloc_l (.cells #[.int .i64 x.1, .int .i64 x.2] 72) h2
    have k3 := frozen_alloc_l (.cells #[.int .i64 x.1, .int .i64 x.2] 72) h2 h3
    clear h1 h2 h3 c1 c2 f2
    gi_wp2
    exact hK _ _ ((KeepsOthers.alloc _ _).from _) trivial ⟨⟨k1, k2, k3, h4⟩, hB.alloc hB.size _⟩ ⟨W.heap.size, rfl, by go_simp, by go_simp⟩
  case body =>
    rintro l pre x a' W _ _ ⟨⟨h1, h2, h3, h4⟩, hB⟩ ⟨B, rfl, e0, e1⟩ _
    clear c1 c2 f2
    have H4 := Lib.hid h4
    clear h4
    by_cases hx : x.1 = t
    · have hxb : (x.1 == t) = true := by simpa using hx
      have HX := Lib.hid hx
      clear hx
      gi_wp2
      refine ⟨(KeepsOthers.setCell _ _ _).from _, ⟨rfl, x, by simp, HX.out, World.cell?_setCell_same' _ _ _ (by rw [h2]; rfl)⟩, hB.setCell (p := ⟨w.heap.size + 1, 0, none⟩) (by simp) _⟩
    · have hxb : (x.1 == t) = false := by simpa using hx
      clear hx
      gi_wp2
      refine ⟨KeepsFrom.refl _ _, trivial, ⟨h1, h2, h3, fun y hy => ?_⟩, hB⟩
      rcases List.mem_append.1 hy with hy | hy
      · exact H4.out y hy
      · obtain rfl := List.mem_singleton.1 hy
        exact hxb
  case done =>
    rintro D ys W hD rfl ⟨⟨_, h2, _, h4⟩, hB⟩ hK
    have H4 := Lib.hid h4
    clear h4 c1 c2 f2
    gi_wp2
    refine ⟨by simp, .inl ⟨_, _, rfl, run_takeDeferred hK, ?_⟩⟩
    exact ⟨_, results_tmp rfl _ _ _, by rw [widI_no H4.out]; rfl, hB.trans (belowK_b (w := w) (Nat.le_refl _) W D _ _ (by omega) hK rfl rfl)⟩
  case stop =>
    rintro D c pre W hD ⟨k, rfl⟩ ⟨⟨rfl, x, hx, hxt, h2⟩, hB⟩ hK
    have HX := Lib.hid (show widI t = x.2 by rw [← hxt]; exact widI_of (List.mem_of_mem_take hx))
    clear hx hxt c1 c2 f2
    gi_wp2
    refine ⟨by simp, .inl ⟨_, _, rfl, run_takeDeferred hK, ?_⟩⟩
    exact ⟨_, results_tmp rfl _ _ _, by rw [HX.out]; rfl, hB.trans (belowK_b (w := w) (Nat.le_refl _) W D _ _ (by omega) hK rfl rfl)⟩
end Go.Proofs.YtnmdbmmkmbdiaaaDoor
