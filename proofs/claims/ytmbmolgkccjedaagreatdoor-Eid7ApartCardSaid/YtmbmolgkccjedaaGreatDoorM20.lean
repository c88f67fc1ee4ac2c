/- Contract of Right of package item: of every item. -/
import Derived.Test.YtmbmolgkccjedaaGreatDoorM19
import Derived.Test.YtmbmolgkccjedaaGreatDoorM5
import Derived.WalkSpells
import Derived.WalkLawsBesides
import Derived.Laws.ResultCell
import Derived.RegionTactic
import Derived.ChangeAlike
import Derived.WalkSmall
set_option linter.unusedVariables false
set_option linter.unusedSimpArgs false
namespace Go.Proofs.YtmbmolgkccjedaaGreatDoor
open Go.RowKit Go.Shelf

attribute [local go_sem] Oper.semAt_some

/-- Is what an item is of so? -/
def ownItm : Itm → Bool
  | .mk k n s l => ownB k n s l
mutual
theorem flat_ok : ∀ (d : Nat) (x : Itm), okI x = true ↔ ∀ p ∈ flat d x, ownItm p.2 = true
  | d, .mk k n s l => by
    simp only [okI, flat, Bool.and_eq_true, List.mem_cons, forall_eq_or_imp, ownItm, flats_ok (d + 1) l]
theorem flats_ok : ∀ (d : Nat) (l : List Itm), okIs l = true ↔ ∀ p ∈ flats d l, ownItm p.2 = true
  | _, [] => by simp [okIs, flats]
  | d, x :: r => by
    simp only [okIs, flats, Bool.and_eq_true, List.mem_append, or_imp, forall_and, flat_ok d x, flats_ok d r]
end
mutual
theorem flat_dep : ∀ (d M : Nat) (x : Itm), d + dep x ≤ M + 1 ↔ ∀ p ∈ flat d x, p.1 ≤ M
  | d, M, .mk k n s l => by
    have h := flats_dep (d + 1) M l
    simp only [flat, List.mem_cons, forall_eq_or_imp, dep, ← h]
    rcases l with _ | ⟨z, r⟩
    · simp [deps]
    · simp
      omega
theorem flats_dep : ∀ (d M : Nat) (l : List Itm), (l = [] ∨ d + deps l ≤ M + 1) ↔ ∀ p ∈ flats d l, p.1 ≤ M
  | _, _, [] => by simp [flats]
  | d, M, x :: r => by
    have h1 := flat_dep d M x
    have h2 := flats_dep d M r
    have h3 : 1 ≤ dep x := by cases x; simp [dep]
    simp only [flats, List.mem_append, or_imp, forall_and, ← h1, ← h2, deps]
    rcases r with _ | ⟨z, r⟩
    · simp [deps]
    · simp
      omega
end
theorem Yl.shape {PY : Itm → Prop} {ok : Nat → Prop} {w0 : World} (y : Yl PY ok w0) : ∃ (k n : Int) (s : List UInt8) (l : List Itm) (p : Option Addr) (cap : Nat), y.x = .mk k n s l ∧ y.v = .agg #[.int .i64 k, .int .i64 n, .string ⟨s.toArray⟩, .slice p l.length cap] ∧ s.length ≤ maxLen := by
  obtain ⟨d, ⟨k, n, s, l⟩, v, h, q⟩ := y
  simp only [ItV] at h
  obtain ⟨p, cap, rfl, _, _, hs, _⟩ := h
  exact ⟨k, n, s, l, p, cap, rfl, rfl, hs⟩
theorem flats_one (d : Nat) (x : Itm) : flats d [x] = flat d x := by simp [flats]
theorem rightI_flat (x : Itm) : rightI x = true ↔ (flat 1 x).length ≤ 60 ∧ ∀ p ∈ flat 1 x, p.1 ≤ 6 ∧ ownItm p.2 = true := by
  have h := flat_dep 1 6 x
  rw [rightI_iff, flat_length, flat_ok 1 x]
  constructor
  · intro ⟨a, b, c⟩; exact ⟨c, fun p hp => ⟨h.1 (by omega) p hp, a p hp⟩⟩
  · intro ⟨a, b⟩; exact ⟨fun p hp => (b p hp).2, by have := h.2 (fun p hp => (b p hp).1); omega, a⟩

theorem KeepOk.row {ok : Nat → Prop} {A B : World} {row : Option Nat} (hg : A.grownBy B row) (hr : ∀ r, row = some r → ¬ ok r) : KeepOk ok A B :=
  ⟨hg.size, fun a u ho e => by
    have hb := World.block_lt_of_cell? _ _ e
    have := hg.block a.block hb (fun h => hr _ h.symm ho)
    unfold World.cell? at e ⊢
    rw [this]
    exact e⟩
theorem KeepOk.set {ok : Nat → Prop} (W : World) (b : Nat) (v : Value) (h : ¬ ok b) : KeepOk ok W (W.setCell ⟨b, 0, none⟩ v) := KeepOk.row (grownBy_setCell' W b v) (fun r e => by cases e; exact h)

/-- The items of one that stands alone in a new row. -/
theorem its_one {ok : Nat → Prop} {W : World} {B : Nat} {x : Itm} {c0 c1 c2 c3 : Value} (ho : ok B) (h0 : W.cell? ⟨B, 0, none⟩ = some c0) (h1 : W.cell? ⟨B, 1, none⟩ = some c1) (h2 : W.cell? ⟨B, 2, none⟩ = some c2) (h3 : W.cell? ⟨B, 3, none⟩ = some c3) (hx : ItV ok W x (.agg #[c0, c1, c2, c3])) : ItsV ok W [x] (some ⟨B, 0, none⟩) 0 := by
  simp only [ItsV, and_true]
  exact ⟨⟨B, 0, none⟩, c0, c1, c2, c3, rfl, ho, by simpa [base_add] using h0, by simpa [base_add] using h1, by simpa [base_add] using h2, by simpa [base_add] using h3, hx⟩

set_option maxRecDepth 100000 in
set_option maxHeartbeats 4000000 in
theorem right_of (ok0 : Nat → Prop) (k n : Int) (s : List UInt8) (l : List Itm) (p : Option Addr) (cap : Nat) (w : World) (hx : ItV ok0 w (.mk k n s l) (.agg #[.int .i64 k, .int .i64 n, .string ⟨s.toArray⟩, .slice p l.length cap])) (hd : dep (.mk k n s l) ≤ 900) :
    Calls Tryz.prog 24 #[.agg #[.int .i64 k, .int .i64 n, .string ⟨s.toArray⟩, .slice p l.length cap]] w fun e w' => e = .returned (.bool (rightI (.mk k n s l))) ∧ Below w.heap.size w w' := by
  have HX := Lib.hid hx
  clear hx
  refine (callsIn_wide (n := 9)).1 ?_
  refine callsIn_of_wp_marks Tryz.func24 rfl trivial ?_ rfl
  simp only [Tryz.ntmps24, List.size_toArray, List.length_cons, List.length_nil, Nat.reduceAdd, Nat.reduceSub, Array.replicate_succ, Array.replicate_zero, List.push_toArray, List.append_toArray, List.nil_append, List.cons_append]
  gi_wp2
  refine wpIn_scope_wide ?_
  gi_wp2
  refine wpIn_label ?_
  gi_wp2
  refine ⟨trivial, ?_⟩
  refine (within_in _ 1 1 1 _ _).mono ?_
  rintro e w' ⟨rfl, rfl⟩
  gi_wp2
  have hB0 : Below w.heap.size w ((((((w.alloc (.cells #[.int .i64 k, .int .i64 n, .string ⟨s.toArray⟩, .slice p l.length cap] 26)).alloc (.cells #[.int .i64 0] 3)).alloc (.cells #[.bool true] 4)).alloc (.cells #[.int .i64 k, .int .i64 n, .string ⟨s.toArray⟩, .slice p l.length cap] 26)).alloc (.cells #[.int .i64 1] 3)).alloc (.cells #[.slice (some ⟨w.heap.size + 1 + 1 + 1, 0, none⟩) 1 1] 24)) := (((((((Below.refl _ w).alloc (Nat.le_refl _) _).alloc (by simp) _).alloc (by simp; omega) _).alloc (by simp; omega) _).alloc (by simp; omega) _).alloc (by simp; omega) _)
  have hsz : ((((((w.alloc (.cells #[.int .i64 k, .int .i64 n, .string ⟨s.toArray⟩, .slice p l.length cap] 26)).alloc (.cells #[.int .i64 0] 3)).alloc (.cells #[.bool true] 4)).alloc (.cells #[.int .i64 k, .int .i64 n, .string ⟨s.toArray⟩, .slice p l.length cap] 26)).alloc (.cells #[.int .i64 1] 3)).alloc (.cells #[.slice (some ⟨w.heap.size + 1 + 1 + 1, 0, none⟩) 1 1] 24)).heap.size = w.heap.size + 1 + 1 + 1 + 1 + 1 + 1 := by simp
  have d0 : ((((((w.alloc (.cells #[.int .i64 k, .int .i64 n, .string ⟨s.toArray⟩, .slice p l.length cap] 26)).alloc (.cells #[.int .i64 0] 3)).alloc (.cells #[.bool true] 4)).alloc (.cells #[.int .i64 k, .int .i64 n, .string ⟨s.toArray⟩, .slice p l.length cap] 26)).alloc (.cells #[.int .i64 1] 3)).alloc (.cells #[.slice (some ⟨w.heap.size + 1 + 1 + 1, 0, none⟩) 1 1] 24)).cell? ⟨w.heap.size + 1 + 1 + 1, 0, none⟩ = some (.int .i64 k) := by go_simp
  have d1 : ((((((w.alloc (.cells #[.int .i64 k, .int .i64 n, .string ⟨s.toArray⟩, .slice p l.length cap] 26)).alloc (.cells #[.int .i64 0] 3)).alloc (.cells #[.bool true] 4)).alloc (.cells #[.int .i64 k, .int .i64 n, .string ⟨s.toArray⟩, .slice p l.length cap] 26)).alloc (.cells #[.int .i64 1] 3)).alloc (.cells #[.slice (some ⟨w.heap.size + 1 + 1 + 1, 0, none⟩) 1 1] 24)).cell? ⟨w.heap.size + 1 + 1 + 1, 1, none⟩ = some (.int .i64 n) := by go_simp
  have d2 : ((((((w.alloc (.cells #[.int .i64 k, .int .i64 n, .string ⟨s.toArray⟩, .slice p l.length cap] 26)).alloc (.cells #[.int .i64 0] 3)).alloc (.cells #[.bool true] 4)).alloc (.cells #[.int .i64 k, .int .i64 n, .string ⟨s.toArray⟩, .slice p l.length cap] 26)).alloc (.cells #[.int .i64 1] 3)).alloc (.cells #[.slice (some ⟨w.heap.size + 1 + 1 + 1, 0, none⟩) 1 1] 24)).cell? ⟨w.heap.size + 1 + 1 + 1, 2, none⟩ = some (.string ⟨s.toArray⟩) := by go_simp
  have d3 : ((((((w.alloc (.cells #[.int .i64 k, .int .i64 n, .string ⟨s.toArray⟩, .slice p l.length cap] 26)).alloc (.cells #[.int .i64 0] 3)).alloc (.cells #[.bool true] 4)).alloc (.cells #[.int .i64 k, .int .i64 n, .string ⟨s.toArray⟩, .slice p l.length cap] 26)).alloc (.cells #[.int .i64 1] 3)).alloc (.cells #[.slice (some ⟨w.heap.size + 1 + 1 + 1, 0, none⟩) 1 1] 24)).cell? ⟨w.heap.size + 1 + 1 + 1, 3, none⟩ = some (.slice p l.length cap) := by go_simp
  have c1 : ((((((w.alloc (.cells #[.int .i64 k, .int .i64 n, .string ⟨s.toArray⟩, .slice p l.length cap] 26)).alloc (.cells #[.int .i64 0] 3)).alloc (.cells #[.bool true] 4)).alloc (.cells #[.int .i64 k, .int .i64 n, .string ⟨s.toArray⟩, .slice p l.length cap] 26)).alloc (.cells #[.int .i64 1] 3)).alloc (.cells #[.slice (some ⟨w.heap.size + 1 + 1 + 1, 0, none⟩) 1 1] 24)).cell? ⟨w.heap.size + 1, 0, none⟩ = some (.int .i64 0) := by go_simp
  have f1 : ((((((w.alloc (.cells #[.int .i64 k, .int .i64 n, .string ⟨s.toArray⟩, .slice p l.length cap] 26)).alloc (.cells #[.int .i64 0] 3)).alloc (.cells #[.bool true] 4)).alloc (.cells #[.int .i64 k, .int .i64 n, .string ⟨s.toArray⟩, .slice p l.length cap] 26)).alloc (.cells #[.int .i64 1] 3)).alloc (.cells #[.slice (some ⟨w.heap.size + 1 + 1 + 1, 0, none⟩) 1 1] 24)).frozen? ⟨w.heap.size + 1, 0, none⟩ = false := by go_simp
  have c2 : ((((((w.alloc (.cells #[.int .i64 k, .int .i64 n, .string ⟨s.toArray⟩, .slice p l.length cap] 26)).alloc (.cells #[.int .i64 0] 3)).alloc (.cells #[.bool true] 4)).alloc (.cells #[.int .i64 k, .int .i64 n, .string ⟨s.toArray⟩, .slice p l.length cap] 26)).alloc (.cells #[.int .i64 1] 3)).alloc (.cells #[.slice (some ⟨w.heap.size + 1 + 1 + 1, 0, none⟩) 1 1] 24)).cell? ⟨w.heap.size + 1 + 1, 0, none⟩ = some (.bool true) := by go_simp
  have f2 : ((((((w.alloc (.cells #[.int .i64 k, .int .i64 n, .string ⟨s.toArray⟩, .slice p l.length cap] 26)).alloc (.cells #[.int .i64 0] 3)).alloc (.cells #[.bool true] 4)).alloc (.cells #[.int .i64 k, .int .i64 n, .string ⟨s.toArray⟩, .slice p l.length cap] 26)).alloc (.cells #[.int .i64 1] 3)).alloc (.cells #[.slice (some ⟨w.heap.size + 1 + 1 + 1, 0, none⟩) 1 1] 24)).frozen? ⟨w.heap.size + 1 + 1, 0, none⟩ = false := by go_simp
  have c4 : ((((((w.alloc (.cells #[.int .i64 k, .int .i64 n, .string ⟨s.toArray⟩, .slice p l.length cap] 26)).alloc (.cells #[.int .i64 0] 3)).alloc (.cells #[.bool true] 4)).alloc (.cells #[.int .i64 k, .int .i64 n, .string ⟨s.toArray⟩, .slice p l.length cap] 26)).alloc (.cells #[.int .i64 1] 3)).alloc (.cells #[.slice (some ⟨w.heap.size + 1 + 1 + 1, 0, none⟩) 1 1] 24)).cell? ⟨w.heap.size + 1 + 1 + 1 + 1, 0, none⟩ = some (.int .i64 ((1 : Nat) : Int)) := by go_simp
  have c5 : ((((((w.alloc (.cells #[.int .i64 k, .int .i64 n, .string ⟨s.toArray⟩, .slice p l.length cap] 26)).alloc (.cells #[.int .i64 0] 3)).alloc (.cells #[.bool true] 4)).alloc (.cells #[.int .i64 k, .int .i64 n, .string ⟨s.toArray⟩, .slice p l.length cap] 26)).alloc (.cells #[.int .i64 1] 3)).alloc (.cells #[.slice (some ⟨w.heap.size + 1 + 1 + 1, 0, none⟩) 1 1] 24)).cell? ⟨w.heap.size + 1 + 1 + 1 + 1 + 1, 0, none⟩ = some (.slice (some ⟨w.heap.size + 1 + 1 + 1, 0, none⟩) 1 1) := by go_simp
  generalize ((((((w.alloc (.cells #[.int .i64 k, .int .i64 n, .string ⟨s.toArray⟩, .slice p l.length cap] 26)).alloc (.cells #[.int .i64 0] 3)).alloc (.cells #[.bool true] 4)).alloc (.cells #[.int .i64 k, .int .i64 n, .string ⟨s.toArray⟩, .slice p l.length cap] 26)).alloc (.cells #[.int .i64 1] 3)).alloc (.cells #[.slice (some ⟨w.heap.size + 1 + 1 + 1, 0, none⟩) 1 1] 24)) = w0 at *
  have hx0 : ItV (fun b => b ≠ w.heap.size + 1 ∧ b ≠ w.heap.size + 1 + 1) w0 (.mk k n s l) (.agg #[.int .i64 k, .int .i64 n, .string ⟨s.toArray⟩, .slice p l.length cap]) :=
    ItV.keep (fun a u _ e => by have hlt := World.block_lt_of_cell? _ _ e; exact ⟨(hB0.cell hlt).trans e, by omega, by omega⟩) _ _ HX.out
  have hI0 := its_one (B := w.heap.size + 1 + 1 + 1) (by omega) d0 d1 d2 d3 hx0
  have HH := Lib.hid hx0
  clear hx0 d0 d1 d2 d3
  refine wpIn_rangeFunc_ownH rfl (by omega) (gf := 71) (lb := #[.pointer (some ⟨w.heap.size + 1 + 1 + 1 + 1, 0, none⟩), .pointer (some ⟨w.heap.size + 1 + 1 + 1 + 1 + 1, 0, none⟩)]) rfl trivial (enters_of Tryz.func71 (by kernel_rfl) rfl)
    (within_stops _ (fun _ => True) (fun _ _ _ _ _ _ _ => trivial) (fun b => b ≠ w.heap.size + 1 ∧ b ≠ w.heap.size + 1 + 1) w0 (KeepOk (fun b => b ≠ w.heap.size + 1 ∧ b ≠ w.heap.size + 1 + 1)) (KeepOk.refl _) KeepOk.trans (fun W o _ => KeepOk.alloc W o) (fun W h => h.2) (KeepOk.box (fun b hb => by omega)) (fun W h => KeepOk.below h) 900 (some ⟨w.heap.size + 1 + 1 + 1, 0, none⟩) 1 1 [.mk k n s l] 1 rfl (by simp only [deps]; omega) (by omega) (by decide) hI0 (fun _ _ => trivial) _ _ (by omega) (by omega) c4 c5) KeepOk.trans keepOk_b (Below.refl _ _) (fun _ => rfl)
    (fun pre W => (W.cell? ⟨w.heap.size + 1, 0, none⟩ = some (.int .i64 (pre.length : Int)) ∧ W.frozen? ⟨w.heap.size + 1, 0, none⟩ = false ∧ W.cell? ⟨w.heap.size + 1 + 1, 0, none⟩ = some (.bool true) ∧ W.frozen? ⟨w.heap.size + 1 + 1, 0, none⟩ = false ∧ pre.length ≤ 60 ∧ (∀ y ∈ pre, y.d ≤ 6 ∧ ownItm y.x = true) ∧ KeepOk (fun b => b ≠ w.heap.size + 1 ∧ b ≠ w.heap.size + 1 + 1) w0 W) ∧ Below w.heap.size w W)
    (fun c pre W => (c = .exit 0 ∧ W.cell? ⟨w.heap.size + 1 + 1, 0, none⟩ = some (.bool false) ∧ (60 < pre.length ∨ ∃ y ∈ pre, 6 < y.d ∨ ownItm y.x = false)) ∧ Below w.heap.size w W)
    (OwnFrom.and (Own.from (fun s A B row hs hg hr => ⟨cell_kept hs.1 hg hr, (frozen_kept hs.1 hg hr).trans hs.2.1, cell_kept hs.2.2.1 hg hr, (frozen_kept hs.2.2.1 hg hr).trans hs.2.2.2.1, hs.2.2.2.2.1, hs.2.2.2.2.2.1, hs.2.2.2.2.2.2.trans (KeepOk.grown hg hr)⟩) _) (ownFrom_below (Nat.le_refl _) (by omega)))
    (fun c => OwnFrom.and (Own.from (fun s A B row hs hg hr => ⟨hs.1, cell_kept hs.2.1 hg hr, hs.2.2⟩) _) (ownFrom_below (Nat.le_refl _) (by omega)))
    ⟨⟨c1, f1, c2, f2, Nat.zero_le _, fun y hy => (by cases hy), KeepOk.refl _ _⟩, hB0⟩
    (fun y a' W => ∃ B : Nat, ∃ v0 v1 v2 v3 : Value, y.v = .agg #[v0, v1, v2, v3] ∧ w0.heap.size ≤ B ∧ a' = { tmps := #[.agg #[.int .i64 k, .int .i64 n, .string ⟨s.toArray⟩, .slice p l.length cap], .pointer (some ⟨w.heap.size, 0, none⟩), .bool false, .pointer (some ⟨w.heap.size + 1, 0, none⟩), .pointer (some ⟨w.heap.size + 1 + 1, 0, none⟩), .int .i64 (y.d : Int), .pointer (some ⟨B, 0, none⟩), .agg #[.int .i64 k, .int .i64 n, .string ⟨s.toArray⟩, .slice p l.length cap], .slice (some ⟨w.heap.size + 1 + 1 + 1, 0, none⟩) 1 1, .func (.func 71) #[] #[.pointer (some ⟨w.heap.size + 1 + 1 + 1 + 1, 0, none⟩), .pointer (some ⟨w.heap.size + 1 + 1 + 1 + 1 + 1, 0, none⟩)], .int .i64 (y.d : Int), .agg #[v0, v1, v2, v3], undef, undef, undef, undef, undef, undef, undef, undef, undef, undef, undef, undef, undef, undef], defers := [] } ∧ W.cell? ⟨B, 0, none⟩ = some v0 ∧ W.cell? ⟨B, 1, none⟩ = some v1 ∧ W.cell? ⟨B, 2, none⟩ = some v2 ∧ W.cell? ⟨B, 3, none⟩ = some v3)
    (fun y a' => Own.from (fun s A B row hs hg hr => by
      obtain ⟨b, v0, v1, v2, v3, h1, h1', h2, h3, h4, h5, h6⟩ := hs
      exact ⟨b, v0, v1, v2, v3, h1, h1', h2, cell_kept h3 hg hr, cell_kept h4 hg hr, cell_kept h5 hg hr, cell_kept h6 hg hr⟩) _) ?assign ?body ?done ?stop
  case assign =>
    rintro l' pre y W K ⟨⟨h1, h2, h3, h4, h5, h6, h7⟩, hB⟩ hK
    obtain ⟨yk, yn, ys, yl, yp, yc, hyx, hyv, _⟩ := y.shape
    have k1 := cell_alloc_l (.cells #[.int .i64 yk, .int .i64 yn, .string ⟨ys.toArray⟩, .slice yp yl.length yc] 26) h1
    have k2 := frozen_alloc_l (.cells #[.int .i64 yk, .int .i64 yn, .string ⟨ys.toArray⟩, .slice yp yl.length yc] 26) h1 h2
    have k3 := cell_alloc_l (.cells #[.int .i64 yk, .int .i64 yn, .string ⟨ys.toArray⟩, .slice yp yl.length yc] 26) h3
    have k4 := frozen_alloc_l (.cells #[.int .i64 yk, .int .i64 yn, .string ⟨ys.toArray⟩, .slice yp yl.length yc] 26) h3 h4
    have H6 := Lib.hid h6
    have H7 := Lib.hid h7
    clear h1 h2 h3 h4 h6 h7 c1 f1 c2 f2 c4 c5
    simp only [hyv]
    gi_wp2
    exact hK _ _ ((KeepsOthers.alloc _ _).from _) (KeepOk.alloc _ _) ⟨⟨k1, k2, k3, k4, h5, H6.out, H7.out.trans (KeepOk.alloc _ _)⟩, hB.alloc hB.size _⟩ ⟨W.heap.size, _, _, _, _, hyv, H7.out.1, rfl, by go_simp, by go_simp, by go_simp, by go_simp⟩
  case body =>
    rintro l' pre y a' W _ _ ⟨⟨h1, h2, h3, h4, h5, h6, h7⟩, hB⟩ ⟨B, v0, v1, v2, v3, hv, hBl, rfl, e0, e1, e2, e3⟩ _
    clear c1 f1 c2 f2 c4 c5
    obtain ⟨yk, yn, ys, yl, yp, yc, hyx, hyv, hys⟩ := y.shape
    rw [hyv] at hv
    simp only [Value.agg.injEq, Array.mk.injEq, List.cons.injEq, and_true] at hv
    obtain ⟨rfl, rfl, rfl, rfl⟩ := hv
    have hlB : w.heap.size + 1 ≠ B := by omega
    have hlB' : w.heap.size + 1 + 1 ≠ B := by omega
    have H6 := Lib.hid h6
    have H7 := Lib.hid h7
    have HYX := Lib.hid hyx
    have HYV := Lib.hid hyv
    have hyl : (pre ++ [y]).length = pre.length + 1 := by simp
    have HYL := Lib.hid hyl
    clear h6 h7 hyx hyv hyl
    have hzW : w.heap.size + 1 + 1 < W.heap.size := World.block_lt_of_cell? _ _ h3
    have hb11 : Below w.heap.size w (W.setCell ⟨w.heap.size + 1, 0, none⟩ (.int .i64 ((pre.length : Int) + 1))) := hB.setCell (p := ⟨w.heap.size + 1, 0, none⟩) (by simp) _
    have HK1 : KeepOk (fun b => b ≠ w.heap.size + 1 ∧ b ≠ w.heap.size + 1 + 1) W (W.setCell ⟨w.heap.size + 1, 0, none⟩ (.int .i64 ((pre.length : Int) + 1))) := KeepOk.set _ _ _ (by omega)
    by_cases t1 : 60 < pre.length + 1
    · have b1 : decide (60 < (pre.length : Int) + 1) = true := by simp; omega
      clear t1
      gi_wp2
      refine ⟨trivial, ?_⟩
      gi_wp2
      refine ⟨((KeepsOthers.setCell _ _ _).trans (KeepsOthers.setCell _ _ _)).from _, ⟨rfl, World.cell?_setCell_same' _ _ _ (by simp [go_sem, h3]), .inl (by rw [HYL.out]; simp at b1; omega)⟩, hb11.setCell (p := ⟨w.heap.size + 1 + 1, 0, none⟩) (by simp; omega) _⟩
    have b1 : decide (60 < (pre.length : Int) + 1) = false := by simp; omega
    by_cases t2 : 6 < y.d
    · have b2 : decide (6 < (y.d : Int)) = true := by simp; omega
      have T2 := Lib.hid t2
      clear t1 t2
      gi_wp2
      refine ⟨trivial, ?_⟩
      gi_wp2
      refine ⟨((KeepsOthers.setCell _ _ _).trans (KeepsOthers.setCell _ _ _)).from _, ⟨rfl, World.cell?_setCell_same' _ _ _ (by simp [go_sem, h3]), .inr ⟨y, by simp, .inl T2.out⟩⟩, hb11.setCell (p := ⟨w.heap.size + 1 + 1, 0, none⟩) (by simp; omega) _⟩
    have b2 : decide (6 < (y.d : Int)) = false := by simp; omega
    have T1 := Lib.hid t1
    have T2 := Lib.hid t2
    clear t1 t2
    cases ho : ownB yk yn ys yl with
    | false =>
      have HO := Lib.hid (show ownItm y.x = false by rw [HYX.out]; exact ho)
      gi_wp2_with (refine ⟨trivial, ?_⟩; gi_at_call 44; refine (CallsIn.inRound l' (callsIn_wide.2 (alone_any _ _ _ _ _ _ _ hys))).mono ?_; rintro e w1 ⟨rfl, hb1⟩; have c2' : w1.cell? ⟨w.heap.size + 1 + 1, 0, none⟩ = some (.bool true) := (hb1.cell (p := ⟨w.heap.size + 1 + 1, 0, none⟩) (by simp; omega)).trans (by simpa [go_sem] using h3); have f2' : w1.frozen? ⟨w.heap.size + 1 + 1, 0, none⟩ = false := (hb1.frozen (p := ⟨w.heap.size + 1 + 1, 0, none⟩) (by simp; omega)).trans (by simpa [go_sem] using h4))
      have hb2 := hb11.trans (hb1.mono (by simpa using hB.size))
      refine ⟨(((KeepsOthers.setCell _ _ _).trans (keeps_below hb1)).trans (KeepsOthers.setCell _ _ _)).from _, ⟨rfl, World.cell?_setCell_same' _ _ _ (by simp [c2']), .inr ⟨y, by simp, .inr HO.out⟩⟩, hb2.setCell (p := ⟨w.heap.size + 1 + 1, 0, none⟩) (by simp; omega) _⟩
    | true =>
      have HO := Lib.hid (show ownItm y.x = true by rw [HYX.out]; exact ho)
      gi_wp2_with (refine ⟨trivial, ?_⟩; gi_at_call 44; refine (CallsIn.inRound l' (callsIn_wide.2 (alone_any _ _ _ _ _ _ _ hys))).mono ?_; rintro e w1 ⟨rfl, hb1⟩; have c2' : w1.cell? ⟨w.heap.size + 1 + 1, 0, none⟩ = some (.bool true) := (hb1.cell (p := ⟨w.heap.size + 1 + 1, 0, none⟩) (by simp; omega)).trans (by simpa [go_sem] using h3); have f2' : w1.frozen? ⟨w.heap.size + 1 + 1, 0, none⟩ = false := (hb1.frozen (p := ⟨w.heap.size + 1 + 1, 0, none⟩) (by simp; omega)).trans (by simpa [go_sem] using h4))
      have hb2 := hb11.trans (hb1.mono (by simpa using hB.size))
      have c1' : w1.cell? ⟨w.heap.size + 1, 0, none⟩ = some (.int .i64 ((pre.length : Int) + 1)) := (hb1.cell (p := ⟨w.heap.size + 1, 0, none⟩) (by simp; omega)).trans (World.cell?_setCell_same' _ _ _ (by simp [h1]))
      have f1' : w1.frozen? ⟨w.heap.size + 1, 0, none⟩ = false := (hb1.frozen (p := ⟨w.heap.size + 1, 0, none⟩) (by simp; omega)).trans (by simpa [go_sem] using h2)
      have hk2 := HK1.trans (KeepOk.below hb1)
      refine ⟨((KeepsOthers.setCell _ _ _).trans (keeps_below hb1)).from _, hk2, ⟨by rw [HYL.out, c1']; rfl, f1', c2', f2', by rw [HYL.out]; have := T1.out; omega, fun z hz => ?_, H7.out.trans hk2⟩, hb2⟩
      rcases List.mem_append.1 hz with hz | hz
      · exact H6.out z hz
      · obtain rfl := List.mem_singleton.1 hz
        exact ⟨by have := T2.out; omega, HO.out⟩
  case done =>
    rintro D ys W hD hys ⟨⟨_, _, h3, _, h5, h6, _⟩, hB⟩ hK
    have HR := Lib.hid (show rightI (.mk k n s l) = true by
      rw [flats_one] at hys
      rw [rightI_flat, ← hys]
      refine ⟨by rw [List.length_map]; exact h5, fun p hp => ?_⟩
      obtain ⟨y, hy, rfl⟩ := List.mem_map.1 hp
      exact h6 y hy)
    clear hys h5 h6 c1 f1 c2 f2 c4 c5
    gi_wp2
    refine ⟨by simp, .inl ⟨_, _, rfl, run_takeDeferred hK, ?_⟩⟩
    exact ⟨_, results_tmp rfl _ _ _, by rw [HR.out]; rfl, hB.trans (belowK_b (w := w) (Nat.le_refl _) W D _ _ (by omega) hK rfl rfl)⟩
  case stop =>
    rintro D c pre W hD hpre ⟨⟨rfl, h3, h5⟩, hB⟩ hK
    have HR := Lib.hid (show rightI (.mk k n s l) = false by
      rw [flats_one] at hpre
      cases h : rightI (.mk k n s l) with
      | false => rfl
      | true =>
        obtain ⟨q1, q2⟩ := (rightI_flat _).1 h
        rcases h5 with h5 | ⟨y, hy, h5⟩
        · have := hpre.length_le
          rw [List.length_map] at this
          omega
        · have := q2 y.key (hpre.subset (List.mem_map.2 ⟨y, hy, rfl⟩))
          obtain ⟨r1, r2⟩ := this
          rcases h5 with h5 | h5
          · have : y.d ≤ 6 := r1
            omega
          · have : ownItm y.x = true := r2
            rw [h5] at this
            cases this)
    clear hpre h5 c1 f1 c2 f2 c4 c5
    gi_wp2
    refine ⟨by simp, .inl ⟨_, _, rfl, run_takeDeferred hK, ?_⟩⟩
    exact ⟨_, results_tmp rfl _ _ _, by rw [HR.out]; rfl, hB.trans (belowK_b (w := w) (Nat.le_refl _) W D _ _ (by omega) hK rfl rfl)⟩

theorem iright_any (ok0 : Nat → Prop) (x : Itm) (v : Value) (w : World) (hx : ItV ok0 w x v) (hd : dep x ≤ 900) :
    Calls Tryz.prog 24 #[v] w fun e w' => e = .returned (.bool (rightI x)) ∧ Below w.heap.size w w' := by
  have hv := hx
  obtain ⟨k, n, s, l⟩ := x
  simp only [ItV] at hx
  obtain ⟨p, cap, rfl, _⟩ := hx
  exact right_of ok0 k n s l p cap w hv hd
end Go.Proofs.YtmbmolgkccjedaaGreatDoor

/- Contracts of tell of package item, at its three types: the value, or nothing and the error's number. -/
set_option linter.unusedVariables false
set_option linter.unusedSimpArgs false
namespace Go.Proofs.YtmbmolgkccjedaaGreatDoor
open Go.RowKit

theorem EnvE.alloc {w : World} (h : EnvE w) (o : Obj) : EnvE (w.alloc o) := h.below ((Below.refl _ _).alloc (Nat.le_refl _) _)

set_option maxHeartbeats 400000 in
theorem itells_ok (s : ByteArray) (w : World) :
    Calls Tryz.prog 41 #[.agg #[.string s, .nilIface]] w fun e w' => e = .returned (.tuple #[.string s, .int .i64 0]) ∧ Below w.heap.size w w' := by
  go_enter Tryz.func41, Tryz.ntmps41
  go_wp2_with fail
  refine (as_nil _ _).mono ?_
  rintro e w' ⟨rfl, rfl⟩
  go_wp2
  go_ret2
  exact ⟨rfl, ((Below.refl _ _).alloc (Nat.le_refl _) _).alloc (by simp) _⟩

set_option maxHeartbeats 400000 in
theorem itells_bad (s : ByteArray) (v : Value) (k : Int) (w : World) (hG : EnvE w) (hv : Wrong k v) :
    Calls Tryz.prog 41 #[.agg #[.string s, v]] w fun e w' => e = .returned (.tuple #[.string ⟨#[]⟩, .int .i64 k]) ∧ Below w.heap.size w w' := by
  have HV := Lib.hid hv
  clear hv
  go_enter Tryz.func41, Tryz.ntmps41
  go_wp2_with fail
  refine (As_wrong (w.heap.size + 1) v k HV.out (.int .i64 0) _ ((hG.alloc _).alloc _) (by go_simp) (by go_simp)).mono ?_
  rintro e w1 ⟨rfl, hc1, hb1⟩
  have hB : Below w.heap.size w w1 := (((Below.refl _ _).alloc (Nat.le_refl _) _).alloc (by simp) _).trans (hb1.mono (by omega))
  clear hb1
  go_wp2
  go_quiet (fail)
  go_wp2
  go_ret2
  exact ⟨rfl, below_drewN hB _⟩

set_option maxHeartbeats 2000000 in
theorem itellp_ok (k n : Int) (s : ByteArray) (p : Option Addr) (m cap : Nat) (at0 : Int) (w : World) :
    Calls Tryz.prog 87 #[.agg #[.int .i64 k, .int .i64 n, .string s, .slice p m cap, .int .i64 at0, .nilIface]] w fun e w' => e = .returned (.tuple #[.agg #[.int .i64 k, .int .i64 n, .string s, .slice p m cap, .int .i64 at0], .int .i64 0]) ∧ Below w.heap.size w w' := by
  go_enter Tryz.func87, Tryz.ntmps87
  go_wp2_with fail
  refine (as_nil _ _).mono ?_
  rintro e w' ⟨rfl, rfl⟩
  go_wp2
  refine bodyPost_ret (v := .tuple #[.agg #[.int .i64 k, .int .i64 n, .string s, .slice p m cap, .int .i64 at0], .int .i64 0]) (by simp [results, Tryz.results87, go_sem]) rfl ⟨rfl, ?_⟩
  exact (((Below.refl _ _).alloc (Nat.le_refl _) _).alloc (by simp) _).alloc (by simp; omega) _

set_option maxHeartbeats 4000000 in
theorem itellp_bad (k n : Int) (s : ByteArray) (p : Option Addr) (m cap : Nat) (at0 : Int) (v : Value) (e : Int) (w : World) (hG : EnvE w) (hv : Wrong e v) :
    Calls Tryz.prog 87 #[.agg #[.int .i64 k, .int .i64 n, .string s, .slice p m cap, .int .i64 at0, v]] w fun e' w' => e' = .returned (.tuple #[.agg #[.int .i64 0, .int .i64 0, .string ⟨#[]⟩, .slice none 0 0, .int .i64 0], .int .i64 e]) ∧ Below w.heap.size w w' := by
  have HV := Lib.hid hv
  clear hv
  go_enter Tryz.func87, Tryz.ntmps87
  go_wp2_with fail
  refine (As_wrong (w.heap.size + 1 + 1) v e HV.out (.int .i64 0) _ (((hG.alloc _).alloc _).alloc _) (by go_simp) (by go_simp)).mono ?_
  rintro e' w1 ⟨rfl, hc1, hb1⟩
  have hc : ∀ b o, b < w.heap.size + 1 + 1 → _ := fun b o h => hb1.cell (p := ⟨b, o, none⟩) h
  have hf : ∀ b o, b < w.heap.size + 1 + 1 → _ := fun b o h => hb1.frozen (p := ⟨b, o, none⟩) h
  have hz : w.heap.size + 1 + 1 < w1.heap.size := by have := hb1.size; simp at this; omega
  have hz1 : w.heap.size + 1 < w1.heap.size := by omega
  have hB : Below w.heap.size w w1 := ((((Below.refl _ _).alloc (Nat.le_refl _) _).alloc (by simp) _).alloc (by simp; omega) _).trans (hb1.mono (by omega))
  have k0 : w1.cell? ⟨w.heap.size + 1, 0, none⟩ = some (.int .i64 0) := (hc (w.heap.size + 1) 0 (by omega)).trans (by go_simp)
  have k1 : w1.cell? ⟨w.heap.size + 1, 1, none⟩ = some (.int .i64 0) := (hc (w.heap.size + 1) 1 (by omega)).trans (by go_simp)
  have k2 : w1.cell? ⟨w.heap.size + 1, 2, none⟩ = some (.string ⟨#[]⟩) := (hc (w.heap.size + 1) 2 (by omega)).trans (by go_simp)
  have k3 : w1.cell? ⟨w.heap.size + 1, 3, none⟩ = some (.slice none 0 0) := (hc (w.heap.size + 1) 3 (by omega)).trans (by go_simp)
  have k4 : w1.cell? ⟨w.heap.size + 1, 4, none⟩ = some (.int .i64 0) := (hc (w.heap.size + 1) 4 (by omega)).trans (by go_simp)
  have f0 : w1.frozen? ⟨w.heap.size + 1, 0, none⟩ = false := (hf (w.heap.size + 1) 0 (by omega)).trans (by go_simp)
  have f1 : w1.frozen? ⟨w.heap.size + 1, 1, none⟩ = false := (hf (w.heap.size + 1) 1 (by omega)).trans (by go_simp)
  have f2 : w1.frozen? ⟨w.heap.size + 1, 2, none⟩ = false := (hf (w.heap.size + 1) 2 (by omega)).trans (by go_simp)
  have f3 : w1.frozen? ⟨w.heap.size + 1, 3, none⟩ = false := (hf (w.heap.size + 1) 3 (by omega)).trans (by go_simp)
  have f4 : w1.frozen? ⟨w.heap.size + 1, 4, none⟩ = false := (hf (w.heap.size + 1) 4 (by omega)).trans (by go_simp)
  clear hb1 hc hf
  go_wp2
  go_region
  all_goals go_wp2
  refine bodyPost_ret (v := .tuple #[.agg #[.int .i64 0, .int .i64 0, .string ⟨#[]⟩, .slice none 0 0, .int .i64 0], .int .i64 e]) (by simp [results, Tryz.results87, go_sem, hz1, Nat.lt_succ_of_lt hz1, Nat.ne_of_lt hz1, k0, k1, k2, k3, k4]) rfl ⟨rfl, ?_⟩
  exact ((((((hB.setCell (by simp) _).setCell (by simp) _).setCell (by simp) _).setCell (by simp) _).setCell (by simp) _).alloc (by simp; omega) _).drew
end Go.Proofs.YtmbmolgkccjedaaGreatDoor
