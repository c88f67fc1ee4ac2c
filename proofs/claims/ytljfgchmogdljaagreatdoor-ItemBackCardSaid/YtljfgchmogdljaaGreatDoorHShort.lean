/- Contract of shortest of package head: the head with the fewest bytes of a major and a number. -/
import Derived.Test.YtljfgchmogdljaaGreatDoorG2
import Derived.Test.YtljfgchmogdljaaGreatDoorG1
set_option linter.unusedVariables false
set_option linter.unusedSimpArgs false
namespace Go.Proofs.YtljfgchmogdljaaGreatDoor
open Go.RowKit Go.Shelf

attribute [local go_sem] Oper.semAt_some

theorem keeps_below {W W' : World} (hb : Below W.heap.size W W') : KeepsOthers W W' := ⟨hb.size, fun k o hk _ => (hb.block k (lt_of_heap hk)).trans hk⟩

/-- What holds of shortest's variables: the number's box, the answer's, the head's. -/
structure HS (s : Nat) (m a n : Int) (r0 r1 r2 : Value) (W : World) : Prop where
  cn : W.cell? ⟨s, 0, none⟩ = some (.int .i64 n)
  c0 : W.cell? ⟨s + 1, 0, none⟩ = some r0
  c1 : W.cell? ⟨s + 1, 1, none⟩ = some r1
  c2 : W.cell? ⟨s + 1, 2, none⟩ = some r2
  f0 : W.frozen? ⟨s + 1, 0, none⟩ = false
  f1 : W.frozen? ⟨s + 1, 1, none⟩ = false
  f2 : W.frozen? ⟨s + 1, 2, none⟩ = false
  h0 : W.cell? ⟨s + 1 + 1, 0, none⟩ = some (.int .i64 m)
  h1 : W.cell? ⟨s + 1 + 1, 1, none⟩ = some (.int .i64 a)
  h2 : W.cell? ⟨s + 1 + 1, 2, none⟩ = some (.int .i64 n)
  fh : W.frozen? ⟨s + 1 + 1, 1, none⟩ = false

theorem HS.kept {s : Nat} {m a n : Int} {r0 r1 r2 : Value} {W W' : World} {row : Option Nat} (h : HS s m a n r0 r1 r2 W) (hg : W.grownBy W' row) (hr : ∀ r, row = some r → ∃ o : Obj, W.heap[r]? = some o ∧ o.isCells = false) : HS s m a n r0 r1 r2 W' :=
  ⟨cell_kept h.cn hg hr, cell_kept h.c0 hg hr, cell_kept h.c1 hg hr, cell_kept h.c2 hg hr, (frozen_kept h.c0 hg hr).trans h.f0, (frozen_kept h.c1 hg hr).trans h.f1, (frozen_kept h.c2 hg hr).trans h.f2, cell_kept h.h0 hg hr, cell_kept h.h1 hg hr, cell_kept h.h2 hg hr, (frozen_kept h.h1 hg hr).trans h.fh⟩
theorem HS.below {s : Nat} {m a n : Int} {r0 r1 r2 : Value} {W W' : World} (h : HS s m a n r0 r1 r2 W) (hb : Below W.heap.size W W') : HS s m a n r0 r1 r2 W' := by
  have c : ∀ {p : Addr} {v : Value}, W.cell? p = some v → W'.cell? p = some v := fun e => (hb.cell (World.block_lt_of_cell? _ _ e)).trans e
  have f : ∀ {p : Addr} {v : Value}, W.cell? p = some v → W.frozen? p = false → W'.frozen? p = false := fun e k => (hb.frozen (World.block_lt_of_cell? _ _ e)).trans k
  exact ⟨c h.cn, c h.c0, c h.c1, c h.c2, f h.c0 h.f0, f h.c1 h.f1, f h.c2 h.f2, c h.h0, c h.h1, c h.h2, f h.h1 h.fh⟩
theorem HS.setA {s : Nat} {m a n : Int} {r0 r1 r2 : Value} {W : World} (h : HS s m a n r0 r1 r2 W) (a' : Int) : HS s m a' n r0 r1 r2 (W.setCell ⟨s + 1 + 1, 1, none⟩ (.int .i64 a')) := by
  refine ⟨?_, ?_, ?_, ?_, ?_, ?_, ?_, ?_, World.cell?_setCell_same' _ _ _ (by rw [h.h1]; rfl), ?_, ?_⟩
  · rw [← h.cn]; simp [go_sem]
  · rw [← h.c0]; simp [go_sem]
  · rw [← h.c1]; simp [go_sem]
  · rw [← h.c2]; simp [go_sem]
  · rw [World.frozen?_setCell]; exact h.f0
  · rw [World.frozen?_setCell]; exact h.f1
  · rw [World.frozen?_setCell]; exact h.f2
  · rw [← h.h0]; simp [go_sem]
  · rw [← h.h2]; simp [go_sem]
  · rw [World.frozen?_setCell]; exact h.fh

theorem HS.setR {s : Nat} {m a n : Int} {r0 r1 r2 : Value} {W : World} (h : HS s m a n r0 r1 r2 W) (x y z : Value) : HS s m a n x y z (((W.setCell ⟨s + 1, 0, none⟩ x).setCell ⟨s + 1, 1, none⟩ y).setCell ⟨s + 1, 2, none⟩ z) := by
  have d0 := h.c0
  have d1 := h.c1
  have d2 := h.c2
  refine ⟨?_, ?_, ?_, ?_, ?_, ?_, ?_, ?_, ?_, ?_, ?_⟩
  · rw [← h.cn]; simp [go_sem]
  · simp [go_sem, d0]
  · simp [go_sem, d1]
  · simp [go_sem, d2]
  · simp only [World.frozen?_setCell]; exact h.f0
  · simp only [World.frozen?_setCell]; exact h.f1
  · simp only [World.frozen?_setCell]; exact h.f2
  · rw [← h.h0]; simp [go_sem]
  · rw [← h.h1]; simp [go_sem]
  · rw [← h.h2]; simp [go_sem]
  · simp only [World.frozen?_setCell]; exact h.fh
theorem short_res {B : Nat} {m a n : Int} {x y z : Value} {W : World} {tmps : Array Value} (h : HS B m a n x y z W) (h4 : tmps[4]?.getD undef = .pointer (some ⟨B + 1, 0, none⟩) := by rfl) : (results Tryz.f59 tmps).run Tryz.prog W = .ok (.agg #[x, y, z]) W := by
  have d0 := h.c0
  have d1 := h.c1
  have d2 := h.c2
  simp [results, Tryz.results59, go_sem, h4, d0, d1, d2]
theorem heap_set3 {W : World} {B D : Nat} {o : Obj} {x y z : Value} (h : W.heap[D]? = some o) (hne : B ≠ D) : (((W.setCell ⟨B, 0, none⟩ x).setCell ⟨B, 1, none⟩ y).setCell ⟨B, 2, none⟩ z).heap[D]? = some o := by
  rw [Below.heap_setCell _ _ _ _ (by simp; omega), Below.heap_setCell _ _ _ _ (by simp; omega), Below.heap_setCell _ _ _ _ (by simp; omega)]
  exact h

/-- Has the width room for the number? -/
def roomB (n k : Int) : Bool := (bytesR n k).2 == 0
theorem roomB_of {n k : Nat} (h1 : 1 ≤ k) (h8 : k ≤ 8) (hn : n ≤ 281474976710655) (h : n < 256 ^ k) : roomB n k = true := by unfold roomB; rw [bytesR_of h1 h8 hn h]; rfl
theorem roomB_not {n k : Nat} (h1 : 1 ≤ k) (h8 : k ≤ 8) (h : 256 ^ k ≤ n) : roomB n k = false := by
  unfold roomB; rw [bytesR_num (by omega) (fun hr => by have := hr.2.2; simp only [Int.toNat_natCast] at this; omega)]; rfl

/-- Of the widths that were gone through the last one alone has room: what is added is the number's own. -/
theorem short_tag {n k : Nat} {x : Int × Int} (h24 : 24 ≤ n) (hn : n ≤ 281474976710655) (hl : (wideL.take k).getLast? = some x) (hp : ∀ y ∈ (wideL.take k).dropLast, roomB n y.2 = false) (hx : roomB n x.2 = true) : x.1 = (tagN n : Nat) := by
  have r1 : 256 ≤ n → roomB n 1 = false := fun h => roomB_not (k := 1) (by omega) (by omega) (by simpa using h)
  have r2 : 65536 ≤ n → roomB n 2 = false := fun h => roomB_not (k := 2) (by omega) (by omega) (by simpa using h)
  have r4 : 4294967296 ≤ n → roomB n 4 = false := fun h => roomB_not (k := 4) (by omega) (by omega) (by simpa using h)
  have s1 : n < 256 → roomB n 1 = true := fun h => roomB_of (k := 1) (by omega) (by omega) hn (by simpa using h)
  have s2 : n < 65536 → roomB n 2 = true := fun h => roomB_of (k := 2) (by omega) (by omega) hn (by simpa using h)
  have s4 : n < 4294967296 → roomB n 4 = true := fun h => roomB_of (k := 4) (by omega) (by omega) hn (by simpa using h)
  have key : (x = (24, 1) ∧ n < 256) ∨ (x = (25, 2) ∧ 256 ≤ n ∧ n < 65536) ∨ (x = (26, 4) ∧ 65536 ≤ n ∧ n < 4294967296) ∨ (x = (27, 8) ∧ 4294967296 ≤ n) := by
    rcases k with _ | _ | _ | _ | k
    · cases hl
    · obtain rfl : (24, 1) = x := Option.some.inj hl
      refine .inl ⟨rfl, Nat.lt_of_not_le fun h => ?_⟩
      rw [r1 h] at hx; cases hx
    · obtain rfl : (25, 2) = x := Option.some.inj hl
      have p1 := hp (24, 1) (List.mem_singleton.2 rfl)
      refine .inr (.inl ⟨rfl, Nat.le_of_not_lt fun h => ?_, Nat.lt_of_not_le fun h => ?_⟩)
      · rw [s1 h] at p1; cases p1
      · rw [r2 h] at hx; cases hx
    · obtain rfl : (26, 4) = x := Option.some.inj hl
      have p2 := hp (25, 2) (show (25, 2) ∈ [((24 : Int), (1 : Int)), (25, 2)] by simp)
      refine .inr (.inr (.inl ⟨rfl, Nat.le_of_not_lt fun h => ?_, Nat.lt_of_not_le fun h => ?_⟩))
      · rw [s2 h] at p2; cases p2
      · rw [r4 h] at hx; cases hx
    · have e : wideL.take (k + 4) = wideL := List.take_of_length_le (by simp [wideL])
      rw [e] at hl hp
      obtain rfl : (27, 8) = x := Option.some.inj hl
      have p4 := hp (26, 4) (show (26, 4) ∈ [((24 : Int), (1 : Int)), (25, 2), (26, 4)] by simp)
      refine .inr (.inr (.inr ⟨rfl, Nat.le_of_not_lt fun h => ?_⟩))
      rw [s4 h] at p4; cases p4
  rcases wid_cases n with ⟨k1, _, k3⟩ | ⟨k0, k1, _, k3⟩ | ⟨k0, k1, _, k3⟩ | ⟨k0, k1, _, k3⟩ | ⟨k0, _, k3⟩ <;> rcases key with ⟨rfl, j1⟩ | ⟨rfl, j0, j1⟩ | ⟨rfl, j0, j1⟩ | ⟨rfl, j0⟩ <;> first | omega | (rw [k3]; rfl)
theorem short_all {n : Nat} (hn : n ≤ 281474976710655) (h : ∀ y ∈ wideL, roomB n y.2 = false) : False := by
  have h8 := h (27, 8) (by decide)
  rw [show ((27, 8) : Int × Int).2 = ((8 : Nat) : Int) from rfl, roomB_of (by omega) (by omega) hn (by have : (281474976710655 : Nat) < 256 ^ 8 := by decide
                                                                                                       omega)] at h8
  cases h8

theorem tag_small {n : Nat} (h : n < 24) : tagN n = n := if_pos h

set_option maxRecDepth 100000 in
set_option maxHeartbeats 2000000 in
theorem shortest_small (m : Int) (n : Nat) (w : World) (h24 : n < 24) :
    Calls Tryz.prog 59 #[.int .i64 m, .int .i64 (n : Int)] w fun e w' => e = .returned (.agg #[.int .i64 m, .int .i64 (n : Int), .int .i64 (n : Int)]) ∧ Below w.heap.size w w' := by
  have hb : decide ((n : Int) < 24) = true := by simp; omega
  refine (callsIn_wide (n := 9)).1 ?_
  refine callsIn_of_wp_marks Tryz.func59 rfl trivial ?_ rfl
  simp only [Tryz.ntmps59, List.size_toArray, List.length_cons, List.length_nil, Nat.reduceAdd, Nat.reduceSub, Array.replicate_succ, Array.replicate_zero, List.push_toArray, List.append_toArray, List.nil_append, List.cons_append]
  gi_wp2
  refine wpIn_scope_wide ?_
  gi_wp2
  exact ⟨.agg #[.int .i64 m, .int .i64 (n : Int), .int .i64 (n : Int)], by simp [results, Tryz.results59, go_sem], rfl, (((Below.refl _ _).alloc (Nat.le_refl _) _).alloc (by simp) _).alloc (by simp; omega) _⟩

set_option maxRecDepth 100000 in
set_option maxHeartbeats 2000000 in
theorem shortest_wide (a0 a1 a2 b0 b1 b2 b3 : Addr) (m : Int) (n : Nat) (w : World) (hN : Env a0 a1 a2 w) (hE : EnvH b0 b1 b2 b3 w) (h24 : 24 ≤ n) (hn : n ≤ 281474976710655) :
    Calls Tryz.prog 59 #[.int .i64 m, .int .i64 (n : Int)] w fun e w' => e = .returned (.agg #[.int .i64 m, .int .i64 ((tagN n : Nat) : Int), .int .i64 (n : Int)]) ∧ Below w.heap.size w w' := by
  have hb : decide ((n : Int) < 24) = false := by simp; omega
  refine (callsIn_wide (n := 9)).1 ?_
  refine callsIn_of_wp_marks Tryz.func59 rfl trivial ?_ rfl
  simp only [Tryz.ntmps59, List.size_toArray, List.length_cons, List.length_nil, Nat.reduceAdd, Nat.reduceSub, Array.replicate_succ, Array.replicate_zero, List.push_toArray, List.append_toArray, List.nil_append, List.cons_append]
  gi_wp2
  refine wpIn_scope_wide ?_
  gi_wp2
  refine wpIn_label ?_
  gi_wp2_with (refine ⟨trivial, ?_⟩; gi_at_call 74; refine (eachWide_in Fence.wide _ trivial rfl _).mono ?_; rintro e w' ⟨rfl, rfl⟩)
  have hn0 : (((w.alloc (.cells #[.int .i64 (n : Int)] 3)).alloc (.cells #[.int .i64 0, .int .i64 0, .int .i64 0] 104)).alloc (.cells #[.int .i64 m, .int .i64 (n : Int), .int .i64 (n : Int)] 104)).heap.size = w.heap.size + 1 + 1 + 1 := by simp
  have hS0 : HS w.heap.size m n n (.int .i64 0) (.int .i64 0) (.int .i64 0) (((w.alloc (.cells #[.int .i64 (n : Int)] 3)).alloc (.cells #[.int .i64 0, .int .i64 0, .int .i64 0] 104)).alloc (.cells #[.int .i64 m, .int .i64 (n : Int), .int .i64 (n : Int)] 104)) := by constructor <;> go_simp
  have hB0 : Below w.heap.size w (((w.alloc (.cells #[.int .i64 (n : Int)] 3)).alloc (.cells #[.int .i64 0, .int .i64 0, .int .i64 0] 104)).alloc (.cells #[.int .i64 m, .int .i64 (n : Int), .int .i64 (n : Int)] 104)) := (((Below.refl _ w).alloc (Nat.le_refl _) _).alloc (by simp) _).alloc (by simp; omega) _
  have hE0 := hE.below hB0
  generalize (((w.alloc (.cells #[.int .i64 (n : Int)] 3)).alloc (.cells #[.int .i64 0, .int .i64 0, .int .i64 0] 104)).alloc (.cells #[.int .i64 m, .int .i64 (n : Int), .int .i64 (n : Int)] 104)) = w0 at *
  refine wpIn_rangeFunc_ownH rfl (by omega) (gf := 86) (lb := #[]) rfl trivial (enters_of Tryz.func86 (by kernel_rfl) rfl)
    (wide_stops Fence.wide _ trivial rfl (by omega) b0 b1 b2 b3 _ hE0) (fun _ _ => trivial) (fun _ _ _ _ _ _ _ _ => trivial) (Below.refl _ _) (fun _ => rfl)
    (fun pre W => ((∃ a : Int, HS w.heap.size m a n (.int .i64 0) (.int .i64 0) (.int .i64 0) W) ∧ ∀ y ∈ pre, roomB n y.2 = false) ∧ Below w.heap.size w W)
    (fun c pre W => (c = .exit 0 ∧ ∃ x : Int × Int, pre.getLast? = some x ∧ (∀ y ∈ pre.dropLast, roomB n y.2 = false) ∧ roomB n x.2 = true ∧ HS w.heap.size m x.1 n (.int .i64 0) (.int .i64 0) (.int .i64 0) W) ∧ Below w.heap.size w W)
    (OwnFrom.and (Own.from (fun s A B row hs hg hr => ⟨hs.1.elim fun a ha => ⟨a, ha.kept hg hr⟩, hs.2⟩) _) (ownFrom_below (Nat.le_refl _) (by omega)))
    (fun c => OwnFrom.and (Own.from (fun s A B row hs hg hr => ⟨hs.1, hs.2.elim fun x hx => ⟨x, hx.1, hx.2.1, hx.2.2.1, hx.2.2.2.kept hg hr⟩⟩) _) (ownFrom_below (Nat.le_refl _) (by omega)))
    ⟨⟨⟨n, hS0⟩, fun x hx => by cases hx⟩, hB0⟩
    (fun x a' W => ∃ B : Nat, a' = { tmps := #[.int .i64 m, .int .i64 (n : Int), undef, .pointer (some ⟨w.heap.size, 0, none⟩), .pointer (some ⟨w.heap.size + 1, 0, none⟩), .pointer (some ⟨w.heap.size + 1 + 1, 0, none⟩), .pointer (some ⟨B, 0, none⟩), undef, undef, .int .i64 m, .int .i64 (n : Int), .int .i64 (n : Int), .agg #[.int .i64 m, .int .i64 (n : Int), .int .i64 (n : Int)], .int .i64 (n : Int), .bool false, undef, .func (.func 86) #[] #[], .agg #[.int .i64 x.1, .int .i64 x.2], undef, undef, undef, undef, undef, undef, undef, undef, undef, undef, undef, undef, undef], defers := [] } ∧ W.cell? ⟨B, 0, none⟩ = some (.int .i64 x.1) ∧ W.cell? ⟨B, 1, none⟩ = some (.int .i64 x.2) ∧ w.heap.size + 1 + 1 < B)
    (fun x a' => Own.from (fun s A B row hs hg hr => hs.elim fun b hb => ⟨b, hb.1, cell_kept hb.2.1 hg hr, cell_kept hb.2.2.1 hg hr, hb.2.2.2⟩) _) ?assign ?body ?done ?stop
  case assign =>
    rintro l pre x W K ⟨⟨⟨a, hS⟩, h4⟩, hB⟩ hK
    have hS' := hS.below ((Below.refl _ W).alloc (Nat.le_refl _) (.cells #[.int .i64 x.1, .int .i64 x.2] 137))
    have hlt := World.block_lt_of_cell? _ _ hS.h0
    simp only at hlt
    have H4 := Lib.hid h4
    clear h4
    gi_wp2
    exact hK _ _ ((KeepsOthers.alloc _ _).from _) trivial ⟨⟨⟨a, hS'⟩, H4.out⟩, hB.alloc hB.size _⟩ ⟨W.heap.size, rfl, by go_simp, by go_simp, hlt⟩
  case body =>
    rintro l pre x a' W _ _ ⟨⟨⟨a, hS⟩, h4⟩, hB⟩ ⟨B, rfl, e0, e1, hlt⟩ _
    have H4 := Lib.hid h4
    clear h4
    have i1 := hS.cn
    have i2 := hS.h1
    have i3 := hS.fh
    have hne : B ≠ w.heap.size + 1 + 1 := by omega
    have hne' : w.heap.size + 1 + 1 ≠ B := by omega
    have hSA := hS.setA x.1
    have hBA := hB.setCell (p := ⟨w.heap.size + 1 + 1, 1, none⟩) (by simp; omega) (.int .i64 x.1)
    gi_wp2_with fail
    refine ⟨trivial, ?_⟩
    refine (CallsIn.inRound l (callsIn_wide.2 (bytes_any a0 a1 a2 _ _ _ (hN.below hBA)))).mono ?_
    rintro e W2 ⟨rfl, hb2⟩
    have hS2 := hSA.below hb2
    have hB2 := hBA.trans (hb2.mono hBA.size)
    have hk2 : KeepsFrom w0.heap.size W W2 := ((KeepsOthers.setCell _ _ _).trans (keeps_below hb2)).from _
    clear hSA hBA hb2 hS i1 i2 i3 e0 e1
    have hRm : ((bytesR n x.2).2 == 0) = roomB n x.2 := rfl
    have HRm := Lib.hid hRm
    clear hRm
    by_cases hr : roomB n x.2 = true
    · rw [hr] at HRm
      have hz := HRm.out
      have HR := Lib.hid hr
      clear hr HRm
      gi_wp2
      exact ⟨hk2, ⟨rfl, x, by simp, by rw [List.dropLast_concat]; exact H4.out, HR.out, hS2⟩, hB2⟩
    · replace hr : roomB n x.2 = false := by simpa using hr
      rw [hr] at HRm
      have hz := HRm.out
      have HR := Lib.hid hr
      clear hr HRm
      gi_wp2
      refine ⟨hk2, trivial, ⟨⟨_, hS2⟩, fun y hy => ?_⟩, hB2⟩
      rcases List.mem_append.1 hy with hy | hy
      · exact H4.out y hy
      · obtain rfl := List.mem_singleton.1 hy
        exact HR.out
  case done =>
    rintro D ys W hD rfl ⟨⟨_, h4⟩, hB⟩ hK
    exact (short_all hn h4).elim
  case stop =>
    rintro D c pre W hD ⟨k, rfl⟩ ⟨⟨rfl, x, hl, hp, hx, hS⟩, hB⟩ hK
    have hT := short_tag h24 hn hl hp hx
    rw [hT] at hS
    clear hT hl hp hx
    have i0 := hS.h0
    have i1 := hS.h1
    have i2 := hS.h2
    have j0 := hS.c0
    have j1 := hS.c1
    have j2 := hS.c2
    have f0 := hS.f0
    have f1 := hS.f1
    have f2 := hS.f2
    gi_wp2
    refine ⟨by simp, .inl ?_⟩
    have hK2 := heap_set3 (B := w.heap.size + 1) (x := .int .i64 m) (y := .int .i64 ((tagN n : Nat) : Int)) (z := .int .i64 (n : Int)) hK (by omega)
    have hS2 := (hS.setR (.int .i64 m) (.int .i64 ((tagN n : Nat) : Int)) (.int .i64 (n : Int))).kept (grownBy_putObj' _ D (.deferred none)) (fun r e => by cases e; exact ⟨_, hK2, rfl⟩)
    have hB2 := (((hB.setCell (p := ⟨w.heap.size + 1, 0, none⟩) (by simp) (.int .i64 m)).setCell (p := ⟨w.heap.size + 1, 1, none⟩) (by simp) (.int .i64 ((tagN n : Nat) : Int))).setCell (p := ⟨w.heap.size + 1, 2, none⟩) (by simp) (.int .i64 (n : Int))).trans (belowK_b (w := w) (Nat.le_refl _) _ D _ (.deferred none) (by omega) hK2 rfl rfl)
    exact ⟨_, _, rfl, run_takeDeferred hK2, _, short_res hS2, rfl, hB2⟩

theorem shortest_any (a0 a1 a2 b0 b1 b2 b3 : Addr) (m : Int) (n : Nat) (w : World) (hN : Env a0 a1 a2 w) (hE : EnvH b0 b1 b2 b3 w) (hn : n ≤ 281474976710655) :
    Calls Tryz.prog 59 #[.int .i64 m, .int .i64 (n : Int)] w fun e w' => e = .returned (.agg #[.int .i64 m, .int .i64 ((tagN n : Nat) : Int), .int .i64 (n : Int)]) ∧ Below w.heap.size w w' := by
  by_cases h : n < 24
  · rw [tag_small h]; exact shortest_small m n w h
  · exact shortest_wide a0 a1 a2 b0 b1 b2 b3 m n w hN hE (Nat.le_of_not_lt h) hn
end Go.Proofs.YtljfgchmogdljaaGreatDoor
