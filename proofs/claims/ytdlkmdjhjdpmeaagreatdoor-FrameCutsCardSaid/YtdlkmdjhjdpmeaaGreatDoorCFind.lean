/- The two sentinels and the table of kinds of package crc, as the program's text lays them; contracts of eachKind, find, findWide. -/
import Derived.Test.YtdlkmdjhjdpmeaaGreatDoorCRun
set_option linter.unusedVariables false
set_option linter.unusedSimpArgs false
namespace Go.Proofs.YtdlkmdjhjdpmeaaGreatDoor
open Go.RowKit Go.Shelf

attribute [local go_sem] Oper.semAt_some

/-- The two sentinels of package crc lie as the program's text lays them, not the same; and the table of kinds. -/
structure EnvC (b0 b1 : Addr) (w : World) : Prop where
  g0 : w.cell? ⟨2, 0, none⟩ = some (.iface 179 (.pointer (some b0)))
  g1 : w.cell? ⟨3, 0, none⟩ = some (.iface 179 (.pointer (some b1)))
  k0 : ∃ c t, w.heap[b0.block]? = some (.cells c t (0, 0))
  k1 : ∃ c t, w.heap[b1.block]? = some (.cells c t (0, 0))
  n01 : b0 ≠ b1
  t0 : w.cell? ⟨6, 0, none⟩ = some (.int .i64 0)
  t1 : w.cell? ⟨6, 1, none⟩ = some (.int .i64 0)
  t2 : w.cell? ⟨6, 2, none⟩ = some (.int .u32 0)
  t3 : w.cell? ⟨6, 3, none⟩ = some (.int .i64 1)
  t4 : w.cell? ⟨6, 4, none⟩ = some (.int .i64 2)
  t5 : w.cell? ⟨6, 5, none⟩ = some (.int .u32 33800)
  t6 : w.cell? ⟨6, 6, none⟩ = some (.int .i64 2)
  t7 : w.cell? ⟨6, 7, none⟩ = some (.int .i64 4)
  t8 : w.cell? ⟨6, 8, none⟩ = some (.int .u32 2197175160)

theorem EnvC.below {b0 b1 : Addr} {w w' : World} (h : EnvC b0 b1 w) (hb : Below w.heap.size w w') : EnvC b0 b1 w' := by
  have k : ∀ {a : Addr}, (∃ c t, w.heap[a.block]? = some (.cells c t (0, 0))) → ∃ c t, w'.heap[a.block]? = some (.cells c t (0, 0)) := fun ⟨c, t, e⟩ => ⟨c, t, (hb.block _ (lt_of_heap e)).trans e⟩
  have c : ∀ {a : Addr} {v : Value}, w.cell? a = some v → w'.cell? a = some v := fun e => (hb.cell (World.block_lt_of_cell? _ _ e)).trans e
  exact ⟨c h.g0, c h.g1, k h.k0, k h.k1, h.n01, c h.t0, c h.t1, c h.t2, c h.t3, c h.t4, c h.t5, c h.t6, c h.t7, c h.t8⟩

/-- All that package crc starts from. -/
def CrcOK (w : World) : Prop := ∃ b0 b1, EnvC b0 b1 w
theorem CrcOK.below {w w' : World} (h : CrcOK w) (hb : Below w.heap.size w w') : CrcOK w' := by
  obtain ⟨b0, b1, hE⟩ := h
  exact ⟨b0, b1, hE.below hb⟩

/-- A kind: its number, how many bytes its sum has, which bits are turned. -/
def kindL : List (Int × Int × Int) := [(0, 0, 0), (1, 2, 33800), (2, 4, 2197175160)]
/-- A kind's cells. -/
def kindV (x : Int × Int × Int) : Value := .agg #[.int .i64 x.1, .int .i64 x.2.1, .int .u32 x.2.2]

theorem kind_at0 (w : World) : (Instr.index 176 (.agg #[.int .i64 0, .int .i64 0, .int .u32 0, .int .i64 1, .int .i64 2, .int .u32 33800, .int .i64 2, .int .i64 4, .int .u32 2197175160]) (.int .i64 0)).run Tryz.prog w = .ok (.agg #[.int .i64 0, .int .i64 0, .int .u32 0]) w := by kernel_rfl
theorem kind_at1 (w : World) : (Instr.index 176 (.agg #[.int .i64 0, .int .i64 0, .int .u32 0, .int .i64 1, .int .i64 2, .int .u32 33800, .int .i64 2, .int .i64 4, .int .u32 2197175160]) (.int .i64 1)).run Tryz.prog w = .ok (.agg #[.int .i64 1, .int .i64 2, .int .u32 33800]) w := by kernel_rfl
theorem kind_at2 (w : World) : (Instr.index 176 (.agg #[.int .i64 0, .int .i64 0, .int .u32 0, .int .i64 1, .int .i64 2, .int .u32 33800, .int .i64 2, .int .i64 4, .int .u32 2197175160]) (.int .i64 2)).run Tryz.prog w = .ok (.agg #[.int .i64 2, .int .i64 4, .int .u32 2197175160]) w := by kernel_rfl

set_option maxRecDepth 100000 in
set_option maxHeartbeats 2000000 in
theorem kinds1_in (F : Fence) (n : Nat) (hf : F.fn 113) (hro : F.round = none) (hn : 1 ≤ n) (l : Nat) (J Jx : List (Int × Int × Int) → World → Prop) (Kp : World → World → Prop) (b0 b1 : Addr)
    (hJ : ∀ pre W o, J pre W → J pre (W.alloc o))
    (hY : ∀ pre (x : Int × Int × Int) W, J pre W → pre.length < 3 → YieldAt F (n - 1) Tryz.prog l #[.agg #[.int .i64 x.1, .int .i64 x.2.1, .int .u32 x.2.2]] W fun e W' =>
      (e = .returned (.bool true) ∧ J (pre ++ [x]) W' ∧ Kp W W') ∨ (e = .returned (.bool false) ∧ Jx (pre ++ [x]) W'))
    (W : World) (hE : EnvC b0 b1 W) (h0 : J [] W) :
    CallsIn F n Tryz.prog 113 #[.func (.yield l) #[] #[]] W fun e W' => (∃ v, e = .returned v) ∧
      ((∃ ys, ys = kindL ∧ J ys W') ∨ (∃ pre, (∃ k, pre = kindL.take k) ∧ Jx pre W')) := by
  have t0 := hE.t0
  have t1 := hE.t1
  have t2 := hE.t2
  have t3 := hE.t3
  have t4 := hE.t4
  have t5 := hE.t5
  have t6 := hE.t6
  have t7 := hE.t7
  have t8 := hE.t8
  clear hE
  refine callsIn_of_wp Tryz.func113 rfl hf ?_ hro
  simp only [Tryz.ntmps113, List.size_toArray, List.length_cons, List.length_nil, Nat.reduceAdd, Nat.reduceSub, Array.replicate_succ, Array.replicate_zero, List.push_toArray, List.append_toArray, List.nil_append, List.cons_append]
  gi_wp2
  clear t0 t1 t2 t3 t4 t5 t6 t7 t8
  gi_loopw [5] (fun i wr => ∃ k : Nat, k ≤ 3 ∧ i = .int .i64 k ∧ J (kindL.take k) wr) (fun i _ => 3 - (intOf i).toNat)
  case atStart => exact ⟨0, Nat.zero_le _, rfl, h0⟩
  case round =>
    obtain ⟨k, hk, rfl, hJs⟩ := hrel
    have hk' : k = 0 ∨ k = 1 ∨ k = 2 ∨ k = 3 := by omega
    clear hk
    rcases hk' with rfl | rfl | rfl | rfl
    · obtain ⟨fn, tmps, assign, body, hy, hR⟩ := hY (kindL.take 0) (0, 0, 0) (wr.alloc (.cells #[.int .i64 0, .int .i64 0, .int .u32 0] 127)) (hJ _ _ _ hJs) (by decide)
      have hix := kind_at0 wr
      gi_wp2
      refine hR.mono ?_
      rintro e W3 (⟨rfl, hJ3, hk3⟩ | ⟨rfl, hJx3⟩)
      · gi_wp2
        go_roundw
        case rel => exact ⟨1, by omega, rfl, hJ3⟩
        case measure => simp [intOf]
      · gi_wp2
        refine bodyPost_ret (results_none rfl _ _ _) rfl ?_
        exact ⟨⟨_, rfl⟩, .inr ⟨_, ⟨1, rfl⟩, hJx3⟩⟩
    · obtain ⟨fn, tmps, assign, body, hy, hR⟩ := hY (kindL.take 1) (1, 2, 33800) (wr.alloc (.cells #[.int .i64 1, .int .i64 2, .int .u32 33800] 127)) (hJ _ _ _ hJs) (by decide)
      have hix := kind_at1 wr
      gi_wp2
      refine hR.mono ?_
      rintro e W3 (⟨rfl, hJ3, hk3⟩ | ⟨rfl, hJx3⟩)
      · gi_wp2
        go_roundw
        case rel => exact ⟨2, by omega, rfl, hJ3⟩
        case measure => simp [intOf]
      · gi_wp2
        refine bodyPost_ret (results_none rfl _ _ _) rfl ?_
        exact ⟨⟨_, rfl⟩, .inr ⟨_, ⟨2, rfl⟩, hJx3⟩⟩
    · obtain ⟨fn, tmps, assign, body, hy, hR⟩ := hY (kindL.take 2) (2, 4, 2197175160) (wr.alloc (.cells #[.int .i64 2, .int .i64 4, .int .u32 2197175160] 127)) (hJ _ _ _ hJs) (by decide)
      have hix := kind_at2 wr
      gi_wp2
      refine hR.mono ?_
      rintro e W3 (⟨rfl, hJ3, hk3⟩ | ⟨rfl, hJx3⟩)
      · gi_wp2
        go_roundw
        case rel => exact ⟨3, by omega, rfl, hJ3⟩
        case measure => simp [intOf]
      · gi_wp2
        refine bodyPost_ret (results_none rfl _ _ _) rfl ?_
        exact ⟨⟨_, rfl⟩, .inr ⟨_, ⟨3, rfl⟩, hJx3⟩⟩
    · gi_wp2
      go_end0
      exact ⟨⟨_, rfl⟩, .inl ⟨_, rfl, hJs⟩⟩

set_option maxHeartbeats 1000000 in
theorem eachKind_in (F : Fence) (n : Nat) (hf : F.fn 104) (hro : F.round = none) (w : World) :
    CallsIn F n Tryz.prog 104 #[] w fun e w' => e = .returned (.func (.func 113) #[] #[]) ∧ w = w' := by
  refine callsIn_of_wp Tryz.func104 rfl hf ?_ hro
  simp only [Tryz.ntmps104, List.size_toArray, List.length_cons, List.length_nil, Nat.reduceAdd, Nat.reduceSub, Array.replicate_succ, Array.replicate_zero, List.push_toArray, List.append_toArray, List.nil_append, List.cons_append]
  gi_wp2
  go_ret
  exact ⟨rfl, rfl⟩

theorem kinds_stops (F : Fence) (n : Nat) (hf : F.fn 113) (hro : F.round = none) (hn : 1 ≤ n) (b0 b1 : Addr) (w : World) (hE : EnvC b0 b1 w) :
    SeqStopsK F n Tryz.prog 113 #[] (fun x : Int × Int × Int => #[Value.agg #[.int .i64 x.1, .int .i64 x.2.1, .int .u32 x.2.2]]) (fun _ _ => True) (fun ys => ys = kindL) (fun pre => ∃ k, pre = kindL.take k) 3 w := fun l J Jx W hW hJ _ hY h0 => by
  refine (kinds1_in F n hf hro hn l J Jx (fun _ _ => True) b0 b1 (fun pre W' o h => ?_) hY W (hE.below hW) h0).mono ?_
  · exact hJ _ _ _ none h (World.grownBy_alloc W' o none) (fun r e => by cases e)
  · rintro e W' ⟨he, ⟨ys, rfl, hj⟩ | ⟨pre, hk, hj⟩⟩
    · exact ⟨he, .inl ⟨_, rfl, hj⟩⟩
    · exact ⟨he, .inr ⟨_, hk, hj⟩⟩


/-- What find answers: the kind, and whether there is none. -/
def kindR (k : Int) : (Int × Int × Int) × Bool := if k = 0 then ((0, 0, 0), false) else if k = 1 then ((1, 2, 33800), false) else if k = 2 then ((2, 4, 2197175160), false) else ((0, 0, 0), true)
/-- The error beside it. -/
def errV (b : Addr) : Bool → Value
  | true => .iface 179 (.pointer (some b))
  | false => .nilIface


/-- What holds of find's variables: the kind's box, the answer's, what is found, what is wrong. -/
structure FS (s P Q : Nat) (k : Int) (v0 v1 v2 : Value) (x : Int × Int × Int) (e : Value) (W : World) : Prop where
  ck : W.cell? ⟨s, 0, none⟩ = some (.int .i64 k)
  r0 : W.cell? ⟨s + 1, 0, none⟩ = some v0
  r1 : W.cell? ⟨s + 1, 1, none⟩ = some v1
  r2 : W.cell? ⟨s + 1, 2, none⟩ = some v2
  fr0 : W.frozen? ⟨s + 1, 0, none⟩ = false
  fr1 : W.frozen? ⟨s + 1, 1, none⟩ = false
  fr2 : W.frozen? ⟨s + 1, 2, none⟩ = false
  p0 : W.cell? ⟨P, 0, none⟩ = some (.int .i64 x.1)
  p1 : W.cell? ⟨P, 1, none⟩ = some (.int .i64 x.2.1)
  p2 : W.cell? ⟨P, 2, none⟩ = some (.int .u32 x.2.2)
  fp0 : W.frozen? ⟨P, 0, none⟩ = false
  fp1 : W.frozen? ⟨P, 1, none⟩ = false
  fp2 : W.frozen? ⟨P, 2, none⟩ = false
  q : W.cell? ⟨Q, 0, none⟩ = some e
  fq : W.frozen? ⟨Q, 0, none⟩ = false

section
variable {s P Q : Nat} {k : Int} {v0 v1 v2 e : Value} {x : Int × Int × Int} {W W' : World}
theorem FS.kept {row : Option Nat} (h : FS s P Q k v0 v1 v2 x e W) (hg : W.grownBy W' row) (hr : ∀ r, row = some r → ∃ o : Obj, W.heap[r]? = some o ∧ o.isCells = false) : FS s P Q k v0 v1 v2 x e W' :=
  ⟨cell_kept h.ck hg hr, cell_kept h.r0 hg hr, cell_kept h.r1 hg hr, cell_kept h.r2 hg hr, (frozen_kept h.r0 hg hr).trans h.fr0, (frozen_kept h.r1 hg hr).trans h.fr1, (frozen_kept h.r2 hg hr).trans h.fr2, cell_kept h.p0 hg hr, cell_kept h.p1 hg hr, cell_kept h.p2 hg hr, (frozen_kept h.p0 hg hr).trans h.fp0, (frozen_kept h.p1 hg hr).trans h.fp1, (frozen_kept h.p2 hg hr).trans h.fp2, cell_kept h.q hg hr, (frozen_kept h.q hg hr).trans h.fq⟩
theorem FS.below (h : FS s P Q k v0 v1 v2 x e W) (hb : Below W.heap.size W W') : FS s P Q k v0 v1 v2 x e W' := by
  have c : ∀ {p : Addr} {v : Value}, W.cell? p = some v → W'.cell? p = some v := fun e => (hb.cell (World.block_lt_of_cell? _ _ e)).trans e
  have f : ∀ {p : Addr} {v : Value}, W.cell? p = some v → W.frozen? p = false → W'.frozen? p = false := fun e k => (hb.frozen (World.block_lt_of_cell? _ _ e)).trans k
  exact ⟨c h.ck, c h.r0, c h.r1, c h.r2, f h.r0 h.fr0, f h.r1 h.fr1, f h.r2 h.fr2, c h.p0, c h.p1, c h.p2, f h.p0 h.fp0, f h.p1 h.fp1, f h.p2 h.fp2, c h.q, f h.q h.fq⟩
theorem FS.setP (h : FS s P Q k v0 v1 v2 x e W) (h1 : s + 1 < P) (h2 : s + 1 < Q) (hn : P ≠ Q) (y : Int × Int × Int) (e' : Value) :
    FS s P Q k v0 v1 v2 y e' ((((W.setCell ⟨P, 0, none⟩ (.int .i64 y.1)).setCell ⟨P, 1, none⟩ (.int .i64 y.2.1)).setCell ⟨P, 2, none⟩ (.int .u32 y.2.2)).setCell ⟨Q, 0, none⟩ e') := by
  have d0 := h.p0
  have d1 := h.p1
  have d2 := h.p2
  have d3 := h.q
  have n1 : s ≠ P := by omega
  have n2 : s ≠ Q := by omega
  have n3 : s + 1 ≠ P := by omega
  have n4 : s + 1 ≠ Q := by omega
  have n5 : Q ≠ P := Ne.symm hn
  refine ⟨?_, ?_, ?_, ?_, ?_, ?_, ?_, ?_, ?_, ?_, ?_, ?_, ?_, ?_, ?_⟩
  · rw [← h.ck]; simp [go_sem, n1, n2]
  · rw [← h.r0]; simp [go_sem, n3, n4]
  · rw [← h.r1]; simp [go_sem, n3, n4]
  · rw [← h.r2]; simp [go_sem, n3, n4]
  · simp only [World.frozen?_setCell]; exact h.fr0
  · simp only [World.frozen?_setCell]; exact h.fr1
  · simp only [World.frozen?_setCell]; exact h.fr2
  · simp [go_sem, hn, d0]
  · simp [go_sem, hn, d1]
  · simp [go_sem, hn, d2]
  · simp only [World.frozen?_setCell]; exact h.fp0
  · simp only [World.frozen?_setCell]; exact h.fp1
  · simp only [World.frozen?_setCell]; exact h.fp2
  · exact World.cell?_setCell_same' _ _ _ (by simp [go_sem, n5, d3])
  · simp only [World.frozen?_setCell]; exact h.fq
theorem FS.setR (h : FS s P Q k v0 v1 v2 x e W) (h1 : s + 1 < P) (h2 : s + 1 < Q) (u0 u1 u2 : Value) :
    FS s P Q k u0 u1 u2 x e (((W.setCell ⟨s + 1, 0, none⟩ u0).setCell ⟨s + 1, 1, none⟩ u1).setCell ⟨s + 1, 2, none⟩ u2) := by
  have d0 := h.r0
  have d1 := h.r1
  have d2 := h.r2
  have n1 : P ≠ s + 1 := by omega
  have n2 : Q ≠ s + 1 := by omega
  refine ⟨?_, ?_, ?_, ?_, ?_, ?_, ?_, ?_, ?_, ?_, ?_, ?_, ?_, ?_, ?_⟩
  · rw [← h.ck]; simp [go_sem]
  · simp [go_sem, d0]
  · simp [go_sem, d1]
  · simp [go_sem, d2]
  · simp only [World.frozen?_setCell]; exact h.fr0
  · simp only [World.frozen?_setCell]; exact h.fr1
  · simp only [World.frozen?_setCell]; exact h.fr2
  · rw [← h.p0]; simp [go_sem, n1]
  · rw [← h.p1]; simp [go_sem, n1]
  · rw [← h.p2]; simp [go_sem, n1]
  · simp only [World.frozen?_setCell]; exact h.fp0
  · simp only [World.frozen?_setCell]; exact h.fp1
  · simp only [World.frozen?_setCell]; exact h.fp2
  · rw [← h.q]; simp [go_sem, n2]
  · simp only [World.frozen?_setCell]; exact h.fq
end
theorem heap_set3 {W : World} {B D : Nat} {o : Obj} {x y z : Value} (h : W.heap[D]? = some o) (hne : B ≠ D) : (((W.setCell ⟨B, 0, none⟩ x).setCell ⟨B, 1, none⟩ y).setCell ⟨B, 2, none⟩ z).heap[D]? = some o := by
  rw [Below.heap_setCell _ _ _ _ (by simp; omega), Below.heap_setCell _ _ _ _ (by simp; omega), Below.heap_setCell _ _ _ _ (by simp; omega)]
  exact h
theorem find_res {s P Q : Nat} {k : Int} {x : Int × Int × Int} {v0 v1 v2 e : Value} {W : World} {tmps : Array Value} (h : FS s P Q k v0 v1 v2 x e W) (u : Value) (h2 : tmps[2]?.getD undef = .pointer (some ⟨s + 1, 0, none⟩) := by rfl) (h3 : tmps[3]?.getD undef = u := by rfl) : (results Tryz.f98 tmps).run Tryz.prog W = .ok (.tuple #[.agg #[v0, v1, v2], u]) W := by
  have d0 := h.r0
  have d1 := h.r1
  have d2 := h.r2
  simp [results, Tryz.results98, go_sem, h2, h3, d0, d1, d2]

/-- The kind was found. -/
def Found (s P Q : Nat) (k : Int) (pre : List (Int × Int × Int)) (W : World) : Prop := ∃ x : Int × Int × Int, x ∈ pre ∧ x.1 = k ∧ FS s P Q k (.int .i64 0) (.int .i64 0) (.int .u32 0) x .nilIface W
theorem Found.kept {s P Q : Nat} {k : Int} {pre : List (Int × Int × Int)} {W W' : World} {row : Option Nat} (h : Found s P Q k pre W) (hg : W.grownBy W' row) (hr : ∀ r, row = some r → ∃ o : Obj, W.heap[r]? = some o ∧ o.isCells = false) : Found s P Q k pre W' := by
  obtain ⟨x, h1, h2, h3⟩ := h
  exact ⟨x, h1, h2, h3.kept hg hr⟩

theorem kindR_of {x : Int × Int × Int} (h : x ∈ kindL) : kindR x.1 = (x, false) := by
  simp only [kindL, List.mem_cons, List.not_mem_nil, or_false] at h
  rcases h with rfl | rfl | rfl <;> decide
theorem kindR_no {k : Int} (h : ∀ x ∈ kindL, (x.1 == k) = false) : kindR k = ((0, 0, 0), true) := by
  have h1 := h (0, 0, 0) (by decide)
  have h2 := h (1, 2, 33800) (by decide)
  have h3 := h (2, 4, 2197175160) (by decide)
  simp only [beq_eq_false_iff_ne, ne_eq] at h1 h2 h3
  unfold kindR
  rw [if_neg (Ne.symm h1), if_neg (Ne.symm h2), if_neg (Ne.symm h3)]

set_option maxRecDepth 100000 in
set_option maxHeartbeats 2000000 in
theorem find_any (b0 b1 : Addr) (k : Int) (w : World) (hE : EnvC b0 b1 w) :
    Calls Tryz.prog 98 #[.int .i64 k] w fun e w' => e = .returned (.tuple #[kindV (kindR k).1, errV b0 (kindR k).2]) ∧ Below w.heap.size w w' := by
  refine (callsIn_wide (n := 9)).1 ?_
  refine callsIn_of_wp_marks Tryz.func98 rfl trivial ?_ rfl
  simp only [Tryz.ntmps98, List.size_toArray, List.length_cons, List.length_nil, Nat.reduceAdd, Nat.reduceSub, Array.replicate_succ, Array.replicate_zero, List.push_toArray, List.append_toArray, List.nil_append, List.cons_append]
  have g0 := hE.g0
  have hz := World.block_lt_of_cell? _ _ g0
  have q3 : ∀ o1 o2 o3 : Obj, (((w.alloc o1).alloc o2).alloc o3).cell? ⟨2, 0, none⟩ = some (.iface 179 (.pointer (some b0))) := fun o1 o2 o3 => ((((Below.refl _ w).alloc (Nat.le_refl _) o1).alloc (by simp) o2).alloc (by simp; omega) o3 |>.cell hz).trans g0
  have q4 : ∀ o1 o2 o3 o4 : Obj, ((((w.alloc o1).alloc o2).alloc o3).alloc o4).cell? ⟨2, 0, none⟩ = some (.iface 179 (.pointer (some b0))) := fun o1 o2 o3 o4 => (((((Below.refl _ w).alloc (Nat.le_refl _) o1).alloc (by simp) o2).alloc (by simp; omega) o3).alloc (by simp; omega) o4 |>.cell hz).trans g0
  gi_wp2_with fail
  refine wpIn_scope_wide ?_
  gi_wp2_with fail
  gi_region
  · have hS0 : FS w.heap.size (w.heap.size + 1 + 1) (w.heap.size + 1 + 1 + 1) k (.int .i64 0) (.int .i64 0) (.int .u32 0) (0, 0, 0) (.iface 179 (.pointer (some b0))) (((((w.alloc (.cells #[.int .i64 k] 3)).alloc (.cells #[.int .i64 0, .int .i64 0, .int .u32 0] 127)).alloc (.cells #[.int .i64 0, .int .i64 0, .int .u32 0] 127)).alloc (.cells #[.iface 179 (.pointer (some b0))] 77)).drew) := by constructor <;> go_simp
    have hB0 : Below w.heap.size w (((((w.alloc (.cells #[.int .i64 k] 3)).alloc (.cells #[.int .i64 0, .int .i64 0, .int .u32 0] 127)).alloc (.cells #[.int .i64 0, .int .i64 0, .int .u32 0] 127)).alloc (.cells #[.iface 179 (.pointer (some b0))] 77)).drew) := (((((Below.refl _ w).alloc (Nat.le_refl _) _).alloc (by simp) _).alloc (by simp; omega) _).alloc (by simp; omega) _).drew
    have hn0 : (((((w.alloc (.cells #[.int .i64 k] 3)).alloc (.cells #[.int .i64 0, .int .i64 0, .int .u32 0] 127)).alloc (.cells #[.int .i64 0, .int .i64 0, .int .u32 0] 127)).alloc (.cells #[.iface 179 (.pointer (some b0))] 77)).drew).heap.size = w.heap.size + 1 + 1 + 1 + 1 := by simp
    generalize ((((w.alloc (.cells #[.int .i64 k] 3)).alloc (.cells #[.int .i64 0, .int .i64 0, .int .u32 0] 127)).alloc (.cells #[.int .i64 0, .int .i64 0, .int .u32 0] 127)).alloc (.cells #[.iface 179 (.pointer (some b0))] 77)).drew = w0 at *
    have hP : w.heap.size + 1 < w.heap.size + 1 + 1 ∧ w.heap.size + 1 + 1 < w.heap.size + 1 + 1 + 1 + 1 := by omega
    have hQ : w.heap.size + 1 < w.heap.size + 1 + 1 + 1 ∧ w.heap.size + 1 + 1 + 1 < w.heap.size + 1 + 1 + 1 + 1 := by omega
    have hPQ : w.heap.size + 1 + 1 ≠ w.heap.size + 1 + 1 + 1 := by omega
    obtain ⟨N, hN⟩ : ∃ N, N = w.heap.size + 1 + 1 + 1 + 1 := ⟨_, rfl⟩
    rw [← hN] at hn0 hP hQ
    have HN := Lib.hid hN
    clear hN
    generalize w.heap.size + 1 + 1 + 1 = Q at *
    generalize w.heap.size + 1 + 1 = P at *
    have hE0 := hE.below hB0
    have hNs : w.heap.size ≤ N := by have := HN.out; omega
    clear g0
    gi_wp2
    refine wpIn_label ?_
    gi_wp2_with (refine ⟨trivial, ?_⟩; gi_at_call 104; refine (eachKind_in Fence.wide _ trivial rfl _).mono ?_; rintro e w' ⟨rfl, rfl⟩)
    refine wpIn_rangeFunc_ownH rfl (by omega) (gf := 113) (lb := #[]) rfl trivial (enters_of Tryz.func113 (by kernel_rfl) rfl)
      (kinds_stops Fence.wide _ trivial rfl (by omega) b0 b1 _ hE0) (fun _ _ => trivial) (fun _ _ _ _ _ _ _ _ => trivial) (Below.refl _ _) (fun _ => rfl)
      (fun pre W => (FS w.heap.size P Q k (.int .i64 0) (.int .i64 0) (.int .u32 0) (0, 0, 0) (.iface 179 (.pointer (some b0))) W ∧ ∀ x ∈ pre, (x.1 == k) = false) ∧ Below w.heap.size w W)
      (fun c pre W => (c = .exit 0 ∧ Found w.heap.size P Q k pre W) ∧ Below w.heap.size w W)
      (OwnFrom.and (Own.from (fun s A B row hs hg hr => ⟨hs.1.kept hg hr, hs.2⟩) _) (ownFrom_below (Nat.le_refl _) (by omega)))
      (fun c => OwnFrom.and (Own.from (fun s A B row hs hg hr => ⟨hs.1, hs.2.kept hg hr⟩) _) (ownFrom_below (Nat.le_refl _) (by omega)))
      ⟨⟨hS0, fun x hx => by cases hx⟩, hB0⟩
      (fun x a' W => ∃ B : Nat, a' = { tmps := #[.int .i64 k, .pointer (some ⟨w.heap.size, 0, none⟩), .pointer (some ⟨w.heap.size + 1, 0, none⟩), .nilIface, .pointer (some ⟨P, 0, none⟩), .pointer (some ⟨Q, 0, none⟩), .pointer (some ⟨B, 0, none⟩), .agg #[.int .i64 0, .int .i64 0, .int .u32 0], .iface 179 (.pointer (some b0)), .func (.func 113) #[] #[], .agg #[.int .i64 x.1, .int .i64 x.2.1, .int .u32 x.2.2], undef, undef, undef, undef, undef, undef, undef], defers := [] } ∧ W.cell? ⟨B, 0, none⟩ = some (.int .i64 x.1) ∧ W.cell? ⟨B, 1, none⟩ = some (.int .i64 x.2.1) ∧ W.cell? ⟨B, 2, none⟩ = some (.int .u32 x.2.2) ∧ P < B ∧ Q < B)
      (fun x a' => Own.from (fun s A B row hs hg hr => hs.elim fun b hb => ⟨b, hb.1, cell_kept hb.2.1 hg hr, cell_kept hb.2.2.1 hg hr, cell_kept hb.2.2.2.1 hg hr, hb.2.2.2.2⟩) _) ?assign ?body ?done ?stop
    case assign =>
      rintro l pre x W K ⟨⟨hS, h4⟩, hB⟩ hK
      have hS' := hS.below ((Below.refl _ W).alloc (Nat.le_refl _) (.cells #[.int .i64 x.1, .int .i64 x.2.1, .int .u32 x.2.2] 127))
      have hl1 : P < W.heap.size := World.block_lt_of_cell? _ _ hS.p0
      have hl2 : Q < W.heap.size := World.block_lt_of_cell? _ _ hS.q
      have H4 := Lib.hid h4
      clear h4
      gi_wp2
      exact hK _ _ ((KeepsOthers.alloc _ _).from _) trivial ⟨⟨hS', H4.out⟩, hB.alloc hB.size _⟩ ⟨W.heap.size, rfl, by go_simp, by go_simp, by go_simp, hl1, hl2⟩
    case body =>
      rintro l pre x a' W _ _ ⟨⟨hS, h4⟩, hB⟩ ⟨B, rfl, e0, e1, e2, hl1, hl2⟩ _
      have H4 := Lib.hid h4
      clear h4
      have i0 := hS.ck
      by_cases hx : x.1 = k
      · have hxb : (x.1 == k) = true := by simpa using hx
        have HX := Lib.hid hx
        clear hx
        have HS2 := Lib.hid (hS.setP hP.1 hQ.1 hPQ x .nilIface)
        have j0 := hS.p0
        have j1 := hS.p1
        have j2 := hS.p2
        have j3 := hS.q
        have k0 := hS.fp0
        have k1 := hS.fp1
        have k2 := hS.fp2
        have k3 := hS.fq
        have n1 : B ≠ P := by omega
        have n2 : P ≠ B := by omega
        have n3 : B ≠ Q := by omega
        have n4 : Q ≠ B := by omega
        have n5 := hPQ
        have n6 : Q ≠ P := Ne.symm hPQ
        clear hS
        gi_wp2
        refine ⟨((((KeepsOthers.setCell _ _ _).trans (KeepsOthers.setCell _ _ _)).trans (KeepsOthers.setCell _ _ _)).trans (KeepsOthers.setCell _ _ _)).from _, ⟨rfl, ⟨x, by simp, HX.out, HS2.out⟩⟩, (((hB.setCell (p := ⟨P, 0, none⟩) (show w.heap.size ≤ P by omega) _).setCell (p := ⟨P, 1, none⟩) (show w.heap.size ≤ P by omega) _).setCell (p := ⟨P, 2, none⟩) (show w.heap.size ≤ P by omega) _).setCell (p := ⟨Q, 0, none⟩) (show w.heap.size ≤ Q by omega) _⟩
      · have hxb : (x.1 == k) = false := by simpa using hx
        clear hx
        have HS2 := Lib.hid hS
        clear hS
        gi_wp2
        refine ⟨KeepsFrom.refl _ _, trivial, ⟨HS2.out, fun y hy => ?_⟩, hB⟩
        rcases List.mem_append.1 hy with hy | hy
        · exact H4.out y hy
        · obtain rfl := List.mem_singleton.1 hy
          exact hxb
    case done =>
      rintro D ys W hD rfl ⟨⟨hS, h4⟩, hB⟩ hK
      have HR := Lib.hid (kindR_no h4)
      clear h4
      have i0 := hS.p0
      have i1 := hS.p1
      have i2 := hS.p2
      have i3 := hS.q
      have j0 := hS.r0
      have j1 := hS.r1
      have j2 := hS.r2
      have f0 := hS.fr0
      have f1 := hS.fr1
      have f2 := hS.fr2
      have n1 : P ≠ w.heap.size + 1 := by omega
      have n2 : Q ≠ w.heap.size + 1 := by omega
      have n3 : w.heap.size + 1 ≠ P := by omega
      have n4 : w.heap.size + 1 ≠ Q := by omega
      have HS2 := Lib.hid hS
      clear hS
      gi_wp2_with fail
      gi_region
      gi_wp2
      refine ⟨by simp, .inl ?_⟩
      have hK2 := heap_set3 (B := w.heap.size + 1) (x := .int .i64 0) (y := .int .i64 0) (z := .int .u32 0) hK (by omega)
      have hS3 := ((HS2.out.setR hP.1 hQ.1 (.int .i64 0) (.int .i64 0) (.int .u32 0)).below ((Below.refl _ _).drew)).kept (grownBy_putObj' _ D (.deferred none)) (fun r e => by cases e; exact ⟨_, hK2, rfl⟩)
      have hB3 := (((hB.setCell (p := ⟨w.heap.size + 1, 0, none⟩) (by simp) (.int .i64 0)).setCell (p := ⟨w.heap.size + 1, 1, none⟩) (by simp) (.int .i64 0)).setCell (p := ⟨w.heap.size + 1, 2, none⟩) (by simp) (.int .u32 0)).drew.trans (belowK_b (w := w) (Nat.le_refl _) _ D _ (.deferred none) (by omega) hK2 rfl rfl)
      exact ⟨_, _, rfl, run_takeDeferred hK2, _, find_res hS3 (.iface 179 (.pointer (some b0))), by rw [HR.out]; rfl, hB3⟩
    case stop =>
      rintro D c pre W hD ⟨m, rfl⟩ ⟨⟨rfl, ⟨x, hx, hxt, hS⟩⟩, hB⟩ hK
      have HR := Lib.hid (show kindR k = (x, false) by rw [← hxt]; exact kindR_of (List.mem_of_mem_take hx))
      clear hx hxt
      have i0 := hS.p0
      have i1 := hS.p1
      have i2 := hS.p2
      have i3 := hS.q
      have j0 := hS.r0
      have j1 := hS.r1
      have j2 := hS.r2
      have f0 := hS.fr0
      have f1 := hS.fr1
      have f2 := hS.fr2
      have n1 : P ≠ w.heap.size + 1 := by omega
      have n2 : Q ≠ w.heap.size + 1 := by omega
      have n3 : w.heap.size + 1 ≠ P := by omega
      have n4 : w.heap.size + 1 ≠ Q := by omega
      have HS2 := Lib.hid hS
      clear hS
      gi_wp2_with fail
      gi_region
      gi_wp2
      refine ⟨by simp, .inl ?_⟩
      have hK2 := heap_set3 (B := w.heap.size + 1) (x := .int .i64 x.1) (y := .int .i64 x.2.1) (z := .int .u32 x.2.2) hK (by omega)
      have hS3 := ((HS2.out.setR hP.1 hQ.1 (.int .i64 x.1) (.int .i64 x.2.1) (.int .u32 x.2.2)).below ((Below.refl _ _).drew)).kept (grownBy_putObj' _ D (.deferred none)) (fun r e => by cases e; exact ⟨_, hK2, rfl⟩)
      have hB3 := (((hB.setCell (p := ⟨w.heap.size + 1, 0, none⟩) (by simp) (.int .i64 x.1)).setCell (p := ⟨w.heap.size + 1, 1, none⟩) (by simp) (.int .i64 x.2.1)).setCell (p := ⟨w.heap.size + 1, 2, none⟩) (by simp) (.int .u32 x.2.2)).drew.trans (belowK_b (w := w) (Nat.le_refl _) _ D _ (.deferred none) (by omega) hK2 rfl rfl)
      exact ⟨_, _, rfl, run_takeDeferred hK2, _, find_res hS3 (.nilIface), by rw [HR.out]; rfl, hB3⟩
  · have hS0 : FS w.heap.size (w.heap.size + 1 + 1 + 1) (w.heap.size + 1 + 1) k (.int .i64 0) (.int .i64 0) (.int .u32 0) (0, 0, 0) (.iface 179 (.pointer (some b0))) (((((w.alloc (.cells #[.int .i64 k] 3)).alloc (.cells #[.int .i64 0, .int .i64 0, .int .u32 0] 127)).alloc (.cells #[.iface 179 (.pointer (some b0))] 77)).alloc (.cells #[.int .i64 0, .int .i64 0, .int .u32 0] 127)).drew) := by constructor <;> go_simp
    have hB0 : Below w.heap.size w (((((w.alloc (.cells #[.int .i64 k] 3)).alloc (.cells #[.int .i64 0, .int .i64 0, .int .u32 0] 127)).alloc (.cells #[.iface 179 (.pointer (some b0))] 77)).alloc (.cells #[.int .i64 0, .int .i64 0, .int .u32 0] 127)).drew) := (((((Below.refl _ w).alloc (Nat.le_refl _) _).alloc (by simp) _).alloc (by simp; omega) _).alloc (by simp; omega) _).drew
    have hn0 : (((((w.alloc (.cells #[.int .i64 k] 3)).alloc (.cells #[.int .i64 0, .int .i64 0, .int .u32 0] 127)).alloc (.cells #[.iface 179 (.pointer (some b0))] 77)).alloc (.cells #[.int .i64 0, .int .i64 0, .int .u32 0] 127)).drew).heap.size = w.heap.size + 1 + 1 + 1 + 1 := by simp
    generalize ((((w.alloc (.cells #[.int .i64 k] 3)).alloc (.cells #[.int .i64 0, .int .i64 0, .int .u32 0] 127)).alloc (.cells #[.iface 179 (.pointer (some b0))] 77)).alloc (.cells #[.int .i64 0, .int .i64 0, .int .u32 0] 127)).drew = w0 at *
    have hP : w.heap.size + 1 < w.heap.size + 1 + 1 + 1 ∧ w.heap.size + 1 + 1 + 1 < w.heap.size + 1 + 1 + 1 + 1 := by omega
    have hQ : w.heap.size + 1 < w.heap.size + 1 + 1 ∧ w.heap.size + 1 + 1 < w.heap.size + 1 + 1 + 1 + 1 := by omega
    have hPQ : w.heap.size + 1 + 1 + 1 ≠ w.heap.size + 1 + 1 := by omega
    obtain ⟨N, hN⟩ : ∃ N, N = w.heap.size + 1 + 1 + 1 + 1 := ⟨_, rfl⟩
    rw [← hN] at hn0 hP hQ
    have HN := Lib.hid hN
    clear hN
    generalize w.heap.size + 1 + 1 + 1 = P at *
    generalize w.heap.size + 1 + 1 = Q at *
    have hE0 := hE.below hB0
    have hNs : w.heap.size ≤ N := by have := HN.out; omega
    clear g0
    gi_wp2
    refine wpIn_label ?_
    gi_wp2_with (refine ⟨trivial, ?_⟩; gi_at_call 104; refine (eachKind_in Fence.wide _ trivial rfl _).mono ?_; rintro e w' ⟨rfl, rfl⟩)
    refine wpIn_rangeFunc_ownH rfl (by omega) (gf := 113) (lb := #[]) rfl trivial (enters_of Tryz.func113 (by kernel_rfl) rfl)
      (kinds_stops Fence.wide _ trivial rfl (by omega) b0 b1 _ hE0) (fun _ _ => trivial) (fun _ _ _ _ _ _ _ _ => trivial) (Below.refl _ _) (fun _ => rfl)
      (fun pre W => (FS w.heap.size P Q k (.int .i64 0) (.int .i64 0) (.int .u32 0) (0, 0, 0) (.iface 179 (.pointer (some b0))) W ∧ ∀ x ∈ pre, (x.1 == k) = false) ∧ Below w.heap.size w W)
      (fun c pre W => (c = .exit 0 ∧ Found w.heap.size P Q k pre W) ∧ Below w.heap.size w W)
      (OwnFrom.and (Own.from (fun s A B row hs hg hr => ⟨hs.1.kept hg hr, hs.2⟩) _) (ownFrom_below (Nat.le_refl _) (by omega)))
      (fun c => OwnFrom.and (Own.from (fun s A B row hs hg hr => ⟨hs.1, hs.2.kept hg hr⟩) _) (ownFrom_below (Nat.le_refl _) (by omega)))
      ⟨⟨hS0, fun x hx => by cases hx⟩, hB0⟩
      (fun x a' W => ∃ B : Nat, a' = { tmps := #[.int .i64 k, .pointer (some ⟨w.heap.size, 0, none⟩), .pointer (some ⟨w.heap.size + 1, 0, none⟩), .nilIface, .pointer (some ⟨P, 0, none⟩), .pointer (some ⟨Q, 0, none⟩), .pointer (some ⟨B, 0, none⟩), .agg #[.int .i64 0, .int .i64 0, .int .u32 0], .iface 179 (.pointer (some b0)), .func (.func 113) #[] #[], .agg #[.int .i64 x.1, .int .i64 x.2.1, .int .u32 x.2.2], undef, undef, undef, undef, undef, undef, undef], defers := [] } ∧ W.cell? ⟨B, 0, none⟩ = some (.int .i64 x.1) ∧ W.cell? ⟨B, 1, none⟩ = some (.int .i64 x.2.1) ∧ W.cell? ⟨B, 2, none⟩ = some (.int .u32 x.2.2) ∧ P < B ∧ Q < B)
      (fun x a' => Own.from (fun s A B row hs hg hr => hs.elim fun b hb => ⟨b, hb.1, cell_kept hb.2.1 hg hr, cell_kept hb.2.2.1 hg hr, cell_kept hb.2.2.2.1 hg hr, hb.2.2.2.2⟩) _) ?assign ?body ?done ?stop
    case assign =>
      rintro l pre x W K ⟨⟨hS, h4⟩, hB⟩ hK
      have hS' := hS.below ((Below.refl _ W).alloc (Nat.le_refl _) (.cells #[.int .i64 x.1, .int .i64 x.2.1, .int .u32 x.2.2] 127))
      have hl1 : P < W.heap.size := World.block_lt_of_cell? _ _ hS.p0
      have hl2 : Q < W.heap.size := World.block_lt_of_cell? _ _ hS.q
      have H4 := Lib.hid h4
      clear h4
      gi_wp2
      exact hK _ _ ((KeepsOthers.alloc _ _).from _) trivial ⟨⟨hS', H4.out⟩, hB.alloc hB.size _⟩ ⟨W.heap.size, rfl, by go_simp, by go_simp, by go_simp, hl1, hl2⟩
    case body =>
      rintro l pre x a' W _ _ ⟨⟨hS, h4⟩, hB⟩ ⟨B, rfl, e0, e1, e2, hl1, hl2⟩ _
      have H4 := Lib.hid h4
      clear h4
      have i0 := hS.ck
      by_cases hx : x.1 = k
      · have hxb : (x.1 == k) = true := by simpa using hx
        have HX := Lib.hid hx
        clear hx
        have HS2 := Lib.hid (hS.setP hP.1 hQ.1 hPQ x .nilIface)
        have j0 := hS.p0
        have j1 := hS.p1
        have j2 := hS.p2
        have j3 := hS.q
        have k0 := hS.fp0
        have k1 := hS.fp1
        have k2 := hS.fp2
        have k3 := hS.fq
        have n1 : B ≠ P := by omega
        have n2 : P ≠ B := by omega
        have n3 : B ≠ Q := by omega
        have n4 : Q ≠ B := by omega
        have n5 := hPQ
        have n6 : Q ≠ P := Ne.symm hPQ
        clear hS
        gi_wp2
        refine ⟨((((KeepsOthers.setCell _ _ _).trans (KeepsOthers.setCell _ _ _)).trans (KeepsOthers.setCell _ _ _)).trans (KeepsOthers.setCell _ _ _)).from _, ⟨rfl, ⟨x, by simp, HX.out, HS2.out⟩⟩, (((hB.setCell (p := ⟨P, 0, none⟩) (show w.heap.size ≤ P by omega) _).setCell (p := ⟨P, 1, none⟩) (show w.heap.size ≤ P by omega) _).setCell (p := ⟨P, 2, none⟩) (show w.heap.size ≤ P by omega) _).setCell (p := ⟨Q, 0, none⟩) (show w.heap.size ≤ Q by omega) _⟩
      · have hxb : (x.1 == k) = false := by simpa using hx
        clear hx
        have HS2 := Lib.hid hS
        clear hS
        gi_wp2
        refine ⟨KeepsFrom.refl _ _, trivial, ⟨HS2.out, fun y hy => ?_⟩, hB⟩
        rcases List.mem_append.1 hy with hy | hy
        · exact H4.out y hy
        · obtain rfl := List.mem_singleton.1 hy
          exact hxb
    case done =>
      rintro D ys W hD rfl ⟨⟨hS, h4⟩, hB⟩ hK
      have HR := Lib.hid (kindR_no h4)
      clear h4
      have i0 := hS.p0
      have i1 := hS.p1
      have i2 := hS.p2
      have i3 := hS.q
      have j0 := hS.r0
      have j1 := hS.r1
      have j2 := hS.r2
      have f0 := hS.fr0
      have f1 := hS.fr1
      have f2 := hS.fr2
      have n1 : P ≠ w.heap.size + 1 := by omega
      have n2 : Q ≠ w.heap.size + 1 := by omega
      have n3 : w.heap.size + 1 ≠ P := by omega
      have n4 : w.heap.size + 1 ≠ Q := by omega
      have HS2 := Lib.hid hS
      clear hS
      gi_wp2_with fail
      gi_region
      gi_wp2
      refine ⟨by simp, .inl ?_⟩
      have hK2 := heap_set3 (B := w.heap.size + 1) (x := .int .i64 0) (y := .int .i64 0) (z := .int .u32 0) hK (by omega)
      have hS3 := ((HS2.out.setR hP.1 hQ.1 (.int .i64 0) (.int .i64 0) (.int .u32 0)).below ((Below.refl _ _).drew)).kept (grownBy_putObj' _ D (.deferred none)) (fun r e => by cases e; exact ⟨_, hK2, rfl⟩)
      have hB3 := (((hB.setCell (p := ⟨w.heap.size + 1, 0, none⟩) (by simp) (.int .i64 0)).setCell (p := ⟨w.heap.size + 1, 1, none⟩) (by simp) (.int .i64 0)).setCell (p := ⟨w.heap.size + 1, 2, none⟩) (by simp) (.int .u32 0)).drew.trans (belowK_b (w := w) (Nat.le_refl _) _ D _ (.deferred none) (by omega) hK2 rfl rfl)
      exact ⟨_, _, rfl, run_takeDeferred hK2, _, find_res hS3 (.iface 179 (.pointer (some b0))), by rw [HR.out]; rfl, hB3⟩
    case stop =>
      rintro D c pre W hD ⟨m, rfl⟩ ⟨⟨rfl, ⟨x, hx, hxt, hS⟩⟩, hB⟩ hK
      have HR := Lib.hid (show kindR k = (x, false) by rw [← hxt]; exact kindR_of (List.mem_of_mem_take hx))
      clear hx hxt
      have i0 := hS.p0
      have i1 := hS.p1
      have i2 := hS.p2
      have i3 := hS.q
      have j0 := hS.r0
      have j1 := hS.r1
      have j2 := hS.r2
      have f0 := hS.fr0
      have f1 := hS.fr1
      have f2 := hS.fr2
      have n1 : P ≠ w.heap.size + 1 := by omega
      have n2 : Q ≠ w.heap.size + 1 := by omega
      have n3 : w.heap.size + 1 ≠ P := by omega
      have n4 : w.heap.size + 1 ≠ Q := by omega
      have HS2 := Lib.hid hS
      clear hS
      gi_wp2_with fail
      gi_region
      gi_wp2
      refine ⟨by simp, .inl ?_⟩
      have hK2 := heap_set3 (B := w.heap.size + 1) (x := .int .i64 x.1) (y := .int .i64 x.2.1) (z := .int .u32 x.2.2) hK (by omega)
      have hS3 := ((HS2.out.setR hP.1 hQ.1 (.int .i64 x.1) (.int .i64 x.2.1) (.int .u32 x.2.2)).below ((Below.refl _ _).drew)).kept (grownBy_putObj' _ D (.deferred none)) (fun r e => by cases e; exact ⟨_, hK2, rfl⟩)
      have hB3 := (((hB.setCell (p := ⟨w.heap.size + 1, 0, none⟩) (by simp) (.int .i64 x.1)).setCell (p := ⟨w.heap.size + 1, 1, none⟩) (by simp) (.int .i64 x.2.1)).setCell (p := ⟨w.heap.size + 1, 2, none⟩) (by simp) (.int .u32 x.2.2)).drew.trans (belowK_b (w := w) (Nat.le_refl _) _ D _ (.deferred none) (by omega) hK2 rfl rfl)
      exact ⟨_, _, rfl, run_takeDeferred hK2, _, find_res hS3 (.nilIface), by rw [HR.out]; rfl, hB3⟩
end Go.Proofs.YtdlkmdjhjdpmeaaGreatDoor
