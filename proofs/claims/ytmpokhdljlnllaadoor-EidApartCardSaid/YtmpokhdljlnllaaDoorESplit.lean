/- split of package eid, at a right name: over whatever contract of the scheme's parts. -/
import Derived.Test.YtmpokhdljlnllaaDoorERightA
import Derived.Test.YtmpokhdljlnllaaDoorETell
import Derived.Test.YtmpokhdljlnllaaDoorEEachS
set_option linter.unusedVariables false
set_option linter.unusedSimpArgs false
namespace Go.Proofs.YtmpokhdljlnllaaDoor
open Go.RowKit Go.Shelf

attribute [local go_sem] Oper.semAt_some

/-- The parts' texts, one behind the other. -/
def catP (ps : List (ByteArray × Bool)) : ByteArray := ps.foldl (fun acc x => acc ++ x.1) ⟨#[]⟩
theorem catP_snoc (ps : List (ByteArray × Bool)) (x : ByteArray × Bool) : catP (ps ++ [x]) = catP ps ++ x.1 := by
  unfold catP
  rw [List.foldl_append]
  rfl

/-- A part of at most a hundred bytes. -/
structure SP where
  val : ByteArray × Bool
  h : val.1.size ≤ 100
theorem lift_ps : ∀ (ps : List (ByteArray × Bool)), (∀ x ∈ ps, x.1.size ≤ 100) → ∃ qs : List SP, qs.map SP.val = ps
  | [], _ => ⟨[], rfl⟩
  | x :: r, h => by
    obtain ⟨qs, hq⟩ := lift_ps r (fun y hy => h y (List.mem_cons_of_mem _ hy))
    exact ⟨⟨x, h x List.mem_cons_self⟩ :: qs, by rw [List.map_cons, hq]⟩
theorem cat_size : ∀ (ps : List SP), (catP (ps.map SP.val)).size ≤ 100 * ps.length := fun ps => by
  have H : ∀ (ps : List SP) (acc : ByteArray) (n : Nat), acc.size ≤ n → (List.foldl (fun acc (x : ByteArray × Bool) => acc ++ x.1) acc (ps.map SP.val)).size ≤ n + 100 * ps.length := by
    intro ps
    induction ps with
    | nil => intro acc n h; simpa using h
    | cons x r ih =>
      intro acc n h
      rw [List.map_cons, List.foldl_cons, List.length_cons]
      have hx : x.val.1.size ≤ 100 := x.h
      have := ih (acc ++ x.val.1) (n + 100) (by rw [ByteArray.size_append]; omega)
      omega
  have := H ps ⟨#[]⟩ 0 (Nat.le_refl _)
  unfold catP
  omega
theorem set2 {W : World} {R : Nat} {x0 x1 v0 v1 : Value} (c0 : W.cell? ⟨R, 0, none⟩ = some x0) (c1 : W.cell? ⟨R, 1, none⟩ = some x1) :
    ((W.setCell ⟨R, 0, none⟩ v0).setCell ⟨R, 1, none⟩ v1).cell? ⟨R, 0, none⟩ = some v0 ∧ ((W.setCell ⟨R, 0, none⟩ v0).setCell ⟨R, 1, none⟩ v1).cell? ⟨R, 1, none⟩ = some v1 := by
  constructor
  · go_simp
  · go_simp
theorem halves_res {W : World} {R : Nat} {s t : ByteArray} (fn : Func) (hres : fn.results = #[.cell 2 41, .tmp 3]) (tmps : Array Value) (h2 : tmps[2]?.getD undef = .pointer (some ⟨R, 0, none⟩)) (b : Bool) (h3 : tmps[3]?.getD undef = .bool b) (c0 : W.cell? ⟨R, 0, none⟩ = some (.string s)) (c1 : W.cell? ⟨R, 1, none⟩ = some (.string t)) :
    (results fn tmps).run Tryd.prog W = .ok (.tuple #[.agg #[.string s, .string t], .bool b]) W := by
  simp [results, hres, go_sem, h2, h3, c0, c1]

set_option maxRecDepth 100000 in
set_option maxHeartbeats 4000000 in
theorem esplit_no (k : Int) (nd sv : ByteArray) (a b : Int) (w : World) (hE : EnvN w) (ha : I64 a) (hb : I64 b) (hr : nmR (nmO k nd sv a b) = false) :
    Calls Tryd.prog 24 #[nmV k nd sv a b] w fun e w' => e = .returned (.tuple #[.agg #[.string ⟨#[]⟩, .string ⟨#[]⟩], .bool false]) ∧ Below w.heap.size w w' := by
  have HC := Lib.hid (eright_any k nd sv a b _ (hE.below (below_alloc_l (o := .cells #[.string ⟨#[]⟩, .string ⟨#[]⟩] 41) (below_alloc_l (o := .cells #[.int .i64 k, .string nd, .string sv, .int .i64 a, .int .i64 b] 23) (Below.refl _ _)))) ha hb)
  rw [hr] at HC
  clear hr hE
  unfold nmV at HC ⊢
  refine (callsIn_wide (n := 9)).1 ?_
  refine callsIn_of_wp_marks Tryd.func24 rfl trivial ?_ rfl
  simp only [Tryd.ntmps24, List.size_toArray, List.length_cons, List.length_nil, Nat.reduceAdd, Nat.reduceSub, Array.replicate_succ, Array.replicate_zero, List.push_toArray, List.append_toArray, List.nil_append, List.cons_append]
  refine wpIn_wide.2 ?_
  go_wp2_with fail
  refine HC.out.mono ?_
  rintro e w1 ⟨rfl, hb1⟩
  have r0 : w1.cell? ⟨w.heap.size + 1, 0, none⟩ = some (.string ⟨#[]⟩) := (hb1.cell (p := ⟨w.heap.size + 1, 0, none⟩) (by simp)).trans (by go_simp)
  have r1 : w1.cell? ⟨w.heap.size + 1, 1, none⟩ = some (.string ⟨#[]⟩) := (hb1.cell (p := ⟨w.heap.size + 1, 1, none⟩) (by simp)).trans (by go_simp)
  have q0 : w1.frozen? ⟨w.heap.size + 1, 0, none⟩ = false := (hb1.frozen (p := ⟨w.heap.size + 1, 0, none⟩) (by simp)).trans (by go_simp)
  have q1 : w1.frozen? ⟨w.heap.size + 1, 1, none⟩ = false := (hb1.frozen (p := ⟨w.heap.size + 1, 1, none⟩) (by simp)).trans (by go_simp)
  have HB := Lib.hid (show Below w.heap.size w w1 from (below_alloc_l (below_alloc_l (Below.refl _ _))).trans (hb1.mono (by simp; omega)))
  clear hb1 HC
  go_wp2_with fail
  obtain ⟨k0, k1⟩ := set2 (v0 := .string ⟨#[]⟩) (v1 := .string ⟨#[]⟩) r0 r1
  exact ⟨_, halves_res _ rfl _ rfl false rfl k0 k1, rfl, below_set_l (below_set_l HB.out (Nat.le_succ _)) (Nat.le_succ _)⟩

set_option maxRecDepth 100000 in
set_option maxHeartbeats 4000000 in
theorem esplit_go (k : Int) (nd sv : ByteArray) (a b : Int) (half : ByteArray) (f1 f2 f3 : Nat) (i : Nat) (hfind : Instr.findNow (.int .i64) (.int .i64 k) schE.toList 0 = some (some (i, schV half f1 f2 f3)))
    (hcf2 : ∀ args W, (callFunc f2 args).run Tryd.prog W = .ok (.enter f2 args) W)
    (ps : List (ByteArray × Bool)) (hlen : ps.length ≤ 1000) (hsz : ∀ x ∈ ps, x.1.size ≤ 100) (w : World) (hparts : ∀ W, Below w.heap.size w W → Calls Tryd.prog f2 #[nmV k nd sv a b] W fun e w' => (∃ v, e = .returned v ∧ Pts W.heap.size ps v w') ∧ Below W.heap.size W w')
    (hE : EnvN w) (ha : I64 a) (hb : I64 b) (hr : nmR (nmO k nd sv a b) = true) :
    Calls Tryd.prog 24 #[nmV k nd sv a b] w fun e w' => e = .returned (.tuple #[.agg #[.string half, .string (catP ps)], .bool true]) ∧ Below w.heap.size w w' := by
  obtain ⟨qs, rfl⟩ := lift_ps ps hsz
  clear hsz
  rw [List.length_map] at hlen
  have HC := Lib.hid (eright_any k nd sv a b _ (hE.below (below_alloc_l (o := .cells #[.string ⟨#[]⟩, .string ⟨#[]⟩] 41) (below_alloc_l (o := .cells #[.int .i64 k, .string nd, .string sv, .int .i64 a, .int .i64 b] 23) (Below.refl _ _)))) ha hb)
  rw [hr] at HC
  unfold nmV schV at *
  have HFIND := Lib.hid hfind
  have HCF2 := Lib.hid hcf2
  have HPARTS := Lib.hid hparts
  have HLEN := Lib.hid hlen
  clear hfind hcf2 hparts hlen hr hE
  refine (callsIn_wide (n := 9)).1 ?_
  refine callsIn_of_wp_marks Tryd.func24 rfl trivial ?_ rfl
  simp only [Tryd.ntmps24, List.size_toArray, List.length_cons, List.length_nil, Nat.reduceAdd, Nat.reduceSub, Array.replicate_succ, Array.replicate_zero, List.push_toArray, List.append_toArray, List.nil_append, List.cons_append]
  refine wpIn_wide.2 ?_
  go_wp2_with fail
  refine HC.out.mono ?_
  rintro e w1 ⟨rfl, hb1⟩
  have hz : w.heap.size + 1 + 1 ≤ w1.heap.size := by have := hb1.size; simp at this; omega
  have n0 : w1.cell? ⟨w.heap.size, 0, none⟩ = some (.int .i64 k) := (hb1.cell (p := ⟨w.heap.size, 0, none⟩) (by simp; omega)).trans (by go_simp)
  have n1 : w1.cell? ⟨w.heap.size, 1, none⟩ = some (.string nd) := (hb1.cell (p := ⟨w.heap.size, 1, none⟩) (by simp; omega)).trans (by go_simp)
  have n2 : w1.cell? ⟨w.heap.size, 2, none⟩ = some (.string sv) := (hb1.cell (p := ⟨w.heap.size, 2, none⟩) (by simp; omega)).trans (by go_simp)
  have n3 : w1.cell? ⟨w.heap.size, 3, none⟩ = some (.int .i64 a) := (hb1.cell (p := ⟨w.heap.size, 3, none⟩) (by simp; omega)).trans (by go_simp)
  have n4 : w1.cell? ⟨w.heap.size, 4, none⟩ = some (.int .i64 b) := (hb1.cell (p := ⟨w.heap.size, 4, none⟩) (by simp; omega)).trans (by go_simp)
  have r0 : w1.cell? ⟨w.heap.size + 1, 0, none⟩ = some (.string ⟨#[]⟩) := (hb1.cell (p := ⟨w.heap.size + 1, 0, none⟩) (by simp)).trans (by go_simp)
  have r1 : w1.cell? ⟨w.heap.size + 1, 1, none⟩ = some (.string ⟨#[]⟩) := (hb1.cell (p := ⟨w.heap.size + 1, 1, none⟩) (by simp)).trans (by go_simp)
  have q0 : w1.frozen? ⟨w.heap.size + 1, 0, none⟩ = false := (hb1.frozen (p := ⟨w.heap.size + 1, 0, none⟩) (by simp)).trans (by go_simp)
  have q1 : w1.frozen? ⟨w.heap.size + 1, 1, none⟩ = false := (hb1.frozen (p := ⟨w.heap.size + 1, 1, none⟩) (by simp)).trans (by go_simp)
  have HB := Lib.hid (show Below w.heap.size w w1 from (below_alloc_l (below_alloc_l (Below.refl _ _))).trans (hb1.mono (by simp; omega)))
  have HR := Lib.hid (And.intro r0 (And.intro r1 (And.intro q0 q1)))
  have HN := Lib.hid (And.intro n0 (And.intro n1 (And.intro n2 (And.intro n3 n4))))
  clear hb1 HC r0 r1 q0 q1 n1 n2 n3 n4
  go_upto_region 3 with fail
  go_cut [4] from 7 to 14 (fun p wc => ∃ B : Nat, p = .pointer (some ⟨B, 0, none⟩) ∧ wc.cell? ⟨B, 0, none⟩ = some (.string half) ∧ wc.cell? ⟨B, 2, none⟩ = some (.func (.func f2) #[] #[]) ∧ Below w1.heap.size w1 wc)
  case first =>
    have HLK := Lib.hid (show ∀ (c : Nat) (w2 : World), w2.heap[c]? = some (.map schE 3) → (Instr.lookup 64 (.map (some c)) (.int .i64 k) false).run Tryd.prog w2 = .ok (.agg #[.string half, .func (.func f1) #[] #[], .func (.func f2) #[] #[], .func (.func f3) #[] #[]]) w2 from fun c w2 h => lookS _ _ _ _ _ _ _ h HFIND.out)
    clear HFIND HCF2 HPARTS HLEN HB HR HN
    go_region_held3 (fun w' => w'.cell? ⟨w.heap.size, 0, none⟩ = some (.int .i64 k))
      (first
        | go_keep
        | (go_simp; done))
      (first
        | ((go_at_call 34; refine (schemes_any _).mono ?_; rintro e w2 ⟨rfl, hm, hb⟩; have HM := Lib.hid hm; have HB2 := Lib.hid hb; clear hm hb; replace n0 : w2.cell? ⟨w.heap.size, 0, none⟩ = some (.int .i64 k) := (HB2.out.cell (p := ⟨w.heap.size, 0, none⟩) (by simp; omega)).trans (by go_simp); have hl := HLK.out _ w2 HM.out; have hla := fun o : Obj => HLK.out _ (w2.alloc o) (heap_al HM.out); simp only [World.size_drew, World.size_alloc] at hl hla; first | (refine zfacts (p0 := ⟨w1.heap.size, 0, none⟩) (p1 := ⟨w1.heap.size, 1, none⟩) (p2 := ⟨w1.heap.size, 2, none⟩) (p3 := ⟨w1.heap.size, 3, none⟩) (v0 := .string ⟨#[]⟩) (v1 := .nilFunc) (v2 := .nilFunc) (v3 := .nilFunc) HB2 ?c0 ?c1 ?c2 ?c3 ?e0 ?e1 ?e2 ?e3 ?k; (case c0 => (go_simp; done)); (case c1 => (go_simp; done)); (case c2 => (go_simp; done)); (case c3 => (go_simp; done)); (case e0 => (go_simp; done)); (case e1 => (go_simp; done)); (case e2 => (go_simp; done)); (case e3 => (go_simp; done)); intro z0 z1 z2 z3 g0 g1 g2 g3) | skip)))
    all_goals
      have hsz1 : w1.heap.size < w2.heap.size := by have := HB2.out.size; have := lt_of_heap HM.out; simp at this; omega
      have hsz0 : w.heap.size < w2.heap.size := by omega
      clear HLK hl hla
      go_wp2_with fail
      go_meet
      case rel =>
        refine ⟨_, rfl, ?_, ?_, ?_⟩
        all_goals
          first
            | (go_simp; done)
            | exact below_alloc_l (belowIn HB2 (below_drew_l (Below.refl _ _)))
            | exact below_set_l (below_set_l (below_set_l (below_set_l (belowIn HB2 (below_drew_l (below_alloc_l (Below.refl _ _)))) (Nat.le_refl _)) (Nat.le_refl _)) (Nat.le_refl _)) (Nat.le_refl _)
  case rest =>
    obtain ⟨B, rfl, s0, s2, hbc⟩ := hcut
    have c : ∀ {p : Addr} {v : Value}, w1.cell? p = some v → wc.cell? p = some v := fun e => (hbc.cell (World.block_lt_of_cell? _ _ e)).trans e
    have HRC := Lib.hid (And.intro (c HR.out.1) (And.intro (c HR.out.2.1) (And.intro ((hbc.frozen (World.block_lt_of_cell? _ _ HR.out.1)).trans HR.out.2.2.1) ((hbc.frozen (World.block_lt_of_cell? _ _ HR.out.2.1)).trans HR.out.2.2.2))))
    replace n0 := c HN.out.1
    have n1 := c HN.out.2.1
    have n2 := c HN.out.2.2.1
    have n3 := c HN.out.2.2.2.1
    have n4 := c HN.out.2.2.2.2
    have HBC := Lib.hid (HB.out.trans (hbc.mono HB.out.size))
    have hcz : w.heap.size + 1 + 1 ≤ wc.heap.size := Nat.le_trans hz hbc.size
    have hz1 : w.heap.size < wc.heap.size := by omega
    have hz2 : B < wc.heap.size := World.block_lt_of_cell? _ _ s2
    have HPP := Lib.hid (HPARTS.out (wc.alloc (.cells #[.string half, .string ⟨#[]⟩] 41)) (below_alloc_l HBC.out))
    have hcf2 := HCF2.out
    clear hbc c HB HR HN HPARTS HCF2 HFIND hz
    go_wp2_with fail
    refine HPP.out.mono ?_
    rintro e w3 ⟨⟨v, rfl, A, Q, rfl, hnA, hA, hQ, hPt⟩, hb3⟩
    have hlt : wc.heap.size < w3.heap.size := by have := hb3.size; simp at this; omega
    have e0 : w3.cell? ⟨wc.heap.size, 0, none⟩ = some (.string half) := (hb3.cell (p := ⟨wc.heap.size, 0, none⟩) (by simp)).trans (by go_simp)
    have e1 : w3.cell? ⟨wc.heap.size, 1, none⟩ = some (.string ⟨#[]⟩) := (hb3.cell (p := ⟨wc.heap.size, 1, none⟩) (by simp)).trans (by go_simp)
    have e2 : w3.frozen? ⟨wc.heap.size, 1, none⟩ = false := (hb3.frozen (p := ⟨wc.heap.size, 1, none⟩) (by simp)).trans (by go_simp)
    have hb3c : Below wc.heap.size wc w3 := ((Below.refl _ _).alloc (Nat.le_refl _) _).trans (hb3.mono (by simp))
    have cc : ∀ {p : Addr} {v : Value}, wc.cell? p = some v → w3.cell? p = some v := fun e => (hb3c.cell (World.block_lt_of_cell? _ _ e)).trans e
    rw [List.length_map] at hQ
    have HR3 := Lib.hid (And.intro (cc HRC.out.1) (And.intro (cc HRC.out.2.1) (And.intro ((hb3c.frozen (World.block_lt_of_cell? _ _ HRC.out.1)).trans HRC.out.2.2.1) ((hb3c.frozen (World.block_lt_of_cell? _ _ HRC.out.2.1)).trans HRC.out.2.2.2))))
    have HB3 := Lib.hid (show Below w.heap.size w w3 from HBC.out.trans (hb3c.mono HBC.out.size))
    have hnA' : wc.heap.size ≠ A := by simp at hnA; omega
    have hwc : w.heap.size ≤ wc.heap.size := by omega
    have hne1 : w.heap.size + 1 ≠ wc.heap.size := by omega
    clear hb3 hb3c cc HPP HBC HRC n0 n1 n2 n3 n4 s0 s2 hcf2 hnA
    go_wp2_with fail
    refine (wpIn_wide (n := 9)).1 ?_
    refine wpIn_rangeFunc_ownH rfl (by omega) (gf := 61) (lb := #[.pointer (some ⟨Q, 0, none⟩)]) rfl trivial (enters_of Tryd.func61 (by kernel_rfl) rfl)
      (each_stops_of SP.val _ A Q qs.length qs rfl HLEN.out w3 hQ hPt) KeepA.trans keepA_b (Below.refl _ _) (fun _ => rfl)
      (fun pre W => (W.cell? ⟨wc.heap.size, 0, none⟩ = some (.string half) ∧ W.cell? ⟨wc.heap.size, 1, none⟩ = some (.string (catP (pre.map SP.val))) ∧ W.frozen? ⟨wc.heap.size, 1, none⟩ = false ∧ W.cell? ⟨w.heap.size + 1, 0, none⟩ = some (.string ⟨#[]⟩) ∧ W.cell? ⟨w.heap.size + 1, 1, none⟩ = some (.string ⟨#[]⟩) ∧ W.frozen? ⟨w.heap.size + 1, 0, none⟩ = false ∧ W.frozen? ⟨w.heap.size + 1, 1, none⟩ = false) ∧ Below w.heap.size w W)
      (fun c pre W => False ∧ Below w.heap.size w W)
      (OwnFrom.and (Own.from (fun s A B row hs hg hr => ⟨cell_kept hs.1 hg hr, cell_kept hs.2.1 hg hr, (frozen_kept hs.2.1 hg hr).trans hs.2.2.1, cell_kept hs.2.2.2.1 hg hr, cell_kept hs.2.2.2.2.1 hg hr, (frozen_kept hs.2.2.2.1 hg hr).trans hs.2.2.2.2.2.1, (frozen_kept hs.2.2.2.2.1 hg hr).trans hs.2.2.2.2.2.2⟩) _) (ownFrom_below (Nat.le_refl _) (by omega)))
      (fun c => OwnFrom.and (Own.from (fun s A B row hs hg hr => hs) _) (ownFrom_below (Nat.le_refl _) (by omega)))
      ⟨⟨e0, e1, e2, HR3.out⟩, HB3.out⟩
      (fun x act W => ∃ C : Nat, act = { tmps := #[.agg #[.int .i64 k, .string nd, .string sv, .int .i64 a, .int .i64 b], .pointer (some ⟨w.heap.size, 0, none⟩), .pointer (some ⟨w.heap.size + 1, 0, none⟩), .bool false, .pointer (some ⟨B, 0, none⟩), .pointer (some ⟨wc.heap.size, 0, none⟩), .pointer (some ⟨C, 0, none⟩), u7, u8, u9, u10, u11, u12, u13, u14, .pointer (some ⟨B, 0, none⟩), .string half, .agg #[.string half, .string ⟨#[]⟩], .pointer (some ⟨B, 2, none⟩), .func (.func f2) #[] #[], .agg #[.int .i64 k, .string nd, .string sv, .int .i64 a, .int .i64 b], .func (.func 61) #[] #[.pointer (some ⟨Q, 0, none⟩)], .agg #[.string x.val.1, .bool x.val.2], undef, undef, undef, undef, undef, undef, undef], defers := [] } ∧ W.cell? ⟨C, 0, none⟩ = some (.string x.val.1) ∧ W.cell? ⟨C, 1, none⟩ = some (.bool x.val.2))
      (fun x a' => Own.from (fun s A B row hs hg hr => hs.elim fun c hc => ⟨c, hc.1, cell_kept hc.2.1 hg hr, cell_kept hc.2.2 hg hr⟩) _) ?assign ?body ?done ?stop
    case assign =>
      rintro l pre x W K ⟨⟨h1, h2, h3, h4, h5, h6, h7⟩, hB⟩ hK
      obtain ⟨⟨x1, x2⟩, hx12⟩ : ∃ y : ByteArray × Bool, y = x.val := ⟨_, rfl⟩
      have HX := Lib.hid hx12
      rw [← hx12] at hK
      simp only [← hx12]
      clear hx12
      have hBA : Below W.heap.size W (W.alloc (.cells #[.string x1, .bool x2] 69)) := (Below.refl _ _).alloc (Nat.le_refl _) _
      have HI := Lib.hid (And.intro (cell_al (o := .cells #[.string x1, .bool x2] 69) h1) (And.intro (cell_al (o := .cells #[.string x1, .bool x2] 69) h2) (And.intro ((hBA.frozen (World.block_lt_of_cell? _ _ h2)).trans h3) (And.intro (cell_al (o := .cells #[.string x1, .bool x2] 69) h4) (And.intro (cell_al (o := .cells #[.string x1, .bool x2] 69) h5) (And.intro ((hBA.frozen (World.block_lt_of_cell? _ _ h4)).trans h6) ((hBA.frozen (World.block_lt_of_cell? _ _ h5)).trans h7)))))))
      clear h1 h2 h3 h4 h5 h6 h7 e0 e1 e2 hBA
      gi_wp2
      exact hK _ _ ((KeepsOthers.alloc _ _).from _) (KeepA.alloc _ _) ⟨HI.out, hB.alloc hB.size _⟩ ⟨W.heap.size, rfl, by go_simp, by go_simp⟩
    case body =>
      rintro l pre x act W _ _ ⟨⟨h1, h2, h3, h4, h5, h6, h7⟩, hB⟩ ⟨C, rfl, c0, c1⟩ hpl
      have hs1 := cat_size pre
      have hs2 : x.val.1.size ≤ 100 := x.h
      have HCS := Lib.hid (show catP ((pre ++ [x]).map SP.val) = catP (pre.map SP.val) ++ x.val.1 by rw [List.map_append]; exact catP_snoc _ _)
      have hln := HLEN.out
      generalize x.val = xv at c0 c1 hs2 HCS ⊢
      obtain ⟨x1, x2⟩ := xv
      simp only at c0 c1 hs2 HCS
      have HI := Lib.hid (And.intro h4 (And.intro h5 (And.intro h6 h7)))
      generalize catP (pre.map SP.val) = cp at h2 HCS hs1
      have hov : ¬ 9223372036854775807 < cp.size + x1.size := by omega
      clear e0 e1 e2 h4 h5 h6 h7 c1 hs1 hs2 hln hpl
      gi_wp2
      refine ⟨(KeepsOthers.setCell _ _ _).from _, KeepA.other _ _ _ hnA', ⟨?_, ?_, ?_, ?_, ?_, ?_, ?_⟩, hB.setCell (p := ⟨wc.heap.size, 1, none⟩) hwc _⟩
      · go_simp
      · rw [HCS.out]; exact World.cell?_setCell_same' _ _ _ (by rw [h2]; rfl)
      · rw [World.frozen?_setCell]; exact h3
      · have := HI.out.1; go_simp
      · have := HI.out.2.1; go_simp
      · rw [World.frozen?_setCell]; exact HI.out.2.2.1
      · rw [World.frozen?_setCell]; exact HI.out.2.2.2
    case done =>
      rintro D ys W hD rfl ⟨⟨h1, h2, h3, h4, h5, h6, h7⟩, hB⟩ hK
      obtain ⟨cp, hcp⟩ : ∃ cp, cp = catP (List.map SP.val ys) := ⟨_, rfl⟩
      rw [← hcp] at h2
      have HCP := Lib.hid hcp
      clear e0 e1 e2 hcp
      go_wp2
      obtain ⟨k0, k1⟩ := set2 (v0 := .string half) (v1 := .string cp) h4 h5
      refine ⟨by simp, .inl ⟨_, _, rfl, run_takeDeferred (((KeepsOthers.setCell _ _ _).trans (KeepsOthers.setCell _ _ _)).same D _ hK rfl), ?_⟩⟩
      have hgr := grownBy_putObj' ((W.setCell ⟨w.heap.size + 1, 0, none⟩ (.string half)).setCell ⟨w.heap.size + 1, 1, none⟩ (.string cp)) D (.deferred none)
      have hK2 := (((KeepsOthers.setCell W _ _).trans (KeepsOthers.setCell (W.setCell ⟨w.heap.size + 1, 0, none⟩ (.string half)) ⟨w.heap.size + 1, 1, none⟩ (.string cp))).same D _ hK rfl)
      exact ⟨_, halves_res _ rfl _ rfl true rfl (cell_kept k0 hgr (fun r e => by cases e; exact ⟨_, hK2, rfl⟩)) (cell_kept k1 hgr (fun r e => by cases e; exact ⟨_, hK2, rfl⟩)), by rw [HCP.out], (below_set_l (below_set_l hB (Nat.le_succ _)) (Nat.le_succ _)).trans (belowK_b (w := w) (Nat.le_refl _) _ D _ _ (by omega) hK2 rfl rfl)⟩
    case stop =>
      rintro D c pre W hD _ ⟨h, _⟩
      cases h
end Go.Proofs.YtmpokhdljlnllaaDoor
