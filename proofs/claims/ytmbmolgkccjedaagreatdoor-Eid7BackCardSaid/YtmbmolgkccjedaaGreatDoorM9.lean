/- Two names compared; two pairs of halves compared. -/
import Derived.Test.YtmbmolgkccjedaaGreatDoorESch
import Derived.Deep.Cut
import Derived.Deep.CutRange
import Derived.Laws.EntriesVeiled
import Derived.Test.YtmbmolgkccjedaaGreatDoorEPure
import Derived.Test.YtmbmolgkccjedaaGreatDoorM8
import Derived.Test.YtmbmolgkccjedaaGreatDoorM7
set_option linter.unusedVariables false
set_option linter.unusedSimpArgs false
namespace Go.Proofs.YtmbmolgkccjedaaGreatDoor
open Go.RowKit Go.Shelf

theorem frozenIn {X Y : World} {p : Addr} {v : Value} (h : Hid (Below X.heap.size X Y)) (hc : X.cell? p = some v) (e : X.frozen? p = false) : Y.frozen? p = false := (h.out.frozen (World.block_lt_of_cell? _ _ hc)).trans e
theorem below_set_l {w X : World} {p : Addr} {v : Value} (e : Below w.heap.size w X) (h : w.heap.size ≤ p.block) : Below w.heap.size w (X.setCell p v) := e.setCell h v
theorem zfacts {X Y : World} {p0 p1 p2 p3 : Addr} {v0 v1 v2 v3 : Value} {G : Prop} (h : Hid (Below X.heap.size X Y)) (c0 : X.cell? p0 = some v0) (c1 : X.cell? p1 = some v1) (c2 : X.cell? p2 = some v2) (c3 : X.cell? p3 = some v3) (e0 : X.frozen? p0 = false) (e1 : X.frozen? p1 = false) (e2 : X.frozen? p2 = false) (e3 : X.frozen? p3 = false)
    (k : Y.cell? p0 = some v0 → Y.cell? p1 = some v1 → Y.cell? p2 = some v2 → Y.cell? p3 = some v3 → Y.frozen? p0 = false → Y.frozen? p1 = false → Y.frozen? p2 = false → Y.frozen? p3 = false → G) : G :=
  k (cellIn h c0) (cellIn h c1) (cellIn h c2) (cellIn h c3) (frozenIn h c0 e0) (frozenIn h c1 e1) (frozenIn h c2 e2) (frozenIn h c3 e3)
theorem heap_al {X : World} {o x : Obj} {b : Nat} (h : X.heap[b]? = some x) : (X.alloc o).heap[b]? = some x := (Below.heap_alloc _ _ _ (lt_of_heapE h)).trans h
/-- May all parts stand there? -/
def allP (ps : List (ByteArray × Bool)) : Bool := ps.all (·.2)
/-- The parts of each scheme. -/
def psN : List (ByteArray × Bool) := [(⟨#[110, 111, 110, 101]⟩, true)]
def psD (nd sv : ByteArray) : List (ByteArray × Bool) := [(⟨#[47, 47]⟩, true), (nd, ndR nd), (⟨#[47]⟩, true), (sv, svR sv)]
def psI (a b : Int) : List (ByteArray × Bool) := [(⟨(Lib.itoa a).toArray⟩, aR a), (⟨#[46]⟩, true), (⟨(Lib.itoa b).toArray⟩, bR b)]
/-- Are two names the same? -/
def nmE (k : Int) (nd sv : ByteArray) (a b k' : Int) (nd' sv' : ByteArray) (a' b' : Int) : Bool := decide (k = k' ∧ nd.toList = nd'.toList ∧ sv.toList = sv'.toList ∧ a = a' ∧ b = b')
theorem nm_eql (k : Int) (nd sv : ByteArray) (a b k' : Int) (nd' sv' : ByteArray) (a' b' : Int) (w : World) : (binOp .eql 23 (.agg #[.int .i64 k, .string nd, .string sv, .int .i64 a, .int .i64 b]) (.agg #[.int .i64 k', .string nd', .string sv', .int .i64 a', .int .i64 b'])).run Tryz.prog w = .ok (.bool (nmE k nd sv a b k' nd' sv' a' b')) w := by
  unfold nmE
  by_cases h1 : k = k' <;> by_cases h2 : nd.toList = nd'.toList <;> by_cases h3 : sv.toList = sv'.toList <;> by_cases h4 : a = a' <;> by_cases h5 : b = b' <;> go_simp <;> simp [h1, h2, h3, h4, h5]
theorem nm_neq (k : Int) (nd sv : ByteArray) (a b k' : Int) (nd' sv' : ByteArray) (a' b' : Int) (w : World) : (binOp .neq 23 (.agg #[.int .i64 k, .string nd, .string sv, .int .i64 a, .int .i64 b]) (.agg #[.int .i64 k', .string nd', .string sv', .int .i64 a', .int .i64 b'])).run Tryz.prog w = .ok (.bool (!nmE k nd sv a b k' nd' sv' a' b')) w := by
  unfold nmE
  by_cases h1 : k = k' <;> by_cases h2 : nd.toList = nd'.toList <;> by_cases h3 : sv.toList = sv'.toList <;> by_cases h4 : a = a' <;> by_cases h5 : b = b' <;> go_simp <;> simp [h1, h2, h3, h4, h5]
theorem toList_inj {s t : ByteArray} (h : s.toList = t.toList) : s = t := by
  rw [ByteArray.toList_eq, ByteArray.toList_eq] at h
  apply ByteArray.ext
  exact Array.toList_inj.1 h
theorem nmE_iff {k : Int} {nd sv : ByteArray} {a b k' : Int} {nd' sv' : ByteArray} {a' b' : Int} : nmE k nd sv a b k' nd' sv' a' b' = true ↔ k = k' ∧ nd = nd' ∧ sv = sv' ∧ a = a' ∧ b = b' := by
  unfold nmE
  rw [decide_eq_true_eq]
  constructor
  · rintro ⟨h1, h2, h3, h4, h5⟩
    exact ⟨h1, toList_inj h2, toList_inj h3, h4, h5⟩
  · rintro ⟨rfl, rfl, rfl, rfl, rfl⟩
    exact ⟨rfl, rfl, rfl, rfl, rfl⟩
/-- Are two pairs of halves the same? -/
def hvE (s t s' t' : ByteArray) : Bool := decide (s.toList = s'.toList ∧ t.toList = t'.toList)
theorem hv_neq (s t s' t' : ByteArray) (w : World) : (binOp .neq 213 (.agg #[.string s, .string t]) (.agg #[.string s', .string t'])).run Tryz.prog w = .ok (.bool (!hvE s t s' t')) w := by
  unfold hvE
  by_cases h1 : s.toList = s'.toList <;> by_cases h2 : t.toList = t'.toList <;> go_simp <;> simp [h1, h2]
theorem hvE_iff {s t s' t' : ByteArray} : hvE s t s' t' = true ↔ s = s' ∧ t = t' := by
  unfold hvE
  rw [decide_eq_true_eq]
  constructor
  · rintro ⟨h1, h2⟩
    exact ⟨toList_inj h1, toList_inj h2⟩
  · rintro ⟨rfl, rfl⟩
    exact ⟨rfl, rfl⟩
/-- What lies where a scheme was looked up: the name, and the scheme at B. -/
structure SchAt (k : Int) (nd sv : ByteArray) (a b : Int) (v0 v1 v2 v3 : Value) (w : World) (B : Nat) (W : World) : Prop where
  n0 : W.cell? ⟨w.heap.size, 0, none⟩ = some (.int .i64 k)
  n1 : W.cell? ⟨w.heap.size, 1, none⟩ = some (.string nd)
  n2 : W.cell? ⟨w.heap.size, 2, none⟩ = some (.string sv)
  n3 : W.cell? ⟨w.heap.size, 3, none⟩ = some (.int .i64 a)
  n4 : W.cell? ⟨w.heap.size, 4, none⟩ = some (.int .i64 b)
  s0 : W.cell? ⟨B, 0, none⟩ = some v0
  s1 : W.cell? ⟨B, 1, none⟩ = some v1
  s2 : W.cell? ⟨B, 2, none⟩ = some v2
  s3 : W.cell? ⟨B, 3, none⟩ = some v3
  be : Below w.heap.size w W
theorem SchAt.below {k : Int} {nd sv : ByteArray} {a b : Int} {v0 v1 v2 v3 : Value} {w : World} {B : Nat} {W W' : World} (h : SchAt k nd sv a b v0 v1 v2 v3 w B W) (hb : Below W.heap.size W W') : SchAt k nd sv a b v0 v1 v2 v3 w B W' := by
  have c : ∀ {p : Addr} {v : Value}, W.cell? p = some v → W'.cell? p = some v := fun e => (hb.cell (World.block_lt_of_cell? _ _ e)).trans e
  exact ⟨c h.n0, c h.n1, c h.n2, c h.n3, c h.n4, c h.s0, c h.s1, c h.s2, c h.s3, h.be.trans (hb.mono h.be.size)⟩
end Go.Proofs.YtmbmolgkccjedaaGreatDoor

/- Right of package eid, at a name whose scheme is known: over whatever contracts of the scheme's own two functions. -/
set_option linter.unusedVariables false
set_option linter.unusedSimpArgs false
namespace Go.Proofs.YtmbmolgkccjedaaGreatDoor
open Go.RowKit Go.Shelf

attribute [local go_sem] Oper.semAt_some

/-- A scheme's value. -/
def schV (half : ByteArray) (f1 f2 f3 : Nat) : Value := .agg #[.string half, .func (.func f1) #[] #[], .func (.func f2) #[] #[], .func (.func f3) #[] #[]]

set_option maxRecDepth 100000 in
set_option maxHeartbeats 4000000 in
theorem eright_go (k : Int) (nd sv : ByteArray) (a b : Int) (half : ByteArray) (f1 f2 f3 : Nat) (i : Nat) (hfind : Instr.findNow (.int .i64) (.int .i64 k) schE.toList 0 = some (some (i, schV half f1 f2 f3)))
    (hcf1 : ∀ args W, (callFunc f1 args).run Tryz.prog W = .ok (.enter f1 args) W) (hcf2 : ∀ args W, (callFunc f2 args).run Tryz.prog W = .ok (.enter f2 args) W)
    (k' : Int) (nd' sv' : ByteArray) (a' b' : Int) (hbare : ∀ W, Calls Tryz.prog f1 #[nmV k nd sv a b] W fun e w' => e = .returned (nmV k' nd' sv' a' b') ∧ Below W.heap.size W w')
    (ps : List (ByteArray × Bool)) (hlen : ps.length ≤ 1000) (w : World) (hparts : ∀ W, Below w.heap.size w W → Calls Tryz.prog f2 #[nmV k nd sv a b] W fun e w' => (∃ v, e = .returned v ∧ Pts W.heap.size ps v w') ∧ Below W.heap.size W w') :
    Calls Tryz.prog 21 #[nmV k nd sv a b] w fun e w' => e = .returned (.bool (nmE k' nd' sv' a' b' k nd sv a b && allP ps)) ∧ Below w.heap.size w w' := by
  unfold nmV schV at *
  have HFIND := Lib.hid hfind
  have HCF1 := Lib.hid hcf1
  have HCF2 := Lib.hid hcf2
  have HBARE := Lib.hid hbare
  have HPARTS := Lib.hid hparts
  have HLEN := Lib.hid hlen
  clear hfind hcf1 hcf2 hbare hparts hlen
  obtain ⟨u, hu⟩ : ∃ u, nmE k' nd' sv' a' b' k nd sv a b = u := ⟨_, rfl⟩
  have HEQ := Lib.hid (show ∀ W : World, (binOp .neq 23 (.agg #[.int .i64 k', .string nd', .string sv', .int .i64 a', .int .i64 b']) (.agg #[.int .i64 k, .string nd, .string sv, .int .i64 a, .int .i64 b])).run Tryz.prog W = .ok (.bool (!u)) W from fun W => by rw [← hu]; exact nm_neq _ _ _ _ _ _ _ _ _ _ W)
  rw [hu]
  clear hu
  refine (callsIn_wide (n := 9)).1 ?_
  refine callsIn_of_wp_marks Tryz.func21 rfl trivial ?_ rfl
  simp only [Tryz.ntmps21, List.size_toArray, List.length_cons, List.length_nil, Nat.reduceAdd, Nat.reduceSub, Array.replicate_succ, Array.replicate_zero, List.push_toArray, List.append_toArray, List.nil_append, List.cons_append]
  refine wpIn_wide.2 ?_
  go_wp2_with fail
  refine wp_scope_straight ?_
  go_upto_region 1 with fail
  go_cut [3, 4] from 7 to 13 (fun p q wc => ∃ B : Nat, p = .pointer (some ⟨B, 0, none⟩) ∧ q = .bool true ∧ SchAt k nd sv a b (.string half) (.func (.func f1) #[] #[]) (.func (.func f2) #[] #[]) (.func (.func f3) #[] #[]) w B wc)
  case first =>
    have HLK := Lib.hid (show ∀ (c : Nat) (w1 : World), w1.heap[c]? = some (.map schE 3) → (Instr.lookup 69 (.map (some c)) (.int .i64 k) true).run Tryz.prog w1 = .ok (.tuple #[.agg #[.string half, .func (.func f1) #[] #[], .func (.func f2) #[] #[], .func (.func f3) #[] #[]], .bool true]) w1 from fun c w1 h => lookS2 _ _ _ _ _ _ _ h HFIND.out)
    clear HFIND HCF1 HCF2 HBARE HPARTS HLEN HEQ
    go_region_held3 (fun w' => w'.cell? ⟨w.heap.size, 0, none⟩ = some (.int .i64 k))
      (first
        | go_keep
        | (go_simp; done))
      (first
        | ((go_at_call 40; refine (schemes_any _).mono ?_; rintro e w1 ⟨rfl, hm, hb⟩; have n0 : w1.cell? ⟨w.heap.size, 0, none⟩ = some (.int .i64 k) := (hb.cell (p := ⟨w.heap.size, 0, none⟩) (by simp; try omega)).trans (by go_simp); have HM := Lib.hid hm; have HB := Lib.hid hb; clear hm hb; have hl := HLK.out _ w1 HM.out; have hla := fun o : Obj => HLK.out _ (w1.alloc o) (heap_al HM.out); simp only [World.size_drew, World.size_alloc] at hl hla; first | (refine zfacts (p0 := ⟨w.heap.size + 1, 0, none⟩) (p1 := ⟨w.heap.size + 1, 1, none⟩) (p2 := ⟨w.heap.size + 1, 2, none⟩) (p3 := ⟨w.heap.size + 1, 3, none⟩) (v0 := .string ⟨#[]⟩) (v1 := .nilFunc) (v2 := .nilFunc) (v3 := .nilFunc) HB ?c0 ?c1 ?c2 ?c3 ?e0 ?e1 ?e2 ?e3 ?k; (case c0 => (go_simp; done)); (case c1 => (go_simp; done)); (case c2 => (go_simp; done)); (case c3 => (go_simp; done)); (case e0 => (go_simp; done)); (case e1 => (go_simp; done)); (case e2 => (go_simp; done)); (case e3 => (go_simp; done)); intro z0 z1 z2 z3 g0 g1 g2 g3) | skip)))
    all_goals
      have m1 : w1.cell? ⟨w.heap.size, 1, none⟩ = some (.string nd) := cellIn HB (by go_simp)
      have m2 : w1.cell? ⟨w.heap.size, 2, none⟩ = some (.string sv) := cellIn HB (by go_simp)
      have m3 : w1.cell? ⟨w.heap.size, 3, none⟩ = some (.int .i64 a) := cellIn HB (by go_simp)
      have m4 : w1.cell? ⟨w.heap.size, 4, none⟩ = some (.int .i64 b) := cellIn HB (by go_simp)
      have hsz1 : w.heap.size + 1 < w1.heap.size := by have := HB.out.size; have := lt_of_heapE HM.out; simp at this; omega
      have hsz0 : w.heap.size < w1.heap.size := by omega
      clear HLK hl hla
      go_wp2_with fail
      go_meet
      case rel =>
        refine ⟨_, rfl, rfl, ⟨?_, ?_, ?_, ?_, ?_, ?_, ?_, ?_, ?_, ?_⟩⟩
        all_goals
          first
            | (go_simp; done)
            | exact below_alloc_l (belowIn HB (below_drew_l (below_alloc_l (Below.refl _ _))))
            | exact below_set_l (below_set_l (below_set_l (below_set_l (belowIn HB (below_drew_l (below_alloc_l (below_alloc_l (Below.refl _ _))))) (Nat.le_succ _)) (Nat.le_succ _)) (Nat.le_succ _)) (Nat.le_succ _)
  case rest =>
    obtain ⟨B, rfl, rfl, hS⟩ := hcut
    have n0 := hS.n0
    have n1 := hS.n1
    have n2 := hS.n2
    have n3 := hS.n3
    have n4 := hS.n4
    have s1 := hS.s1
    have HS := Lib.hid hS
    have heq := HEQ.out
    have hcf1 := HCF1.out
    clear hS HEQ HFIND
    go_wp2_with fail
    go_region_held3 (fun w' => w'.cell? ⟨w.heap.size, 0, none⟩ = some (.int .i64 k) ∧ w'.cell? ⟨w.heap.size, 1, none⟩ = some (.string nd) ∧ w'.cell? ⟨w.heap.size, 2, none⟩ = some (.string sv) ∧ w'.cell? ⟨w.heap.size, 3, none⟩ = some (.int .i64 a) ∧ w'.cell? ⟨w.heap.size, 4, none⟩ = some (.int .i64 b) ∧ w'.cell? ⟨B, 1, none⟩ = some (.func (.func f1) #[] #[]))
      (first
        | go_keep
        | (go_simp; done))
      (first
        | ((go_at_fn f1; refine (HBARE.out _).mono ?_; rintro e w2 ⟨rfl, hb⟩; have HB := Lib.hid hb; clear hb; replace n0 := cellIn HB n0; replace n1 := cellIn HB n1; replace n2 := cellIn HB n2; replace n3 := cellIn HB n3; replace n4 := cellIn HB n4; replace s1 := cellIn HB s1)))
    have HS2 := Lib.hid (HS.out.below ((Below.refl _ _).drew.trans (HB.out.mono (Nat.le_refl _))))
    clear heq hcf1 HS HB n0 n1 n2 n3 n4 s1
    cases u with
    | false =>
      go_wp2_with fail
      exact ⟨_, results_tmp rfl _ _ _, rfl, HS2.out.be⟩
    | true =>
      have n0 := HS2.out.n0
      have n1 := HS2.out.n1
      have n2 := HS2.out.n2
      have n3 := HS2.out.n3
      have n4 := HS2.out.n4
      have s2 := HS2.out.s2
      have hcf2 := HCF2.out
      have HBA := Lib.hid (below_alloc_l (o := .cells #[.bool true] 4) HS2.out.be)
      have HPP := Lib.hid (HPARTS.out _ HBA.out)
      have hz1 : w.heap.size < w2.heap.size := World.block_lt_of_cell? _ _ n0
      have hz2 : B < w2.heap.size := World.block_lt_of_cell? _ _ s2
      go_wp2_with fail
      refine wp_label ?_
      go_wp2_with fail
      refine HPP.out.mono ?_
      rintro e w3 ⟨⟨v, rfl, A, Q, rfl, _, hA, hQ, hPt⟩, hb3⟩
      have hlt : w2.heap.size < w3.heap.size := by have := hb3.size; simp at this; omega
      have e1 : w3.cell? ⟨w2.heap.size, 0, none⟩ = some (.bool true) := (hb3.cell (p := ⟨w2.heap.size, 0, none⟩) (by simp)).trans (by go_simp)
      have e2 : w3.frozen? ⟨w2.heap.size, 0, none⟩ = false := (hb3.frozen (p := ⟨w2.heap.size, 0, none⟩) (by simp)).trans (by go_simp)
      have HB3 := Lib.hid (show Below w.heap.size w w3 from HBA.out.trans (hb3.mono HBA.out.size))
      have hn0 : w.heap.size ≤ w2.heap.size := HS2.out.be.size
      clear hb3 HPP HBA n0 n1 n2 n3 n4 s2 hcf2 HS2 HCF1 HCF2 HBARE HPARTS
      go_wp2_with fail
      refine (wpIn_wide (n := 9)).1 ?_
      refine wpIn_rangeFunc_ownH rfl (by omega) (gf := 118) (lb := #[.pointer (some ⟨Q, 0, none⟩)]) rfl trivial (enters_of Tryz.func118 (by kernel_rfl) rfl)
        (each_stopsE _ A Q ps.length ps rfl HLEN.out w3 hQ hPt) KeepA.trans keepA_b (Below.refl _ _) (fun _ => rfl)
        (fun pre W => (W.cell? ⟨w2.heap.size, 0, none⟩ = some (.bool true) ∧ W.frozen? ⟨w2.heap.size, 0, none⟩ = false ∧ allP pre = true) ∧ Below w.heap.size w W)
        (fun c pre W => (c = .exit 0 ∧ W.cell? ⟨w2.heap.size, 0, none⟩ = some (.bool false) ∧ allP pre = false) ∧ Below w.heap.size w W)
        (OwnFrom.and (Own.from (fun s A B row hs hg hr => ⟨cell_kept hs.1 hg hr, (frozen_kept hs.1 hg hr).trans hs.2.1, hs.2.2⟩) _) (ownFrom_below (Nat.le_refl _) (by omega)))
        (fun c => OwnFrom.and (Own.from (fun s A B row hs hg hr => ⟨hs.1, cell_kept hs.2.1 hg hr, hs.2.2⟩) _) (ownFrom_below (Nat.le_refl _) (by omega)))
        ⟨⟨e1, e2, rfl⟩, HB3.out⟩
        (fun x act W => ∃ C : Nat, act = { tmps := #[.agg #[.int .i64 k, .string nd, .string sv, .int .i64 a, .int .i64 b], .pointer (some ⟨w.heap.size, 0, none⟩), .bool false, .pointer (some ⟨B, 0, none⟩), .bool true, .pointer (some ⟨w2.heap.size, 0, none⟩), .pointer (some ⟨C, 0, none⟩), u7, u8, u9, u10, u11, u12, u13, .bool true, .bool false, .bool false, .pointer (some ⟨B, 1, none⟩), .func (.func f1) #[] #[], .agg #[.int .i64 k, .string nd, .string sv, .int .i64 a, .int .i64 b], .agg #[.int .i64 k', .string nd', .string sv', .int .i64 a', .int .i64 b'], .agg #[.int .i64 k, .string nd, .string sv, .int .i64 a, .int .i64 b], .bool (!true), .bool (!true), .pointer (some ⟨B, 2, none⟩), .func (.func f2) #[] #[], .agg #[.int .i64 k, .string nd, .string sv, .int .i64 a, .int .i64 b], .func (.func 118) #[] #[.pointer (some ⟨Q, 0, none⟩)], .agg #[.string x.1, .bool x.2], undef, undef, undef, undef], defers := [] } ∧ W.cell? ⟨C, 0, none⟩ = some (.string x.1) ∧ W.cell? ⟨C, 1, none⟩ = some (.bool x.2))
        (fun x a' => Own.from (fun s A B row hs hg hr => hs.elim fun c hc => ⟨c, hc.1, cell_kept hc.2.1 hg hr, cell_kept hc.2.2 hg hr⟩) _) ?assign ?body ?done ?stop
      case assign =>
        rintro l pre ⟨x1, x2⟩ W K ⟨⟨h1, h2, h3⟩, hB⟩ hK
        have k1 : (W.alloc (.cells #[.string x1, .bool x2] 74)).cell? ⟨w2.heap.size, 0, none⟩ = some (.bool true) := cell_al h1
        have k2 : (W.alloc (.cells #[.string x1, .bool x2] 74)).frozen? ⟨w2.heap.size, 0, none⟩ = false := (((Below.refl _ _).alloc (Nat.le_refl _) _).frozen (World.block_lt_of_cell? _ _ h1)).trans h2
        have H3 := Lib.hid h3
        clear h1 h2 h3 e1 e2
        gi_wp2
        exact hK _ _ ((KeepsOthers.alloc _ _).from _) (KeepA.alloc _ _) ⟨⟨k1, k2, H3.out⟩, hB.alloc hB.size _⟩ ⟨W.heap.size, rfl, by go_simp, by go_simp⟩
      case body =>
        rintro l pre ⟨x1, x2⟩ a' W _ _ ⟨⟨h1, h2, h3⟩, hB⟩ ⟨C, rfl, c0, c1⟩ _
        have H3 := Lib.hid h3
        clear h3 e1 e2
        cases x2 with
        | false =>
          gi_wp2
          refine ⟨(KeepsOthers.setCell _ _ _).from _, ⟨rfl, World.cell?_setCell_same' _ _ _ (by rw [h1]; rfl), by simp [allP]⟩, hB.setCell (p := ⟨w2.heap.size, 0, none⟩) hn0 _⟩
        | true =>
          gi_wp2
          refine ⟨KeepsFrom.refl _ _, KeepA.refl _ _, ⟨h1, h2, ?_⟩, hB⟩
          have := H3.out
          unfold allP at this ⊢
          rw [List.all_append, this]
          rfl
      case done =>
        rintro D ys W hD rfl ⟨⟨h1, _, h3⟩, hB⟩ hK
        have H3 := Lib.hid h3
        clear h3 e1 e2
        go_wp2
        refine ⟨by simp, .inl ⟨_, _, rfl, run_takeDeferred hK, ?_⟩⟩
        exact ⟨_, results_tmp rfl _ _ _, by rw [H3.out]; rfl, hB.trans (belowK_b (w := w) (Nat.le_refl _) W D _ _ (by omega) hK rfl rfl)⟩
      case stop =>
        rintro D c pre W hD ⟨t, hpre⟩ ⟨⟨rfl, h2, h3⟩, hB⟩ hK
        have H3 := Lib.hid (show allP ps = false by
          rw [← hpre]
          unfold allP at h3 ⊢
          rw [List.all_append, h3]
          rfl)
        clear h3 hpre e1 e2
        gi_wp2
        try go_wp2
        refine ⟨by simp, .inl ⟨_, _, rfl, run_takeDeferred hK, ?_⟩⟩
        exact ⟨_, results_tmp rfl _ _ _, by rw [H3.out]; rfl, hB.trans (belowK_b (w := w) (Nat.le_refl _) W D _ _ (by omega) hK rfl rfl)⟩
end Go.Proofs.YtmbmolgkccjedaaGreatDoor

/- Right of package eid, at a name whose scheme is none; and at every name. -/
set_option linter.unusedVariables false
set_option linter.unusedSimpArgs false
namespace Go.Proofs.YtmbmolgkccjedaaGreatDoor
open Go.RowKit Go.Shelf

attribute [local go_sem] Oper.semAt_some

set_option maxRecDepth 100000 in
set_option maxHeartbeats 4000000 in
theorem eright_no (k : Int) (nd sv : ByteArray) (a b : Int) (hfind : Instr.findNow (.int .i64) (.int .i64 k) schE.toList 0 = some none) (w : World) :
    Calls Tryz.prog 21 #[nmV k nd sv a b] w fun e w' => e = .returned (.bool false) ∧ Below w.heap.size w w' := by
  unfold nmV
  have HFIND := Lib.hid hfind
  clear hfind
  refine (callsIn_wide (n := 9)).1 ?_
  refine callsIn_of_wp_marks Tryz.func21 rfl trivial ?_ rfl
  simp only [Tryz.ntmps21, List.size_toArray, List.length_cons, List.length_nil, Nat.reduceAdd, Nat.reduceSub, Array.replicate_succ, Array.replicate_zero, List.push_toArray, List.append_toArray, List.nil_append, List.cons_append]
  refine wpIn_wide.2 ?_
  go_wp2_with fail
  refine wp_scope_straight ?_
  go_upto_region 1 with fail
  go_cut [3, 4] from 7 to 13 (fun p q wc => ∃ B : Nat, p = .pointer (some ⟨B, 0, none⟩) ∧ q = .bool false ∧ SchAt k nd sv a b (.string ⟨#[]⟩) .nilFunc .nilFunc .nilFunc w B wc)
  case first =>
    have HLK := Lib.hid (show ∀ (c : Nat) (w1 : World), w1.heap[c]? = some (.map schE 3) → (Instr.lookup 69 (.map (some c)) (.int .i64 k) true).run Tryz.prog w1 = .ok (.tuple #[.agg #[.string ⟨#[]⟩, .nilFunc, .nilFunc, .nilFunc], .bool false]) w1 from fun c w1 h => lookN2 _ _ _ _ _ h HFIND.out)
    clear HFIND
    go_region_held3 (fun w' => w'.cell? ⟨w.heap.size, 0, none⟩ = some (.int .i64 k))
      (first
        | go_keep
        | (go_simp; done))
      (first
        | ((go_at_call 40; refine (schemes_any _).mono ?_; rintro e w1 ⟨rfl, hm, hb⟩; have n0 : w1.cell? ⟨w.heap.size, 0, none⟩ = some (.int .i64 k) := (hb.cell (p := ⟨w.heap.size, 0, none⟩) (by simp; try omega)).trans (by go_simp); have HM := Lib.hid hm; have HB := Lib.hid hb; clear hm hb; have hl := HLK.out _ w1 HM.out; have hla := fun o : Obj => HLK.out _ (w1.alloc o) (heap_al HM.out); simp only [World.size_drew, World.size_alloc] at hl hla; first | (refine zfacts (p0 := ⟨w.heap.size + 1, 0, none⟩) (p1 := ⟨w.heap.size + 1, 1, none⟩) (p2 := ⟨w.heap.size + 1, 2, none⟩) (p3 := ⟨w.heap.size + 1, 3, none⟩) (v0 := .string ⟨#[]⟩) (v1 := .nilFunc) (v2 := .nilFunc) (v3 := .nilFunc) HB ?c0 ?c1 ?c2 ?c3 ?e0 ?e1 ?e2 ?e3 ?k; (case c0 => (go_simp; done)); (case c1 => (go_simp; done)); (case c2 => (go_simp; done)); (case c3 => (go_simp; done)); (case e0 => (go_simp; done)); (case e1 => (go_simp; done)); (case e2 => (go_simp; done)); (case e3 => (go_simp; done)); intro z0 z1 z2 z3 g0 g1 g2 g3) | skip)))
    all_goals
      have m1 : w1.cell? ⟨w.heap.size, 1, none⟩ = some (.string nd) := cellIn HB (by go_simp)
      have m2 : w1.cell? ⟨w.heap.size, 2, none⟩ = some (.string sv) := cellIn HB (by go_simp)
      have m3 : w1.cell? ⟨w.heap.size, 3, none⟩ = some (.int .i64 a) := cellIn HB (by go_simp)
      have m4 : w1.cell? ⟨w.heap.size, 4, none⟩ = some (.int .i64 b) := cellIn HB (by go_simp)
      have hsz1 : w.heap.size + 1 < w1.heap.size := by have := HB.out.size; have := lt_of_heapE HM.out; simp at this; omega
      have hsz0 : w.heap.size < w1.heap.size := by omega
      clear HLK hl hla
      go_wp2_with fail
      go_meet
      case rel =>
        refine ⟨_, rfl, rfl, ⟨?_, ?_, ?_, ?_, ?_, ?_, ?_, ?_, ?_, ?_⟩⟩
        all_goals
          first
            | (go_simp; done)
            | exact below_alloc_l (belowIn HB (below_drew_l (below_alloc_l (Below.refl _ _))))
            | exact below_set_l (below_set_l (below_set_l (below_set_l (belowIn HB (below_drew_l (below_alloc_l (below_alloc_l (Below.refl _ _))))) (Nat.le_succ _)) (Nat.le_succ _)) (Nat.le_succ _)) (Nat.le_succ _)
  case rest =>
    obtain ⟨B, rfl, rfl, hS⟩ := hcut
    have HS := Lib.hid hS
    clear hS HFIND
    go_wp2_with fail
    try go_region
    all_goals
      go_wp2_with fail
      exact ⟨_, results_tmp rfl _ _ _, rfl, HS.out.be.drew⟩
end Go.Proofs.YtmbmolgkccjedaaGreatDoor

/- What Right of package eid tells, in plain words: the names that are right. -/
set_option linter.unusedVariables false
set_option linter.unusedSimpArgs false
namespace Go.Proofs.YtmbmolgkccjedaaGreatDoor
open Go.RowKit

/-- A name, of its value's parts. -/
def nmO (k : Int) (nd sv : ByteArray) (a b : Int) : Nm := ⟨k, nd.data.toList, sv.data.toList, a, b⟩

theorem u8_eq {c : UInt8} {d : UInt8} : (c = d) ↔ c.toNat = d.toNat := UInt8.toNat_inj.symm
theorem pln_nd (c : UInt8) : plnB [45, 46] c = prtB false c := by
  have h45 : (c = 45) ↔ c.toNat = 45 := u8_eq
  have h46 : (c = 46) ↔ c.toNat = 46 := u8_eq
  rw [Bool.eq_iff_iff]
  unfold plnB plnZ hasZ prtB
  simp only [Bool.or_eq_true, Bool.and_eq_true, decide_eq_true_eq, List.contains_iff_mem, List.mem_cons, List.not_mem_nil, or_false, h45, h46, Bool.false_eq_true, false_and]
  omega
theorem pln_sv (c : UInt8) : plnB [45, 46, 47] c = prtB true c := by
  have h45 : (c = 45) ↔ c.toNat = 45 := u8_eq
  have h46 : (c = 46) ↔ c.toNat = 46 := u8_eq
  have h47 : (c = 47) ↔ c.toNat = 47 := u8_eq
  rw [Bool.eq_iff_iff]
  unfold plnB plnZ hasZ prtB
  simp only [Bool.or_eq_true, Bool.and_eq_true, decide_eq_true_eq, List.contains_iff_mem, List.mem_cons, List.not_mem_nil, or_false, h45, h46, h47, true_and]
  omega
theorem size_len (s : ByteArray) : s.data.toList.length = s.size := by simp
theorem isE_data (s : ByteArray) : s.toList.isEmpty = s.data.toList.isEmpty := by rw [ByteArray.toList_eq]
theorem ndR_part (s : ByteArray) : ndR s = (!s.data.toList.isEmpty && partB false s.data.toList) := by
  unfold ndR partB ndOk
  rw [isE_data, size_len]
  have e1 : (s.data.toList.all (plnB [45, 46])) = s.data.toList.all (prtB false) := by congr 1; funext c; exact pln_nd c
  have e2 : decide ((s.size : Int) ≤ 20) = decide (s.size ≤ 20) := by simp; omega
  rw [e1, e2, Bool.and_assoc, Bool.and_comm (decide _)]
theorem svR_part (s : ByteArray) : svR s = partB true s.data.toList := by
  unfold svR partB svOk
  rw [size_len]
  have e1 : (s.data.toList.all (plnB [45, 46, 47])) = s.data.toList.all (prtB true) := by congr 1; funext c; exact pln_sv c
  have e2 : decide ((s.size : Int) ≤ 20) = decide (s.size ≤ 20) := by simp; omega
  rw [e1, e2, Bool.and_comm]
theorem emp_iff (s : ByteArray) : s = ⟨#[]⟩ ↔ s.data.toList.isEmpty = true := by
  rw [List.isEmpty_iff]
  constructor
  · rintro rfl; rfl
  · intro h
    apply ByteArray.ext
    exact Array.toList_inj.1 h
theorem rgt0 (nd sv : ByteArray) (a b : Int) : (nmE 0 ⟨#[]⟩ ⟨#[]⟩ 0 0 0 nd sv a b && allP psN) = nmR (nmO 0 nd sv a b) := by
  rw [Bool.eq_iff_iff, Bool.and_eq_true, nmE_iff]
  unfold nmR nmO
  simp only [if_true, Bool.and_eq_true, decide_eq_true_eq, ← emp_iff]
  constructor
  · rintro ⟨⟨_, h1, h2, h3, h4⟩, _⟩
    exact ⟨⟨⟨h1.symm, h2.symm⟩, h3.symm⟩, h4.symm⟩
  · rintro ⟨⟨⟨h1, h2⟩, h3⟩, h4⟩
    exact ⟨⟨trivial, h1.symm, h2.symm, h3.symm, h4.symm⟩, rfl⟩
theorem rgt1 (nd sv : ByteArray) (a b : Int) : (nmE 1 nd sv 0 0 1 nd sv a b && allP (psD nd sv)) = nmR (nmO 1 nd sv a b) := by
  rw [Bool.eq_iff_iff, Bool.and_eq_true, nmE_iff]
  unfold nmR nmO allP psD
  rw [if_neg (show ¬ (1 : Int) = 0 by decide), if_pos rfl]
  simp only [List.all_cons, List.all_nil, Bool.and_true, Bool.true_and, ndR_part, svR_part, Bool.and_eq_true, decide_eq_true_eq]
  constructor
  · rintro ⟨⟨_, _, _, h3, h4⟩, h5, h6⟩
    exact ⟨⟨⟨h5, h6⟩, h3.symm⟩, h4.symm⟩
  · rintro ⟨⟨⟨h5, h6⟩, h3⟩, h4⟩
    exact ⟨⟨trivial, trivial, trivial, h3.symm, h4.symm⟩, h5, h6⟩
theorem rgt2 (nd sv : ByteArray) (a b : Int) : (nmE 2 ⟨#[]⟩ ⟨#[]⟩ a b 2 nd sv a b && allP (psI a b)) = nmR (nmO 2 nd sv a b) := by
  rw [Bool.eq_iff_iff, Bool.and_eq_true, nmE_iff]
  unfold nmR nmO allP psI aR bR
  rw [if_neg (show ¬ (2 : Int) = 0 by decide), if_neg (show ¬ (2 : Int) = 1 by decide), if_pos rfl]
  simp only [List.all_cons, List.all_nil, Bool.and_true, Bool.true_and, Bool.and_eq_true, decide_eq_true_eq, ← emp_iff]
  constructor
  · rintro ⟨⟨_, h1, h2, _, _⟩, h3, h4⟩
    exact ⟨⟨⟨⟨⟨h1.symm, h2.symm⟩, h3.1⟩, h3.2⟩, h4.1⟩, h4.2⟩
  · rintro ⟨⟨⟨⟨⟨h1, h2⟩, h3⟩, h4⟩, h5⟩, h6⟩
    exact ⟨⟨trivial, h1.symm, h2.symm, trivial, trivial⟩, ⟨h3, h4⟩, h5, h6⟩
theorem rgtN {k : Int} (h0 : k ≠ 0) (h1 : k ≠ 1) (h2 : k ≠ 2) (nd sv : ByteArray) (a b : Int) : nmR (nmO k nd sv a b) = false := by
  unfold nmR nmO
  rw [if_neg h0, if_neg h1, if_neg h2]
end Go.Proofs.YtmbmolgkccjedaaGreatDoor

/- Contract of Right of package eid, at every name. -/
set_option linter.unusedVariables false
set_option linter.unusedSimpArgs false
namespace Go.Proofs.YtmbmolgkccjedaaGreatDoor
open Go.RowKit

theorem enterFE {P : Program} {f : FuncId} {fn : Func} {c : Code} (hf : P.funcs[f]? = some fn) (hname : (fn.name == "runtime.NumGoroutine") = false) (hb : fn.body = some c) (args : Array Value) (w : World) : (callFunc f args).run P w = .ok (.enter f args) w := by
  have h1 : fn.name ≠ "runtime.NumGoroutine" := by simpa using hname
  simp [callFunc, hf, h1, hb]

/-- What ints hold. -/
def I64 (n : Int) : Prop := -9223372036854775808 ≤ n ∧ n ≤ 9223372036854775807

theorem eright_any (k : Int) (nd sv : ByteArray) (a b : Int) (w : World) (hE : EnvN w) (ha : I64 a) (hb : I64 b) :
    Calls Tryz.prog 21 #[nmV k nd sv a b] w fun e w' => e = .returned (.bool (nmR (nmO k nd sv a b))) ∧ Below w.heap.size w w' := by
  by_cases h0 : k = 0
  · subst h0
    rw [← rgt0]
    exact eright_go 0 nd sv a b _ _ _ _ 0 rfl (enterFE Tryz.func57 (by kernel_rfl) rfl) (enterFE Tryz.func58 (by kernel_rfl) rfl) _ _ _ _ _ (bareNone_any 0 nd sv a b) psN (by decide) w (fun W _ => noneParts_any 0 nd sv a b W)
  by_cases h1 : k = 1
  · subst h1
    rw [← rgt1]
    exact eright_go 1 nd sv a b _ _ _ _ 1 rfl (enterFE Tryz.func60 (by kernel_rfl) rfl) (enterFE Tryz.func61 (by kernel_rfl) rfl) _ _ _ _ _ (bareDtn_any 1 nd sv a b) (psD nd sv) (by show 4 ≤ 1000; decide) w (fun W _ => dtnParts_any 1 nd sv a b W)
  by_cases h2 : k = 2
  · subst h2
    rw [← rgt2]
    exact eright_go 2 nd sv a b _ _ _ _ 2 rfl (enterFE Tryz.func63 (by kernel_rfl) rfl) (enterFE Tryz.func64 (by kernel_rfl) rfl) _ _ _ _ _ (bareIpn_any 2 nd sv a b) (psI a b) (by show 3 ≤ 1000; decide) w (fun W hW => ipnParts_any 2 nd sv a b W (hE.below hW) ha.1 ha.2 hb.1 hb.2)
  rw [rgtN h0 h1 h2]
  exact eright_no k nd sv a b (findS_no h0 h1 h2) w
end Go.Proofs.YtmbmolgkccjedaaGreatDoor

/- split of package eid, at a right name: over whatever contract of the scheme's parts. -/
set_option linter.unusedVariables false
set_option linter.unusedSimpArgs false
namespace Go.Proofs.YtmbmolgkccjedaaGreatDoor
open Go.RowKit Go.Shelf

attribute [local go_sem] Oper.semAt_some

/-- The parts' texts, one behind the other. -/
def catP (ps : List (ByteArray × Bool)) : ByteArray := ps.foldl (fun acc x => acc ++ x.1) ⟨#[]⟩
theorem catP_snoc (ps : List (ByteArray × Bool)) (x : ByteArray × Bool) : catP (ps ++ [x]) = catP ps ++ x.1 := by
  unfold catP
  rw [List.foldl_append]
  rfl

/-- A part of at most a hundred bytes. -/
structure SP where
  val : ByteArray × Bool
  h : val.1.size ≤ 100
theorem lift_ps : ∀ (ps : List (ByteArray × Bool)), (∀ x ∈ ps, x.1.size ≤ 100) → ∃ qs : List SP, qs.map SP.val = ps
  | [], _ => ⟨[], rfl⟩
  | x :: r, h => by
    obtain ⟨qs, hq⟩ := lift_ps r (fun y hy => h y (List.mem_cons_of_mem _ hy))
    exact ⟨⟨x, h x List.mem_cons_self⟩ :: qs, by rw [List.map_cons, hq]⟩
theorem cat_size : ∀ (ps : List SP), (catP (ps.map SP.val)).size ≤ 100 * ps.length := fun ps => by
  have H : ∀ (ps : List SP) (acc : ByteArray) (n : Nat), acc.size ≤ n → (List.foldl (fun acc (x : ByteArray × Bool) => acc ++ x.1) acc (ps.map SP.val)).size ≤ n + 100 * ps.length := by
    intro ps
    induction ps with
    | nil => intro acc n h; simpa using h
    | cons x r ih =>
      intro acc n h
      rw [List.map_cons, List.foldl_cons, List.length_cons]
      have hx : x.val.1.size ≤ 100 := x.h
      have := ih (acc ++ x.val.1) (n + 100) (by rw [ByteArray.size_append]; omega)
      omega
  have := H ps ⟨#[]⟩ 0 (Nat.le_refl _)
  unfold catP
  omega
theorem set2 {W : World} {R : Nat} {x0 x1 v0 v1 : Value} (c0 : W.cell? ⟨R, 0, none⟩ = some x0) (c1 : W.cell? ⟨R, 1, none⟩ = some x1) :
    ((W.setCell ⟨R, 0, none⟩ v0).setCell ⟨R, 1, none⟩ v1).cell? ⟨R, 0, none⟩ = some v0 ∧ ((W.setCell ⟨R, 0, none⟩ v0).setCell ⟨R, 1, none⟩ v1).cell? ⟨R, 1, none⟩ = some v1 := by
  constructor
  · go_simp
  · go_simp
theorem halves_res {W : World} {R : Nat} {s t : ByteArray} (fn : Func) (hres : fn.results = #[.cell 2 213, .tmp 3]) (tmps : Array Value) (h2 : tmps[2]?.getD undef = .pointer (some ⟨R, 0, none⟩)) (b : Bool) (h3 : tmps[3]?.getD undef = .bool b) (c0 : W.cell? ⟨R, 0, none⟩ = some (.string s)) (c1 : W.cell? ⟨R, 1, none⟩ = some (.string t)) :
    (results fn tmps).run Tryz.prog W = .ok (.tuple #[.agg #[.string s, .string t], .bool b]) W := by
  simp [results, hres, go_sem, h2, h3, c0, c1]

set_option maxRecDepth 100000 in
set_option maxHeartbeats 4000000 in
theorem esplit_no (k : Int) (nd sv : ByteArray) (a b : Int) (w : World) (hE : EnvN w) (ha : I64 a) (hb : I64 b) (hr : nmR (nmO k nd sv a b) = false) :
    Calls Tryz.prog 134 #[nmV k nd sv a b] w fun e w' => e = .returned (.tuple #[.agg #[.string ⟨#[]⟩, .string ⟨#[]⟩], .bool false]) ∧ Below w.heap.size w w' := by
  have HC := Lib.hid (eright_any k nd sv a b _ (hE.below (below_alloc_l (o := .cells #[.string ⟨#[]⟩, .string ⟨#[]⟩] 213) (below_alloc_l (o := .cells #[.int .i64 k, .string nd, .string sv, .int .i64 a, .int .i64 b] 23) (Below.refl _ _)))) ha hb)
  rw [hr] at HC
  clear hr hE
  unfold nmV at HC ⊢
  refine (callsIn_wide (n := 9)).1 ?_
  refine callsIn_of_wp_marks Tryz.func134 rfl trivial ?_ rfl
  simp only [Tryz.ntmps134, List.size_toArray, List.length_cons, List.length_nil, Nat.reduceAdd, Nat.reduceSub, Array.replicate_succ, Array.replicate_zero, List.push_toArray, List.append_toArray, List.nil_append, List.cons_append]
  refine wpIn_wide.2 ?_
  go_wp2_with fail
  refine HC.out.mono ?_
  rintro e w1 ⟨rfl, hb1⟩
  have r0 : w1.cell? ⟨w.heap.size + 1, 0, none⟩ = some (.string ⟨#[]⟩) := (hb1.cell (p := ⟨w.heap.size + 1, 0, none⟩) (by simp)).trans (by go_simp)
  have r1 : w1.cell? ⟨w.heap.size + 1, 1, none⟩ = some (.string ⟨#[]⟩) := (hb1.cell (p := ⟨w.heap.size + 1, 1, none⟩) (by simp)).trans (by go_simp)
  have q0 : w1.frozen? ⟨w.heap.size + 1, 0, none⟩ = false := (hb1.frozen (p := ⟨w.heap.size + 1, 0, none⟩) (by simp)).trans (by go_simp)
  have q1 : w1.frozen? ⟨w.heap.size + 1, 1, none⟩ = false := (hb1.frozen (p := ⟨w.heap.size + 1, 1, none⟩) (by simp)).trans (by go_simp)
  have HB := Lib.hid (show Below w.heap.size w w1 from (below_alloc_l (below_alloc_l (Below.refl _ _))).trans (hb1.mono (by simp; omega)))
  clear hb1 HC
  go_wp2_with fail
  obtain ⟨k0, k1⟩ := set2 (v0 := .string ⟨#[]⟩) (v1 := .string ⟨#[]⟩) r0 r1
  exact ⟨_, halves_res _ rfl _ rfl false rfl k0 k1, rfl, below_set_l (below_set_l HB.out (Nat.le_succ _)) (Nat.le_succ _)⟩

set_option maxRecDepth 100000 in
set_option maxHeartbeats 4000000 in
theorem esplit_go (k : Int) (nd sv : ByteArray) (a b : Int) (half : ByteArray) (f1 f2 f3 : Nat) (i : Nat) (hfind : Instr.findNow (.int .i64) (.int .i64 k) schE.toList 0 = some (some (i, schV half f1 f2 f3)))
    (hcf2 : ∀ args W, (callFunc f2 args).run Tryz.prog W = .ok (.enter f2 args) W)
    (ps : List (ByteArray × Bool)) (hlen : ps.length ≤ 1000) (hsz : ∀ x ∈ ps, x.1.size ≤ 100) (w : World) (hparts : ∀ W, Below w.heap.size w W → Calls Tryz.prog f2 #[nmV k nd sv a b] W fun e w' => (∃ v, e = .returned v ∧ Pts W.heap.size ps v w') ∧ Below W.heap.size W w')
    (hE : EnvN w) (ha : I64 a) (hb : I64 b) (hr : nmR (nmO k nd sv a b) = true) :
    Calls Tryz.prog 134 #[nmV k nd sv a b] w fun e w' => e = .returned (.tuple #[.agg #[.string half, .string (catP ps)], .bool true]) ∧ Below w.heap.size w w' := by
  obtain ⟨qs, rfl⟩ := lift_ps ps hsz
  clear hsz
  rw [List.length_map] at hlen
  have HC := Lib.hid (eright_any k nd sv a b _ (hE.below (below_alloc_l (o := .cells #[.string ⟨#[]⟩, .string ⟨#[]⟩] 213) (below_alloc_l (o := .cells #[.int .i64 k, .string nd, .string sv, .int .i64 a, .int .i64 b] 23) (Below.refl _ _)))) ha hb)
  rw [hr] at HC
  unfold nmV schV at *
  have HFIND := Lib.hid hfind
  have HCF2 := Lib.hid hcf2
  have HPARTS := Lib.hid hparts
  have HLEN := Lib.hid hlen
  clear hfind hcf2 hparts hlen hr hE
  refine (callsIn_wide (n := 9)).1 ?_
  refine callsIn_of_wp_marks Tryz.func134 rfl trivial ?_ rfl
  simp only [Tryz.ntmps134, List.size_toArray, List.length_cons, List.length_nil, Nat.reduceAdd, Nat.reduceSub, Array.replicate_succ, Array.replicate_zero, List.push_toArray, List.append_toArray, List.nil_append, List.cons_append]
  refine wpIn_wide.2 ?_
  go_wp2_with fail
  refine HC.out.mono ?_
  rintro e w1 ⟨rfl, hb1⟩
  have hz : w.heap.size + 1 + 1 ≤ w1.heap.size := by have := hb1.size; simp at this; omega
  have n0 : w1.cell? ⟨w.heap.size, 0, none⟩ = some (.int .i64 k) := (hb1.cell (p := ⟨w.heap.size, 0, none⟩) (by simp; omega)).trans (by go_simp)
  have n1 : w1.cell? ⟨w.heap.size, 1, none⟩ = some (.string nd) := (hb1.cell (p := ⟨w.heap.size, 1, none⟩) (by simp; omega)).trans (by go_simp)
  have n2 : w1.cell? ⟨w.heap.size, 2, none⟩ = some (.string sv) := (hb1.cell (p := ⟨w.heap.size, 2, none⟩) (by simp; omega)).trans (by go_simp)
  have n3 : w1.cell? ⟨w.heap.size, 3, none⟩ = some (.int .i64 a) := (hb1.cell (p := ⟨w.heap.size, 3, none⟩) (by simp; omega)).trans (by go_simp)
  have n4 : w1.cell? ⟨w.heap.size, 4, none⟩ = some (.int .i64 b) := (hb1.cell (p := ⟨w.heap.size, 4, none⟩) (by simp; omega)).trans (by go_simp)
  have r0 : w1.cell? ⟨w.heap.size + 1, 0, none⟩ = some (.string ⟨#[]⟩) := (hb1.cell (p := ⟨w.heap.size + 1, 0, none⟩) (by simp)).trans (by go_simp)
  have r1 : w1.cell? ⟨w.heap.size + 1, 1, none⟩ = some (.string ⟨#[]⟩) := (hb1.cell (p := ⟨w.heap.size + 1, 1, none⟩) (by simp)).trans (by go_simp)
  have q0 : w1.frozen? ⟨w.heap.size + 1, 0, none⟩ = false := (hb1.frozen (p := ⟨w.heap.size + 1, 0, none⟩) (by simp)).trans (by go_simp)
  have q1 : w1.frozen? ⟨w.heap.size + 1, 1, none⟩ = false := (hb1.frozen (p := ⟨w.heap.size + 1, 1, none⟩) (by simp)).trans (by go_simp)
  have HB := Lib.hid (show Below w.heap.size w w1 from (below_alloc_l (below_alloc_l (Below.refl _ _))).trans (hb1.mono (by simp; omega)))
  have HR := Lib.hid (And.intro r0 (And.intro r1 (And.intro q0 q1)))
  have HN := Lib.hid (And.intro n0 (And.intro n1 (And.intro n2 (And.intro n3 n4))))
  clear hb1 HC r0 r1 q0 q1 n1 n2 n3 n4
  go_upto_region 3 with fail
  go_cut [4] from 7 to 14 (fun p wc => ∃ B : Nat, p = .pointer (some ⟨B, 0, none⟩) ∧ wc.cell? ⟨B, 0, none⟩ = some (.string half) ∧ wc.cell? ⟨B, 2, none⟩ = some (.func (.func f2) #[] #[]) ∧ Below w1.heap.size w1 wc)
  case first =>
    have HLK := Lib.hid (show ∀ (c : Nat) (w2 : World), w2.heap[c]? = some (.map schE 3) → (Instr.lookup 69 (.map (some c)) (.int .i64 k) false).run Tryz.prog w2 = .ok (.agg #[.string half, .func (.func f1) #[] #[], .func (.func f2) #[] #[], .func (.func f3) #[] #[]]) w2 from fun c w2 h => lookS _ _ _ _ _ _ _ h HFIND.out)
    clear HFIND HCF2 HPARTS HLEN HB HR HN
    go_region_held3 (fun w' => w'.cell? ⟨w.heap.size, 0, none⟩ = some (.int .i64 k))
      (first
        | go_keep
        | (go_simp; done))
      (first
        | ((go_at_call 40; refine (schemes_any _).mono ?_; rintro e w2 ⟨rfl, hm, hb⟩; have HM := Lib.hid hm; have HB2 := Lib.hid hb; clear hm hb; replace n0 : w2.cell? ⟨w.heap.size, 0, none⟩ = some (.int .i64 k) := (HB2.out.cell (p := ⟨w.heap.size, 0, none⟩) (by simp; omega)).trans (by go_simp); have hl := HLK.out _ w2 HM.out; have hla := fun o : Obj => HLK.out _ (w2.alloc o) (heap_al HM.out); simp only [World.size_drew, World.size_alloc] at hl hla; first | (refine zfacts (p0 := ⟨w1.heap.size, 0, none⟩) (p1 := ⟨w1.heap.size, 1, none⟩) (p2 := ⟨w1.heap.size, 2, none⟩) (p3 := ⟨w1.heap.size, 3, none⟩) (v0 := .string ⟨#[]⟩) (v1 := .nilFunc) (v2 := .nilFunc) (v3 := .nilFunc) HB2 ?c0 ?c1 ?c2 ?c3 ?e0 ?e1 ?e2 ?e3 ?k; (case c0 => (go_simp; done)); (case c1 => (go_simp; done)); (case c2 => (go_simp; done)); (case c3 => (go_simp; done)); (case e0 => (go_simp; done)); (case e1 => (go_simp; done)); (case e2 => (go_simp; done)); (case e3 => (go_simp; done)); intro z0 z1 z2 z3 g0 g1 g2 g3) | skip)))
    all_goals
      have hsz1 : w1.heap.size < w2.heap.size := by have := HB2.out.size; have := lt_of_heapE HM.out; simp at this; omega
      have hsz0 : w.heap.size < w2.heap.size := by omega
      clear HLK hl hla
      go_wp2_with fail
      go_meet
      case rel =>
        refine ⟨_, rfl, ?_, ?_, ?_⟩
        all_goals
          first
            | (go_simp; done)
            | exact below_alloc_l (belowIn HB2 (below_drew_l (Below.refl _ _)))
            | exact below_set_l (below_set_l (below_set_l (below_set_l (belowIn HB2 (below_drew_l (below_alloc_l (Below.refl _ _)))) (Nat.le_refl _)) (Nat.le_refl _)) (Nat.le_refl _)) (Nat.le_refl _)
  case rest =>
    obtain ⟨B, rfl, s0, s2, hbc⟩ := hcut
    have c : ∀ {p : Addr} {v : Value}, w1.cell? p = some v → wc.cell? p = some v := fun e => (hbc.cell (World.block_lt_of_cell? _ _ e)).trans e
    have HRC := Lib.hid (And.intro (c HR.out.1) (And.intro (c HR.out.2.1) (And.intro ((hbc.frozen (World.block_lt_of_cell? _ _ HR.out.1)).trans HR.out.2.2.1) ((hbc.frozen (World.block_lt_of_cell? _ _ HR.out.2.1)).trans HR.out.2.2.2))))
    replace n0 := c HN.out.1
    have n1 := c HN.out.2.1
    have n2 := c HN.out.2.2.1
    have n3 := c HN.out.2.2.2.1
    have n4 := c HN.out.2.2.2.2
    have HBC := Lib.hid (HB.out.trans (hbc.mono HB.out.size))
    have hcz : w.heap.size + 1 + 1 ≤ wc.heap.size := Nat.le_trans hz hbc.size
    have hz1 : w.heap.size < wc.heap.size := by omega
    have hz2 : B < wc.heap.size := World.block_lt_of_cell? _ _ s2
    have HPP := Lib.hid (HPARTS.out (wc.alloc (.cells #[.string half, .string ⟨#[]⟩] 213)) (below_alloc_l HBC.out))
    have hcf2 := HCF2.out
    clear hbc c HB HR HN HPARTS HCF2 HFIND hz
    go_wp2_with fail
    refine HPP.out.mono ?_
    rintro e w3 ⟨⟨v, rfl, A, Q, rfl, hnA, hA, hQ, hPt⟩, hb3⟩
    have hlt : wc.heap.size < w3.heap.size := by have := hb3.size; simp at this; omega
    have e0 : w3.cell? ⟨wc.heap.size, 0, none⟩ = some (.string half) := (hb3.cell (p := ⟨wc.heap.size, 0, none⟩) (by simp)).trans (by go_simp)
    have e1 : w3.cell? ⟨wc.heap.size, 1, none⟩ = some (.string ⟨#[]⟩) := (hb3.cell (p := ⟨wc.heap.size, 1, none⟩) (by simp)).trans (by go_simp)
    have e2 : w3.frozen? ⟨wc.heap.size, 1, none⟩ = false := (hb3.frozen (p := ⟨wc.heap.size, 1, none⟩) (by simp)).trans (by go_simp)
    have hb3c : Below wc.heap.size wc w3 := ((Below.refl _ _).alloc (Nat.le_refl _) _).trans (hb3.mono (by simp))
    have cc : ∀ {p : Addr} {v : Value}, wc.cell? p = some v → w3.cell? p = some v := fun e => (hb3c.cell (World.block_lt_of_cell? _ _ e)).trans e
    rw [List.length_map] at hQ
    have HR3 := Lib.hid (And.intro (cc HRC.out.1) (And.intro (cc HRC.out.2.1) (And.intro ((hb3c.frozen (World.block_lt_of_cell? _ _ HRC.out.1)).trans HRC.out.2.2.1) ((hb3c.frozen (World.block_lt_of_cell? _ _ HRC.out.2.1)).trans HRC.out.2.2.2))))
    have HB3 := Lib.hid (show Below w.heap.size w w3 from HBC.out.trans (hb3c.mono HBC.out.size))
    have hnA' : wc.heap.size ≠ A := by simp at hnA; omega
    have hwc : w.heap.size ≤ wc.heap.size := by omega
    have hne1 : w.heap.size + 1 ≠ wc.heap.size := by omega
    clear hb3 hb3c cc HPP HBC HRC n0 n1 n2 n3 n4 s0 s2 hcf2 hnA
    go_wp2_with fail
    refine (wpIn_wide (n := 9)).1 ?_
    refine wpIn_rangeFunc_ownH rfl (by omega) (gf := 118) (lb := #[.pointer (some ⟨Q, 0, none⟩)]) rfl trivial (enters_of Tryz.func118 (by kernel_rfl) rfl)
      (each_stops_of SP.val _ A Q qs.length qs rfl HLEN.out w3 hQ hPt) KeepA.trans keepA_b (Below.refl _ _) (fun _ => rfl)
      (fun pre W => (W.cell? ⟨wc.heap.size, 0, none⟩ = some (.string half) ∧ W.cell? ⟨wc.heap.size, 1, none⟩ = some (.string (catP (pre.map SP.val))) ∧ W.frozen? ⟨wc.heap.size, 1, none⟩ = false ∧ W.cell? ⟨w.heap.size + 1, 0, none⟩ = some (.string ⟨#[]⟩) ∧ W.cell? ⟨w.heap.size + 1, 1, none⟩ = some (.string ⟨#[]⟩) ∧ W.frozen? ⟨w.heap.size + 1, 0, none⟩ = false ∧ W.frozen? ⟨w.heap.size + 1, 1, none⟩ = false) ∧ Below w.heap.size w W)
      (fun c pre W => False ∧ Below w.heap.size w W)
      (OwnFrom.and (Own.from (fun s A B row hs hg hr => ⟨cell_kept hs.1 hg hr, cell_kept hs.2.1 hg hr, (frozen_kept hs.2.1 hg hr).trans hs.2.2.1, cell_kept hs.2.2.2.1 hg hr, cell_kept hs.2.2.2.2.1 hg hr, (frozen_kept hs.2.2.2.1 hg hr).trans hs.2.2.2.2.2.1, (frozen_kept hs.2.2.2.2.1 hg hr).trans hs.2.2.2.2.2.2⟩) _) (ownFrom_below (Nat.le_refl _) (by omega)))
      (fun c => OwnFrom.and (Own.from (fun s A B row hs hg hr => hs) _) (ownFrom_below (Nat.le_refl _) (by omega)))
      ⟨⟨e0, e1, e2, HR3.out⟩, HB3.out⟩
      (fun x act W => ∃ C : Nat, act = { tmps := #[.agg #[.int .i64 k, .string nd, .string sv, .int .i64 a, .int .i64 b], .pointer (some ⟨w.heap.size, 0, none⟩), .pointer (some ⟨w.heap.size + 1, 0, none⟩), .bool false, .pointer (some ⟨B, 0, none⟩), .pointer (some ⟨wc.heap.size, 0, none⟩), .pointer (some ⟨C, 0, none⟩), u7, u8, u9, u10, u11, u12, u13, u14, .pointer (some ⟨B, 0, none⟩), .string half, .agg #[.string half, .string ⟨#[]⟩], .pointer (some ⟨B, 2, none⟩), .func (.func f2) #[] #[], .agg #[.int .i64 k, .string nd, .string sv, .int .i64 a, .int .i64 b], .func (.func 118) #[] #[.pointer (some ⟨Q, 0, none⟩)], .agg #[.string x.val.1, .bool x.val.2], undef, undef, undef, undef, undef, undef, undef], defers := [] } ∧ W.cell? ⟨C, 0, none⟩ = some (.string x.val.1) ∧ W.cell? ⟨C, 1, none⟩ = some (.bool x.val.2))
      (fun x a' => Own.from (fun s A B row hs hg hr => hs.elim fun c hc => ⟨c, hc.1, cell_kept hc.2.1 hg hr, cell_kept hc.2.2 hg hr⟩) _) ?assign ?body ?done ?stop
    case assign =>
      rintro l pre x W K ⟨⟨h1, h2, h3, h4, h5, h6, h7⟩, hB⟩ hK
      obtain ⟨⟨x1, x2⟩, hx12⟩ : ∃ y : ByteArray × Bool, y = x.val := ⟨_, rfl⟩
      have HX := Lib.hid hx12
      rw [← hx12] at hK
      simp only [← hx12]
      clear hx12
      have hBA : Below W.heap.size W (W.alloc (.cells #[.string x1, .bool x2] 74)) := (Below.refl _ _).alloc (Nat.le_refl _) _
      have HI := Lib.hid (And.intro (cell_al (o := .cells #[.string x1, .bool x2] 74) h1) (And.intro (cell_al (o := .cells #[.string x1, .bool x2] 74) h2) (And.intro ((hBA.frozen (World.block_lt_of_cell? _ _ h2)).trans h3) (And.intro (cell_al (o := .cells #[.string x1, .bool x2] 74) h4) (And.intro (cell_al (o := .cells #[.string x1, .bool x2] 74) h5) (And.intro ((hBA.frozen (World.block_lt_of_cell? _ _ h4)).trans h6) ((hBA.frozen (World.block_lt_of_cell? _ _ h5)).trans h7)))))))
      clear h1 h2 h3 h4 h5 h6 h7 e0 e1 e2 hBA
      gi_wp2
      exact hK _ _ ((KeepsOthers.alloc _ _).from _) (KeepA.alloc _ _) ⟨HI.out, hB.alloc hB.size _⟩ ⟨W.heap.size, rfl, by go_simp, by go_simp⟩
    case body =>
      rintro l pre x act W _ _ ⟨⟨h1, h2, h3, h4, h5, h6, h7⟩, hB⟩ ⟨C, rfl, c0, c1⟩ hpl
      have hs1 := cat_size pre
      have hs2 : x.val.1.size ≤ 100 := x.h
      have HCS := Lib.hid (show catP ((pre ++ [x]).map SP.val) = catP (pre.map SP.val) ++ x.val.1 by rw [List.map_append]; exact catP_snoc _ _)
      have hln := HLEN.out
      generalize x.val = xv at c0 c1 hs2 HCS ⊢
      obtain ⟨x1, x2⟩ := xv
      simp only at c0 c1 hs2 HCS
      have HI := Lib.hid (And.intro h4 (And.intro h5 (And.intro h6 h7)))
      generalize catP (pre.map SP.val) = cp at h2 HCS hs1
      have hov : ¬ 9223372036854775807 < cp.size + x1.size := by omega
      clear e0 e1 e2 h4 h5 h6 h7 c1 hs1 hs2 hln hpl
      gi_wp2
      refine ⟨(KeepsOthers.setCell _ _ _).from _, KeepA.other _ _ _ hnA', ⟨?_, ?_, ?_, ?_, ?_, ?_, ?_⟩, hB.setCell (p := ⟨wc.heap.size, 1, none⟩) hwc _⟩
      · go_simp
      · rw [HCS.out]; exact World.cell?_setCell_same' _ _ _ (by rw [h2]; rfl)
      · rw [World.frozen?_setCell]; exact h3
      · have := HI.out.1; go_simp
      · have := HI.out.2.1; go_simp
      · rw [World.frozen?_setCell]; exact HI.out.2.2.1
      · rw [World.frozen?_setCell]; exact HI.out.2.2.2
    case done =>
      rintro D ys W hD rfl ⟨⟨h1, h2, h3, h4, h5, h6, h7⟩, hB⟩ hK
      obtain ⟨cp, hcp⟩ : ∃ cp, cp = catP (List.map SP.val ys) := ⟨_, rfl⟩
      rw [← hcp] at h2
      have HCP := Lib.hid hcp
      clear e0 e1 e2 hcp
      go_wp2
      obtain ⟨k0, k1⟩ := set2 (v0 := .string half) (v1 := .string cp) h4 h5
      refine ⟨by simp, .inl ⟨_, _, rfl, run_takeDeferred (((KeepsOthers.setCell _ _ _).trans (KeepsOthers.setCell _ _ _)).same D _ hK rfl), ?_⟩⟩
      have hgr := grownBy_putObj' ((W.setCell ⟨w.heap.size + 1, 0, none⟩ (.string half)).setCell ⟨w.heap.size + 1, 1, none⟩ (.string cp)) D (.deferred none)
      have hK2 := (((KeepsOthers.setCell W _ _).trans (KeepsOthers.setCell (W.setCell ⟨w.heap.size + 1, 0, none⟩ (.string half)) ⟨w.heap.size + 1, 1, none⟩ (.string cp))).same D _ hK rfl)
      exact ⟨_, halves_res _ rfl _ rfl true rfl (cell_kept k0 hgr (fun r e => by cases e; exact ⟨_, hK2, rfl⟩)) (cell_kept k1 hgr (fun r e => by cases e; exact ⟨_, hK2, rfl⟩)), by rw [HCP.out], (below_set_l (below_set_l hB (Nat.le_succ _)) (Nat.le_succ _)).trans (belowK_b (w := w) (Nat.le_refl _) _ D _ _ (by omega) hK2 rfl rfl)⟩
    case stop =>
      rintro D c pre W hD _ ⟨h, _⟩
      cases h
end Go.Proofs.YtmbmolgkccjedaaGreatDoor
