/- Right of package eid, at a name whose scheme is known: over whatever contracts of the scheme's own two functions. -/
import Derived.Test.YtmpokhdljlnllaaDoorERig
set_option linter.unusedVariables false
set_option linter.unusedSimpArgs false
namespace Go.Proofs.YtmpokhdljlnllaaDoor
open Go.RowKit Go.Shelf

attribute [local go_sem] Oper.semAt_some

/-- A scheme's value. -/
def schV (half : ByteArray) (f1 f2 f3 : Nat) : Value := .agg #[.string half, .func (.func f1) #[] #[], .func (.func f2) #[] #[], .func (.func f3) #[] #[]]

set_option maxRecDepth 100000 in
set_option maxHeartbeats 4000000 in
theorem eright_go (k : Int) (nd sv : ByteArray) (a b : Int) (half : ByteArray) (f1 f2 f3 : Nat) (i : Nat) (hfind : Instr.findNow (.int .i64) (.int .i64 k) schE.toList 0 = some (some (i, schV half f1 f2 f3)))
    (hcf1 : ∀ args W, (callFunc f1 args).run Tryd.prog W = .ok (.enter f1 args) W) (hcf2 : ∀ args W, (callFunc f2 args).run Tryd.prog W = .ok (.enter f2 args) W)
    (k' : Int) (nd' sv' : ByteArray) (a' b' : Int) (hbare : ∀ W, Calls Tryd.prog f1 #[nmV k nd sv a b] W fun e w' => e = .returned (nmV k' nd' sv' a' b') ∧ Below W.heap.size W w')
    (ps : List (ByteArray × Bool)) (hlen : ps.length ≤ 1000) (w : World) (hparts : ∀ W, Below w.heap.size w W → Calls Tryd.prog f2 #[nmV k nd sv a b] W fun e w' => (∃ v, e = .returned v ∧ Pts W.heap.size ps v w') ∧ Below W.heap.size W w') :
    Calls Tryd.prog 21 #[nmV k nd sv a b] w fun e w' => e = .returned (.bool (nmE k' nd' sv' a' b' k nd sv a b && allP ps)) ∧ Below w.heap.size w w' := by
  unfold nmV schV at *
  have HFIND := Lib.hid hfind
  have HCF1 := Lib.hid hcf1
  have HCF2 := Lib.hid hcf2
  have HBARE := Lib.hid hbare
  have HPARTS := Lib.hid hparts
  have HLEN := Lib.hid hlen
  clear hfind hcf1 hcf2 hbare hparts hlen
  obtain ⟨u, hu⟩ : ∃ u, nmE k' nd' sv' a' b' k nd sv a b = u := ⟨_, rfl⟩
  have HEQ := Lib.hid (show ∀ W : World, (binOp .neq 23 (.agg #[.int .i64 k', .string nd', .string sv', .int .i64 a', .int .i64 b']) (.agg #[.int .i64 k, .string nd, .string sv, .int .i64 a, .int .i64 b])).run Tryd.prog W = .ok (.bool (!u)) W from fun W => by rw [← hu]; exact nm_neq _ _ _ _ _ _ _ _ _ _ W)
  rw [hu]
  clear hu
  refine (callsIn_wide (n := 9)).1 ?_
  refine callsIn_of_wp_marks Tryd.func21 rfl trivial ?_ rfl
  simp only [Tryd.ntmps21, List.size_toArray, List.length_cons, List.length_nil, Nat.reduceAdd, Nat.reduceSub, Array.replicate_succ, Array.replicate_zero, List.push_toArray, List.append_toArray, List.nil_append, List.cons_append]
  refine wpIn_wide.2 ?_
  go_wp2_with fail
  refine wp_scope_straight ?_
  go_upto_region 1 with fail
  go_cut [3, 4] from 7 to 13 (fun p q wc => ∃ B : Nat, p = .pointer (some ⟨B, 0, none⟩) ∧ q = .bool true ∧ SchAt k nd sv a b (.string half) (.func (.func f1) #[] #[]) (.func (.func f2) #[] #[]) (.func (.func f3) #[] #[]) w B wc)
  case first =>
    have HLK := Lib.hid (show ∀ (c : Nat) (w1 : World), w1.heap[c]? = some (.map schE 3) → (Instr.lookup 64 (.map (some c)) (.int .i64 k) true).run Tryd.prog w1 = .ok (.tuple #[.agg #[.string half, .func (.func f1) #[] #[], .func (.func f2) #[] #[], .func (.func f3) #[] #[]], .bool true]) w1 from fun c w1 h => lookS2 _ _ _ _ _ _ _ h HFIND.out)
    clear HFIND HCF1 HCF2 HBARE HPARTS HLEN HEQ
    go_region_held3 (fun w' => w'.cell? ⟨w.heap.size, 0, none⟩ = some (.int .i64 k))
      (first
        | go_keep
        | (go_simp; done))
      (first
        | ((go_at_call 34; refine (schemes_any _).mono ?_; rintro e w1 ⟨rfl, hm, hb⟩; have n0 : w1.cell? ⟨w.heap.size, 0, none⟩ = some (.int .i64 k) := (hb.cell (p := ⟨w.heap.size, 0, none⟩) (by simp; try omega)).trans (by go_simp); have HM := Lib.hid hm; have HB := Lib.hid hb; clear hm hb; have hl := HLK.out _ w1 HM.out; have hla := fun o : Obj => HLK.out _ (w1.alloc o) (heap_al HM.out); simp only [World.size_drew, World.size_alloc] at hl hla; first | (refine zfacts (p0 := ⟨w.heap.size + 1, 0, none⟩) (p1 := ⟨w.heap.size + 1, 1, none⟩) (p2 := ⟨w.heap.size + 1, 2, none⟩) (p3 := ⟨w.heap.size + 1, 3, none⟩) (v0 := .string ⟨#[]⟩) (v1 := .nilFunc) (v2 := .nilFunc) (v3 := .nilFunc) HB ?c0 ?c1 ?c2 ?c3 ?e0 ?e1 ?e2 ?e3 ?k; (case c0 => (go_simp; done)); (case c1 => (go_simp; done)); (case c2 => (go_simp; done)); (case c3 => (go_simp; done)); (case e0 => (go_simp; done)); (case e1 => (go_simp; done)); (case e2 => (go_simp; done)); (case e3 => (go_simp; done)); intro z0 z1 z2 z3 g0 g1 g2 g3) | skip)))
    all_goals
      have m1 : w1.cell? ⟨w.heap.size, 1, none⟩ = some (.string nd) := cellIn HB (by go_simp)
      have m2 : w1.cell? ⟨w.heap.size, 2, none⟩ = some (.string sv) := cellIn HB (by go_simp)
      have m3 : w1.cell? ⟨w.heap.size, 3, none⟩ = some (.int .i64 a) := cellIn HB (by go_simp)
      have m4 : w1.cell? ⟨w.heap.size, 4, none⟩ = some (.int .i64 b) := cellIn HB (by go_simp)
      have hsz1 : w.heap.size + 1 < w1.heap.size := by have := HB.out.size; have := lt_of_heap HM.out; simp at this; omega
      have hsz0 : w.heap.size < w1.heap.size := by omega
      clear HLK hl hla
      go_wp2_with fail
      go_meet
      case rel =>
        refine ⟨_, rfl, rfl, ⟨?_, ?_, ?_, ?_, ?_, ?_, ?_, ?_, ?_, ?_⟩⟩
        all_goals
          first
            | (go_simp; done)
            | exact below_alloc_l (belowIn HB (below_drew_l (below_alloc_l (Below.refl _ _))))
            | exact below_set_l (below_set_l (below_set_l (below_set_l (belowIn HB (below_drew_l (below_alloc_l (below_alloc_l (Below.refl _ _))))) (Nat.le_succ _)) (Nat.le_succ _)) (Nat.le_succ _)) (Nat.le_succ _)
  case rest =>
    obtain ⟨B, rfl, rfl, hS⟩ := hcut
    have n0 := hS.n0
    have n1 := hS.n1
    have n2 := hS.n2
    have n3 := hS.n3
    have n4 := hS.n4
    have s1 := hS.s1
    have HS := Lib.hid hS
    have heq := HEQ.out
    have hcf1 := HCF1.out
    clear hS HEQ HFIND
    go_wp2_with fail
    go_region_held3 (fun w' => w'.cell? ⟨w.heap.size, 0, none⟩ = some (.int .i64 k) ∧ w'.cell? ⟨w.heap.size, 1, none⟩ = some (.string nd) ∧ w'.cell? ⟨w.heap.size, 2, none⟩ = some (.string sv) ∧ w'.cell? ⟨w.heap.size, 3, none⟩ = some (.int .i64 a) ∧ w'.cell? ⟨w.heap.size, 4, none⟩ = some (.int .i64 b) ∧ w'.cell? ⟨B, 1, none⟩ = some (.func (.func f1) #[] #[]))
      (first
        | go_keep
        | (go_simp; done))
      (first
        | ((go_at_fn f1; refine (HBARE.out _).mono ?_; rintro e w2 ⟨rfl, hb⟩; have HB := Lib.hid hb; clear hb; replace n0 := cellIn HB n0; replace n1 := cellIn HB n1; replace n2 := cellIn HB n2; replace n3 := cellIn HB n3; replace n4 := cellIn HB n4; replace s1 := cellIn HB s1)))
    have HS2 := Lib.hid (HS.out.below ((Below.refl _ _).drew.trans (HB.out.mono (Nat.le_refl _))))
    clear heq hcf1 HS HB n0 n1 n2 n3 n4 s1
    cases u with
    | false =>
      go_wp2_with fail
      exact ⟨_, results_tmp rfl _ _ _, rfl, HS2.out.be⟩
    | true =>
      have n0 := HS2.out.n0
      have n1 := HS2.out.n1
      have n2 := HS2.out.n2
      have n3 := HS2.out.n3
      have n4 := HS2.out.n4
      have s2 := HS2.out.s2
      have hcf2 := HCF2.out
      have HBA := Lib.hid (below_alloc_l (o := .cells #[.bool true] 4) HS2.out.be)
      have HPP := Lib.hid (HPARTS.out _ HBA.out)
      have hz1 : w.heap.size < w2.heap.size := World.block_lt_of_cell? _ _ n0
      have hz2 : B < w2.heap.size := World.block_lt_of_cell? _ _ s2
      go_wp2_with fail
      refine wp_label ?_
      go_wp2_with fail
      refine HPP.out.mono ?_
      rintro e w3 ⟨⟨v, rfl, A, Q, rfl, _, hA, hQ, hPt⟩, hb3⟩
      have hlt : w2.heap.size < w3.heap.size := by have := hb3.size; simp at this; omega
      have e1 : w3.cell? ⟨w2.heap.size, 0, none⟩ = some (.bool true) := (hb3.cell (p := ⟨w2.heap.size, 0, none⟩) (by simp)).trans (by go_simp)
      have e2 : w3.frozen? ⟨w2.heap.size, 0, none⟩ = false := (hb3.frozen (p := ⟨w2.heap.size, 0, none⟩) (by simp)).trans (by go_simp)
      have HB3 := Lib.hid (show Below w.heap.size w w3 from HBA.out.trans (hb3.mono HBA.out.size))
      have hn0 : w.heap.size ≤ w2.heap.size := HS2.out.be.size
      clear hb3 HPP HBA n0 n1 n2 n3 n4 s2 hcf2 HS2 HCF1 HCF2 HBARE HPARTS
      go_wp2_with fail
      refine (wpIn_wide (n := 9)).1 ?_
      refine wpIn_rangeFunc_ownH rfl (by omega) (gf := 61) (lb := #[.pointer (some ⟨Q, 0, none⟩)]) rfl trivial (enters_of Tryd.func61 (by kernel_rfl) rfl)
        (each_stops _ A Q ps.length ps rfl HLEN.out w3 hQ hPt) KeepA.trans keepA_b (Below.refl _ _) (fun _ => rfl)
        (fun pre W => (W.cell? ⟨w2.heap.size, 0, none⟩ = some (.bool true) ∧ W.frozen? ⟨w2.heap.size, 0, none⟩ = false ∧ allP pre = true) ∧ Below w.heap.size w W)
        (fun c pre W => (c = .exit 0 ∧ W.cell? ⟨w2.heap.size, 0, none⟩ = some (.bool false) ∧ allP pre = false) ∧ Below w.heap.size w W)
        (OwnFrom.and (Own.from (fun s A B row hs hg hr => ⟨cell_kept hs.1 hg hr, (frozen_kept hs.1 hg hr).trans hs.2.1, hs.2.2⟩) _) (ownFrom_below (Nat.le_refl _) (by omega)))
        (fun c => OwnFrom.and (Own.from (fun s A B row hs hg hr => ⟨hs.1, cell_kept hs.2.1 hg hr, hs.2.2⟩) _) (ownFrom_below (Nat.le_refl _) (by omega)))
        ⟨⟨e1, e2, rfl⟩, HB3.out⟩
        (fun x act W => ∃ C : Nat, act = { tmps := #[.agg #[.int .i64 k, .string nd, .string sv, .int .i64 a, .int .i64 b], .pointer (some ⟨w.heap.size, 0, none⟩), .bool false, .pointer (some ⟨B, 0, none⟩), .bool true, .pointer (some ⟨w2.heap.size, 0, none⟩), .pointer (some ⟨C, 0, none⟩), u7, u8, u9, u10, u11, u12, u13, .bool true, .bool false, .bool false, .pointer (some ⟨B, 1, none⟩), .func (.func f1) #[] #[], .agg #[.int .i64 k, .string nd, .string sv, .int .i64 a, .int .i64 b], .agg #[.int .i64 k', .string nd', .string sv', .int .i64 a', .int .i64 b'], .agg #[.int .i64 k, .string nd, .string sv, .int .i64 a, .int .i64 b], .bool (!true), .bool (!true), .pointer (some ⟨B, 2, none⟩), .func (.func f2) #[] #[], .agg #[.int .i64 k, .string nd, .string sv, .int .i64 a, .int .i64 b], .func (.func 61) #[] #[.pointer (some ⟨Q, 0, none⟩)], .agg #[.string x.1, .bool x.2], undef, undef, undef, undef], defers := [] } ∧ W.cell? ⟨C, 0, none⟩ = some (.string x.1) ∧ W.cell? ⟨C, 1, none⟩ = some (.bool x.2))
        (fun x a' => Own.from (fun s A B row hs hg hr => hs.elim fun c hc => ⟨c, hc.1, cell_kept hc.2.1 hg hr, cell_kept hc.2.2 hg hr⟩) _) ?assign ?body ?done ?stop
      case assign =>
        rintro l pre ⟨x1, x2⟩ W K ⟨⟨h1, h2, h3⟩, hB⟩ hK
        have k1 : (W.alloc (.cells #[.string x1, .bool x2] 69)).cell? ⟨w2.heap.size, 0, none⟩ = some (.bool true) := cell_al h1
        have k2 : (W.alloc (.cells #[.string x1, .bool x2] 69)).frozen? ⟨w2.heap.size, 0, none⟩ = false := (((Below.refl _ _).alloc (Nat.le_refl _) _).frozen (World.block_lt_of_cell? _ _ h1)).trans h2
        have H3 := Lib.hid h3
        clear h1 h2 h3 e1 e2
        gi_wp2
        exact hK _ _ ((KeepsOthers.alloc _ _).from _) (KeepA.alloc _ _) ⟨⟨k1, k2, H3.out⟩, hB.alloc hB.size _⟩ ⟨W.heap.size, rfl, by go_simp, by go_simp⟩
      case body =>
        rintro l pre ⟨x1, x2⟩ a' W _ _ ⟨⟨h1, h2, h3⟩, hB⟩ ⟨C, rfl, c0, c1⟩ _
        have H3 := Lib.hid h3
        clear h3 e1 e2
        cases x2 with
        | false =>
          gi_wp2
          refine ⟨(KeepsOthers.setCell _ _ _).from _, ⟨rfl, World.cell?_setCell_same' _ _ _ (by rw [h1]; rfl), by simp [allP]⟩, hB.setCell (p := ⟨w2.heap.size, 0, none⟩) hn0 _⟩
        | true =>
          gi_wp2
          refine ⟨KeepsFrom.refl _ _, KeepA.refl _ _, ⟨h1, h2, ?_⟩, hB⟩
          have := H3.out
          unfold allP at this ⊢
          rw [List.all_append, this]
          rfl
      case done =>
        rintro D ys W hD rfl ⟨⟨h1, _, h3⟩, hB⟩ hK
        have H3 := Lib.hid h3
        clear h3 e1 e2
        go_wp2
        refine ⟨by simp, .inl ⟨_, _, rfl, run_takeDeferred hK, ?_⟩⟩
        exact ⟨_, results_tmp rfl _ _ _, by rw [H3.out]; rfl, hB.trans (belowK_b (w := w) (Nat.le_refl _) W D _ _ (by omega) hK rfl rfl)⟩
      case stop =>
        rintro D c pre W hD ⟨t, hpre⟩ ⟨⟨rfl, h2, h3⟩, hB⟩ hK
        have H3 := Lib.hid (show allP ps = false by
          rw [← hpre]
          unfold allP at h3 ⊢
          rw [List.all_append, h3]
          rfl)
        clear h3 hpre e1 e2
        gi_wp2
        try go_wp2
        refine ⟨by simp, .inl ⟨_, _, rfl, run_takeDeferred hK, ?_⟩⟩
        exact ⟨_, results_tmp rfl _ _ _, by rw [H3.out]; rfl, hB.trans (belowK_b (w := w) (Nat.le_refl _) W D _ _ (by omega) hK rfl rfl)⟩
end Go.Proofs.YtmpokhdljlnllaaDoor
