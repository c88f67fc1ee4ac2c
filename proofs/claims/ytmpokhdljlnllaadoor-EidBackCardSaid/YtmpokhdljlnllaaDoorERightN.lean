/- Right of package eid, at a name whose scheme is none; and at every name. -/
import Derived.Test.YtmpokhdljlnllaaDoorERightG
set_option linter.unusedVariables false
set_option linter.unusedSimpArgs false
namespace Go.Proofs.YtmpokhdljlnllaaDoor
open Go.RowKit Go.Shelf

attribute [local go_sem] Oper.semAt_some

set_option maxRecDepth 100000 in
set_option maxHeartbeats 4000000 in
theorem eright_no (k : Int) (nd sv : ByteArray) (a b : Int) (hfind : Instr.findNow (.int .i64) (.int .i64 k) schE.toList 0 = some none) (w : World) :
    Calls Tryd.prog 21 #[nmV k nd sv a b] w fun e w' => e = .returned (.bool false) ∧ Below w.heap.size w w' := by
  unfold nmV
  have HFIND := Lib.hid hfind
  clear hfind
  refine (callsIn_wide (n := 9)).1 ?_
  refine callsIn_of_wp_marks Tryd.func21 rfl trivial ?_ rfl
  simp only [Tryd.ntmps21, List.size_toArray, List.length_cons, List.length_nil, Nat.reduceAdd, Nat.reduceSub, Array.replicate_succ, Array.replicate_zero, List.push_toArray, List.append_toArray, List.nil_append, List.cons_append]
  refine wpIn_wide.2 ?_
  go_wp2_with fail
  refine wp_scope_straight ?_
  go_upto_region 1 with fail
  go_cut [3, 4] from 7 to 13 (fun p q wc => ∃ B : Nat, p = .pointer (some ⟨B, 0, none⟩) ∧ q = .bool false ∧ SchAt k nd sv a b (.string ⟨#[]⟩) .nilFunc .nilFunc .nilFunc w B wc)
  case first =>
    have HLK := Lib.hid (show ∀ (c : Nat) (w1 : World), w1.heap[c]? = some (.map schE 3) → (Instr.lookup 64 (.map (some c)) (.int .i64 k) true).run Tryd.prog w1 = .ok (.tuple #[.agg #[.string ⟨#[]⟩, .nilFunc, .nilFunc, .nilFunc], .bool false]) w1 from fun c w1 h => lookN2 _ _ _ _ _ h HFIND.out)
    clear HFIND
    go_region_held3 (fun w' => w'.cell? ⟨w.heap.size, 0, none⟩ = some (.int .i64 k))
      (first
        | go_keep
        | (go_simp; done))
      (first
        | ((go_at_call 34; refine (schemes_any _).mono ?_; rintro e w1 ⟨rfl, hm, hb⟩; have n0 : w1.cell? ⟨w.heap.size, 0, none⟩ = some (.int .i64 k) := (hb.cell (p := ⟨w.heap.size, 0, none⟩) (by simp; try omega)).trans (by go_simp); have HM := Lib.hid hm; have HB := Lib.hid hb; clear hm hb; have hl := HLK.out _ w1 HM.out; have hla := fun o : Obj => HLK.out _ (w1.alloc o) (heap_al HM.out); simp only [World.size_drew, World.size_alloc] at hl hla; first | (refine zfacts (p0 := ⟨w.heap.size + 1, 0, none⟩) (p1 := ⟨w.heap.size + 1, 1, none⟩) (p2 := ⟨w.heap.size + 1, 2, none⟩) (p3 := ⟨w.heap.size + 1, 3, none⟩) (v0 := .string ⟨#[]⟩) (v1 := .nilFunc) (v2 := .nilFunc) (v3 := .nilFunc) HB ?c0 ?c1 ?c2 ?c3 ?e0 ?e1 ?e2 ?e3 ?k; (case c0 => (go_simp; done)); (case c1 => (go_simp; done)); (case c2 => (go_simp; done)); (case c3 => (go_simp; done)); (case e0 => (go_simp; done)); (case e1 => (go_simp; done)); (case e2 => (go_simp; done)); (case e3 => (go_simp; done)); intro z0 z1 z2 z3 g0 g1 g2 g3) | skip)))
    all_goals
      have m1 : w1.cell? ⟨w.heap.size, 1, none⟩ = some (.string nd) := cellIn HB (by go_simp)
      have m2 : w1.cell? ⟨w.heap.size, 2, none⟩ = some (.string sv) := cellIn HB (by go_simp)
      have m3 : w1.cell? ⟨w.heap.size, 3, none⟩ = some (.int .i64 a) := cellIn HB (by go_simp)
      have m4 : w1.cell? ⟨w.heap.size, 4, none⟩ = some (.int .i64 b) := cellIn HB (by go_simp)
      have hsz1 : w.heap.size + 1 < w1.heap.size := by have := HB.out.size; have := lt_of_heap HM.out; simp at this; omega
      have hsz0 : w.heap.size < w1.heap.size := by omega
      clear HLK hl hla
      go_wp2_with fail
      go_meet
      case rel =>
        refine ⟨_, rfl, rfl, ⟨?_, ?_, ?_, ?_, ?_, ?_, ?_, ?_, ?_, ?_⟩⟩
        all_goals
          first
            | (go_simp; done)
            | exact below_alloc_l (belowIn HB (below_drew_l (below_alloc_l (Below.refl _ _))))
            | exact below_set_l (below_set_l (below_set_l (below_set_l (belowIn HB (below_drew_l (below_alloc_l (below_alloc_l (Below.refl _ _))))) (Nat.le_succ _)) (Nat.le_succ _)) (Nat.le_succ _)) (Nat.le_succ _)
  case rest =>
    obtain ⟨B, rfl, rfl, hS⟩ := hcut
    have HS := Lib.hid hS
    clear hS HFIND
    go_wp2_with fail
    try go_region
    all_goals
      go_wp2_with fail
      exact ⟨_, results_tmp rfl _ _ _, rfl, HS.out.be.drew⟩
end Go.Proofs.YtmpokhdljlnllaaDoor
