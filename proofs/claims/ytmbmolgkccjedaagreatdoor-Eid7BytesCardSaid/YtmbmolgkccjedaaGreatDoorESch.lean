/- Contract of schemes of package eid: the map of what each scheme is, and what is looked up in it. -/
import Derived.Test.YtmbmolgkccjedaaGreatDoorM8
import Derived.WideMake
set_option linter.unusedVariables false
set_option linter.unusedSimpArgs false
namespace Go.Proofs.YtmbmolgkccjedaaGreatDoor
open Go.RowKit

theorem lt_of_heapE {w : World} {b : Nat} {o : Obj} (h : w.heap[b]? = some o) : b < w.heap.size := (Array.getElem?_eq_some_iff.1 h).1
theorem insS (b clock : Nat) (es : Array MapEntry) (k : Int) (v : Value) (w : World) (hb : w.heap[b]? = some (.map es clock)) (hf : Instr.findNow (.int .i64) (.int .i64 k) es.toList 0 = some none) :
    ∃ w', (Instr.mapUpdate 69 (.map (some b)) (.int .i64 k) v).run Tryz.prog w = .ok () w' ∧ w'.heap[b]? = some (.map (es.push { key := .int .i64 k, val := v, born := clock }) (clock + 1)) ∧ w.grownBy w' (some b) := by
  have hlt := lt_of_heapE hb
  have hc : (Instr.checkKey false 10000 3 (.int .i64 k)).run Tryz.prog w = .ok () w := MapKept.run_checkKey (k := .int .i64 k) Tryz.underlying3 (by simp [MapKept.IsKey]) false 9999
  refine ⟨_, by simp [Instr.mapUpdate, run_underlying Tryz.underlying69, MapKept.run_getObj_map hb, hc, MapKept.run_findKey Tryz.underlying3 hf, MapKept.run_setObj_map _ hb, Result.andThen]; rfl, ?_, ?_⟩
  · simp [hlt]
  · exact ⟨rfl, rfl, rfl, by simp, fun j hj hne => by
      have : j ≠ b := fun e => hne (by rw [e])
      simp [Array.getElem?_setIfInBounds, Ne.symm this]⟩
theorem lookS (b clock i : Nat) (es : Array MapEntry) (k : Int) (v : Value) (w : World) (hb : w.heap[b]? = some (.map es clock)) (hf : Instr.findNow (.int .i64) (.int .i64 k) es.toList 0 = some (some (i, v))) :
    (Instr.lookup 69 (.map (some b)) (.int .i64 k) false).run Tryz.prog w = .ok v w := by
  have hc : ∀ e, (Instr.checkKey e 10000 3 (.int .i64 k)).run Tryz.prog w = .ok () w := fun e => MapKept.run_checkKey (k := .int .i64 k) Tryz.underlying3 (by simp [MapKept.IsKey]) e 9999
  simp [Instr.lookup, run_underlying Tryz.underlying69, MapKept.run_getObj_map hb, hc, MapKept.run_findKey Tryz.underlying3 hf, Result.andThen]
theorem lookS2 (b clock i : Nat) (es : Array MapEntry) (k : Int) (v : Value) (w : World) (hb : w.heap[b]? = some (.map es clock)) (hf : Instr.findNow (.int .i64) (.int .i64 k) es.toList 0 = some (some (i, v))) :
    (Instr.lookup 69 (.map (some b)) (.int .i64 k) true).run Tryz.prog w = .ok (.tuple #[v, .bool true]) w := by
  have hc : ∀ e, (Instr.checkKey e 10000 3 (.int .i64 k)).run Tryz.prog w = .ok () w := fun e => MapKept.run_checkKey (k := .int .i64 k) Tryz.underlying3 (by simp [MapKept.IsKey]) e 9999
  simp [Instr.lookup, run_underlying Tryz.underlying69, MapKept.run_getObj_map hb, hc, MapKept.run_findKey Tryz.underlying3 hf, Result.andThen]
/-- A scheme that is none. -/
def noS : Value := .agg #[.string ⟨#[]⟩, .nilFunc, .nilFunc, .nilFunc]
theorem lookN2 (b clock : Nat) (es : Array MapEntry) (k : Int) (w : World) (hb : w.heap[b]? = some (.map es clock)) (hf : Instr.findNow (.int .i64) (.int .i64 k) es.toList 0 = some none) :
    (Instr.lookup 69 (.map (some b)) (.int .i64 k) true).run Tryz.prog w = .ok (.tuple #[noS, .bool false]) w := by
  have hc : ∀ e, (Instr.checkKey e 10000 3 (.int .i64 k)).run Tryz.prog w = .ok () w := fun e => MapKept.run_checkKey (k := .int .i64 k) Tryz.underlying3 (by simp [MapKept.IsKey]) e 9999
  have hz := Tryz.zeroValue67
  simp [Instr.lookup, run_underlying Tryz.underlying69, MapKept.run_getObj_map hb, hc, MapKept.run_findKey Tryz.underlying3 hf, Result.andThen, hz, noS]

/-- What each scheme is. -/
def sch0 : Value := .agg #[.string ⟨#[100, 116, 110]⟩, .func (.func 57) #[] #[], .func (.func 58) #[] #[], .func (.func 59) #[] #[]]
def sch1 : Value := .agg #[.string ⟨#[100, 116, 110]⟩, .func (.func 60) #[] #[], .func (.func 61) #[] #[], .func (.func 62) #[] #[]]
def sch2 : Value := .agg #[.string ⟨#[105, 112, 110]⟩, .func (.func 63) #[] #[], .func (.func 64) #[] #[], .func (.func 65) #[] #[]]
def schE : Array MapEntry := #[{ key := .int .i64 0, val := sch0, born := 0 }, { key := .int .i64 1, val := sch1, born := 1 }, { key := .int .i64 2, val := sch2, born := 2 }]

set_option maxHeartbeats 1000000 in
theorem schemes_any (w : World) :
    Calls Tryz.prog 40 #[] w fun e w' => e = .returned (.map (some w.heap.size)) ∧ w'.heap[w.heap.size]? = some (.map schE 3) ∧ Below w.heap.size w w' := by
  have hmm := @run_makeMap Tryz.prog
  obtain ⟨w1, r1, h1, g1⟩ := insS w.heap.size 0 #[] 0 sch0 (w.alloc (.map #[] 0)) (World.alloc_heap_new w _) rfl
  obtain ⟨w2, r2, h2, g2⟩ := insS w.heap.size 1 _ 1 sch1 w1 h1 rfl
  obtain ⟨w3, r3, h3, g3⟩ := insS w.heap.size 2 _ 2 sch2 w2 h2 rfl
  have hB0 := (Below.refl w.heap.size w).alloc (Nat.le_refl _) (.map #[] 0)
  have hB1 := hB0.grown g1 hB0.size (fun g e => by cases e; exact Nat.le_refl _)
  have hB2 := hB1.grown g2 hB1.size (fun g e => by cases e; exact Nat.le_refl _)
  have HB := Lib.hid (hB2.grown g3 hB2.size (fun g e => by cases e; exact Nat.le_refl _))
  have H3 := Lib.hid h3
  clear hB0 hB1 hB2 g1 g2 g3 h1 h2 h3
  unfold sch0 at r1
  unfold sch1 at r2
  unfold sch2 at r3
  go_enter Tryz.func40, Tryz.ntmps40
  go_wp2_with fail
  go_ret
  exact ⟨rfl, H3.out, HB.out⟩

theorem findS_no {k : Int} (h0 : k ≠ 0) (h1 : k ≠ 1) (h2 : k ≠ 2) : Instr.findNow (.int .i64) (.int .i64 k) schE.toList 0 = some none := by
  have b0 : (k == 0) = false := by simpa using h0
  have b1 : (k == 1) = false := by simpa using h1
  have b2 : (k == 2) = false := by simpa using h2
  simp only [schE, Instr.findNow, Instr.sameNow, if_true, b0, b1, b2]
end Go.Proofs.YtmbmolgkccjedaaGreatDoor
