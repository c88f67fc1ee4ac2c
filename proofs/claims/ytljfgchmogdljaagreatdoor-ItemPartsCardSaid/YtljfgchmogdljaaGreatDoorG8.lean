/- Contracts of a reader's number, data, letters and kinds of package item. -/
import Derived.Test.YtljfgchmogdljaaGreatDoorIText
import Derived.WideMake
set_option linter.unusedVariables false
set_option linter.unusedSimpArgs false
namespace Go.Proofs.YtljfgchmogdljaaGreatDoor
open Go.RowKit

/-- An answer that is wrong. -/
def badA (v : Value) : Value := .agg #[.int .i64 0, .int .i64 0, .string ⟨#[]⟩, .slice none 0 0, v]

set_option maxHeartbeats 1000000 in
theorem number_item (R : Nat) (n : Int) (w : World) :
    Calls Tryz.prog 81 #[.pointer (some ⟨R, 0, none⟩), .int .i64 n] w fun e w' => e = .returned (.agg #[.int .i64 0, .int .i64 n, .string ⟨#[]⟩, .slice none 0 0, .nilIface]) ∧ Below w.heap.size w w' := by
  go_enter Tryz.func81, Tryz.ntmps81
  go_wp2_with fail
  refine (igoodi_any _ _ _ _ _ _ _).mono ?_
  rintro e w1 ⟨rfl, hb1⟩
  have k0 : w1.cell? ⟨w.heap.size, 0, none⟩ = some (.int .i64 0) := (hb1.cell (p := ⟨w.heap.size, 0, none⟩) (by simp <;> omega)).trans (by go_simp)
  have k1 : w1.cell? ⟨w.heap.size, 1, none⟩ = some (.int .i64 0) := (hb1.cell (p := ⟨w.heap.size, 1, none⟩) (by simp <;> omega)).trans (by go_simp)
  have k2 : w1.cell? ⟨w.heap.size, 2, none⟩ = some (.string ⟨#[]⟩) := (hb1.cell (p := ⟨w.heap.size, 2, none⟩) (by simp <;> omega)).trans (by go_simp)
  have k3 : w1.cell? ⟨w.heap.size, 3, none⟩ = some (.slice none 0 0) := (hb1.cell (p := ⟨w.heap.size, 3, none⟩) (by simp <;> omega)).trans (by go_simp)
  have k4 : w1.cell? ⟨w.heap.size, 4, none⟩ = some (.nilIface) := (hb1.cell (p := ⟨w.heap.size, 4, none⟩) (by simp <;> omega)).trans (by go_simp)
  have f0 : w1.frozen? ⟨w.heap.size, 0, none⟩ = false := (hb1.frozen (p := ⟨w.heap.size, 0, none⟩) (by simp <;> omega)).trans (by go_simp)
  have f1 : w1.frozen? ⟨w.heap.size, 1, none⟩ = false := (hb1.frozen (p := ⟨w.heap.size, 1, none⟩) (by simp <;> omega)).trans (by go_simp)
  have f2 : w1.frozen? ⟨w.heap.size, 2, none⟩ = false := (hb1.frozen (p := ⟨w.heap.size, 2, none⟩) (by simp <;> omega)).trans (by go_simp)
  have f3 : w1.frozen? ⟨w.heap.size, 3, none⟩ = false := (hb1.frozen (p := ⟨w.heap.size, 3, none⟩) (by simp <;> omega)).trans (by go_simp)
  have f4 : w1.frozen? ⟨w.heap.size, 4, none⟩ = false := (hb1.frozen (p := ⟨w.heap.size, 4, none⟩) (by simp <;> omega)).trans (by go_simp)
  have HB := Lib.hid (((Below.refl w.heap.size w).alloc (Nat.le_refl _) _).trans (hb1.mono (by simp)))
  clear hb1
  go_wp2_with fail
  refine bodyPost_ret (v := .agg #[.int .i64 0, .int .i64 n, .string ⟨#[]⟩, .slice none 0 0, .nilIface]) (by simp [results, Tryz.results81, go_sem, k0, k1, k2, k3, k4]) rfl ⟨rfl, ?_⟩
  exact ((((HB.out.setCell (by simp) _).setCell (by simp) _).setCell (by simp) _).setCell (by simp) _).setCell (by simp) _

theorem ins_ex (b clock : Nat) (es : Array MapEntry) (k : Int) (v : Value) (w : World) (hb : w.heap[b]? = some (.map es clock)) (hf : Instr.findNow (.int .i64) (.int .i64 k) es.toList 0 = some none) :
    ∃ w', (Instr.mapUpdate 126 (.map (some b)) (.int .i64 k) v).run Tryz.prog w = .ok () w' ∧ w'.heap[b]? = some (.map (es.push { key := .int .i64 k, val := v, born := clock }) (clock + 1)) ∧ w.grownBy w' (some b) := by
  have hlt := lt_of_heap hb
  have hc : (Instr.checkKey false 10000 3 (.int .i64 k)).run Tryz.prog w = .ok () w := MapKept.run_checkKey (k := .int .i64 k) Tryz.underlying3 (by simp [MapKept.IsKey]) false 9999
  refine ⟨_, by simp [Instr.mapUpdate, run_underlying Tryz.underlying126, MapKept.run_getObj_map hb, hc, MapKept.run_findKey Tryz.underlying3 hf, MapKept.run_setObj_map _ hb, Result.andThen]; rfl, ?_, ?_⟩
  · simp [hlt]
  · exact ⟨rfl, rfl, rfl, by simp, fun j hj hne => by
      have : j ≠ b := fun e => hne (by rw [e])
      simp [Array.getElem?_setIfInBounds, Ne.symm this]⟩
theorem look_run (b clock i : Nat) (es : Array MapEntry) (k : Int) (v : Value) (w : World) (hb : w.heap[b]? = some (.map es clock)) (hf : Instr.findNow (.int .i64) (.int .i64 k) es.toList 0 = some (some (i, v))) :
    (Instr.lookup 126 (.map (some b)) (.int .i64 k) false).run Tryz.prog w = .ok v w := by
  have hc : ∀ e, (Instr.checkKey e 10000 3 (.int .i64 k)).run Tryz.prog w = .ok () w := fun e => MapKept.run_checkKey (k := .int .i64 k) Tryz.underlying3 (by simp [MapKept.IsKey]) e 9999
  simp [Instr.lookup, run_underlying Tryz.underlying126, MapKept.run_getObj_map hb, hc, MapKept.run_findKey Tryz.underlying3 hf, Result.andThen]

/-- How each kind is read: the map's entries. -/
def kindsE (R : Nat) : Array MapEntry := #[{ key := .int .i64 0, val := .func (.func 81) #[.pointer (some ⟨R, 0, none⟩)] #[], born := 0 }, { key := .int .i64 2, val := .func (.func 82) #[.pointer (some ⟨R, 0, none⟩)] #[], born := 1 }, { key := .int .i64 3, val := .func (.func 83) #[.pointer (some ⟨R, 0, none⟩)] #[], born := 2 }, { key := .int .i64 4, val := .func (.func 84) #[.pointer (some ⟨R, 0, none⟩)] #[], born := 3 }]

set_option maxHeartbeats 1000000 in
theorem kinds_any (R : Nat) (w : World) :
    Calls Tryz.prog 71 #[.pointer (some ⟨R, 0, none⟩)] w fun e w' => e = .returned (.map (some w.heap.size)) ∧ w'.heap[w.heap.size]? = some (.map (kindsE R) 4) ∧ Below w.heap.size w w' := by
  have hmm := @run_makeMap Tryz.prog
  obtain ⟨w1, r1, h1, g1⟩ := ins_ex w.heap.size 0 #[] 0 (.func (.func 81) #[.pointer (some ⟨R, 0, none⟩)] #[]) (w.alloc (.map #[] 0)) (World.alloc_heap_new w _) rfl
  obtain ⟨w2, r2, h2, g2⟩ := ins_ex w.heap.size 1 _ 2 (.func (.func 82) #[.pointer (some ⟨R, 0, none⟩)] #[]) w1 h1 rfl
  obtain ⟨w3, r3, h3, g3⟩ := ins_ex w.heap.size 2 _ 3 (.func (.func 83) #[.pointer (some ⟨R, 0, none⟩)] #[]) w2 h2 rfl
  obtain ⟨w4, r4, h4, g4⟩ := ins_ex w.heap.size 3 _ 4 (.func (.func 84) #[.pointer (some ⟨R, 0, none⟩)] #[]) w3 h3 rfl
  have hB0 := (Below.refl w.heap.size w).alloc (Nat.le_refl _) (.map #[] 0)
  have hB1 := hB0.grown g1 hB0.size (fun g e => by cases e; exact Nat.le_refl _)
  have hB2 := hB1.grown g2 hB1.size (fun g e => by cases e; exact Nat.le_refl _)
  have hB3 := hB2.grown g3 hB2.size (fun g e => by cases e; exact Nat.le_refl _)
  have HB := Lib.hid (hB3.grown g4 hB3.size (fun g e => by cases e; exact Nat.le_refl _))
  have H4 := Lib.hid h4
  clear hB0 hB1 hB2 hB3 g1 g2 g3 g4 h1 h2 h3 h4
  go_enter Tryz.func71, Tryz.ntmps71
  go_wp2_with fail
  go_ret
  exact ⟨rfl, H4.out, HB.out⟩

/-- What an answer is, of data: what is wrong, or bytes. -/
def DataR (R : Nat) (s : ByteArray) (at0 c d : Int) (kind n : Int) (q : ByteArray) (e : Int) (w : World) (e' : Ending) (w' : World) : Prop :=
  if e = 0 then e' = .returned (.agg #[.int .i64 kind, .int .i64 0, .string q, .slice none 0 0, .nilIface]) ∧ RdS R s (at0 + n) c d w' ∧ Fr R w w' else ∃ p, e' = .returned (badA (placedV p e)) ∧ Fr R w w'

set_option maxRecDepth 100000 in
set_option maxHeartbeats 2000000 in
theorem data_great (R : Nat) (s : ByteArray) (at0 c d n : Int) (w : World) (hS : RdS R s at0 c d w) (hn : 600 < n) :
    Calls Tryz.prog 82 #[.pointer (some ⟨R, 0, none⟩), .int .i64 n] w fun e' w' => e' = .returned (badA (placedV at0 40)) ∧ Fr R w w' := by
  have b1 : decide (600 < n) = true := by simpa using hn
  have hl := hS.lt
  have hS1 := Lib.hid (hS.below ((Below.refl _ _).alloc (Nat.le_refl _) (.cells #[.int .i64 0, .int .i64 0, .string ⟨#[]⟩, .slice none 0 0, .nilIface] 63)))
  clear hS hn
  unfold badA
  go_enter Tryz.func82, Tryz.ntmps82
  go_wp2_with fail
  refine (wrong_any R s at0 c d 40 _ hS1.out).mono ?_
  rintro e' w' ⟨rfl, rfl⟩
  unfold placedV
  go_wp2_with fail
  refine (ibadi_any _ _ _).mono ?_
  rintro e w1 ⟨rfl, hb1⟩
  have k0 : w1.cell? ⟨w.heap.size, 0, none⟩ = some (.int .i64 0) := (hb1.cell (p := ⟨w.heap.size, 0, none⟩) (by simp <;> omega)).trans (by go_simp)
  have k1 : w1.cell? ⟨w.heap.size, 1, none⟩ = some (.int .i64 0) := (hb1.cell (p := ⟨w.heap.size, 1, none⟩) (by simp <;> omega)).trans (by go_simp)
  have k2 : w1.cell? ⟨w.heap.size, 2, none⟩ = some (.string ⟨#[]⟩) := (hb1.cell (p := ⟨w.heap.size, 2, none⟩) (by simp <;> omega)).trans (by go_simp)
  have k3 : w1.cell? ⟨w.heap.size, 3, none⟩ = some (.slice none 0 0) := (hb1.cell (p := ⟨w.heap.size, 3, none⟩) (by simp <;> omega)).trans (by go_simp)
  have k4 : w1.cell? ⟨w.heap.size, 4, none⟩ = some (.nilIface) := (hb1.cell (p := ⟨w.heap.size, 4, none⟩) (by simp <;> omega)).trans (by go_simp)
  have f0 : w1.frozen? ⟨w.heap.size, 0, none⟩ = false := (hb1.frozen (p := ⟨w.heap.size, 0, none⟩) (by simp <;> omega)).trans (by go_simp)
  have f1 : w1.frozen? ⟨w.heap.size, 1, none⟩ = false := (hb1.frozen (p := ⟨w.heap.size, 1, none⟩) (by simp <;> omega)).trans (by go_simp)
  have f2 : w1.frozen? ⟨w.heap.size, 2, none⟩ = false := (hb1.frozen (p := ⟨w.heap.size, 2, none⟩) (by simp <;> omega)).trans (by go_simp)
  have f3 : w1.frozen? ⟨w.heap.size, 3, none⟩ = false := (hb1.frozen (p := ⟨w.heap.size, 3, none⟩) (by simp <;> omega)).trans (by go_simp)
  have f4 : w1.frozen? ⟨w.heap.size, 4, none⟩ = false := (hb1.frozen (p := ⟨w.heap.size, 4, none⟩) (by simp <;> omega)).trans (by go_simp)
  have hB := ((Below.refl w.heap.size w).alloc (Nat.le_refl _) (.cells #[.int .i64 0, .int .i64 0, .string ⟨#[]⟩, .slice none 0 0, .nilIface] 63)).trans (hb1.mono (by simp))
  have HB := Lib.hid hB
  clear hb1 hB
  go_wp2_with fail
  refine bodyPost_ret (v := .agg #[.int .i64 0, .int .i64 0, .string ⟨#[]⟩, .slice none 0 0, .iface 94 (.agg #[.int .i64 at0, .iface 75 (.agg #[.int .i64 40])])]) (by simp [results, Tryz.results82, go_sem, k0, k1, k2, k3, k4]) rfl ⟨rfl, ?_⟩
  exact Fr.below (((((HB.out.setCell (by simp) _).setCell (by simp) _).setCell (by simp) _).setCell (by simp) _).setCell (by simp) _)

set_option maxRecDepth 100000 in
set_option maxHeartbeats 2000000 in
theorem data_any (R : Nat) (s : ByteArray) (at0 c d n : Int) (q : ByteArray) (e : Int) (w : World) (hH : HeadOK w) (hS : RdS R s at0 c d w) (hs : s.size ≤ 1000000) (hD : cutR s at0 n = (q, e)) (ha : at0 ≤ 1000000) (ha0 : 0 ≤ at0) (hn0 : 0 ≤ n) (hn : n ≤ 600) :
    Calls Tryz.prog 82 #[.pointer (some ⟨R, 0, none⟩), .int .i64 n] w (DataR R s at0 c d 2 n q e w) := by
  have b1 : decide (600 < n) = false := by simpa using hn
  have hl := hS.lt
  have hBA := (Below.refl w.heap.size w).alloc (Nat.le_refl _) (.cells #[.int .i64 0, .int .i64 0, .string ⟨#[]⟩, .slice none 0 0, .nilIface] 63)
  have HC := Lib.hid (tcut_any R s at0 c d n q e _ (hH.below hBA) (hS.below hBA) hs hD ha ha0 hn0 hn)
  clear hS hH hD
  unfold DataR badA
  by_cases he : e = 0
  · subst he
    go_enter Tryz.func82, Tryz.ntmps82
    go_wp2_with fail
    refine HC.out.mono ?_
    clear HC
    rintro e' w1 ⟨rfl, hS1, hF1⟩
    have hRne : w.heap.size ≠ R := by omega
    have k0 : w1.cell? ⟨w.heap.size, 0, none⟩ = some (.int .i64 0) := (frCell (p := ⟨w.heap.size, 0, none⟩) hF1 hRne (by simp)).trans (by go_simp)
    have k1 : w1.cell? ⟨w.heap.size, 1, none⟩ = some (.int .i64 0) := (frCell (p := ⟨w.heap.size, 1, none⟩) hF1 hRne (by simp)).trans (by go_simp)
    have k2 : w1.cell? ⟨w.heap.size, 2, none⟩ = some (.string ⟨#[]⟩) := (frCell (p := ⟨w.heap.size, 2, none⟩) hF1 hRne (by simp)).trans (by go_simp)
    have k3 : w1.cell? ⟨w.heap.size, 3, none⟩ = some (.slice none 0 0) := (frCell (p := ⟨w.heap.size, 3, none⟩) hF1 hRne (by simp)).trans (by go_simp)
    have k4 : w1.cell? ⟨w.heap.size, 4, none⟩ = some (.nilIface) := (frCell (p := ⟨w.heap.size, 4, none⟩) hF1 hRne (by simp)).trans (by go_simp)
    have f0 : w1.frozen? ⟨w.heap.size, 0, none⟩ = false := (frFrozen (p := ⟨w.heap.size, 0, none⟩) hF1 hRne (by simp)).trans (by go_simp)
    have f1 : w1.frozen? ⟨w.heap.size, 1, none⟩ = false := (frFrozen (p := ⟨w.heap.size, 1, none⟩) hF1 hRne (by simp)).trans (by go_simp)
    have f2 : w1.frozen? ⟨w.heap.size, 2, none⟩ = false := (frFrozen (p := ⟨w.heap.size, 2, none⟩) hF1 hRne (by simp)).trans (by go_simp)
    have f3 : w1.frozen? ⟨w.heap.size, 3, none⟩ = false := (frFrozen (p := ⟨w.heap.size, 3, none⟩) hF1 hRne (by simp)).trans (by go_simp)
    have f4 : w1.frozen? ⟨w.heap.size, 4, none⟩ = false := (frFrozen (p := ⟨w.heap.size, 4, none⟩) hF1 hRne (by simp)).trans (by go_simp)
    have hz1 : w.heap.size < w1.heap.size := World.block_lt_of_cell? _ _ k0
    have HF1 := Lib.hid ((Fr.below (R := R) ((Below.refl w.heap.size w).alloc (Nat.le_refl _) (.cells #[.int .i64 0, .int .i64 0, .string ⟨#[]⟩, .slice none 0 0, .nilIface] 63))).trans hF1)
    have HS1 := Lib.hid hS1
    clear hF1 hS1
    go_wp2_with fail
    refine (igoodi_any _ _ _ _ _ _ _).mono ?_
    rintro e w2 ⟨rfl, hb2⟩
    replace k0 := (hb2.cell (p := ⟨w.heap.size, 0, none⟩) hz1).trans k0
    replace k1 := (hb2.cell (p := ⟨w.heap.size, 1, none⟩) hz1).trans k1
    replace k2 := (hb2.cell (p := ⟨w.heap.size, 2, none⟩) hz1).trans k2
    replace k3 := (hb2.cell (p := ⟨w.heap.size, 3, none⟩) hz1).trans k3
    replace k4 := (hb2.cell (p := ⟨w.heap.size, 4, none⟩) hz1).trans k4
    replace f0 := (hb2.frozen (p := ⟨w.heap.size, 0, none⟩) hz1).trans f0
    replace f1 := (hb2.frozen (p := ⟨w.heap.size, 1, none⟩) hz1).trans f1
    replace f2 := (hb2.frozen (p := ⟨w.heap.size, 2, none⟩) hz1).trans f2
    replace f3 := (hb2.frozen (p := ⟨w.heap.size, 3, none⟩) hz1).trans f3
    replace f4 := (hb2.frozen (p := ⟨w.heap.size, 4, none⟩) hz1).trans f4
    have HF2 := Lib.hid (HF1.out.trans (Fr.below hb2))
    have HS2 := Lib.hid (HS1.out.below hb2)
    clear hb2
    go_wp2_with fail
    refine bodyPost_ret (v := .agg #[.int .i64 2, .int .i64 0, .string q, .slice none 0 0, .nilIface]) (by simp [results, Tryz.results82, go_sem, k0, k1, k2, k3, k4]) rfl ⟨rfl, ?_, ?_⟩
    · exact ((((HS2.out.other hRne _ _).other hRne _ _).other hRne _ _).other hRne _ _).other hRne _ _
    · exact frNew (frNew (frNew (frNew (frNew HF2.out (Nat.le_refl _) _ _) (Nat.le_refl _) _ _) (Nat.le_refl _) _ _) (Nat.le_refl _) _ _) (Nat.le_refl _) _ _
  · have b2 : (e == 0) = false := by simpa using he
    simp only [if_neg he] at HC ⊢
    have HE := Lib.hid he
    clear he
    unfold placedV at HC ⊢
    go_enter Tryz.func82, Tryz.ntmps82
    go_wp2_with fail
    refine HC.out.mono ?_
    clear HC
    rintro e' w1 ⟨rfl, hF1⟩
    have hRne : w.heap.size ≠ R := by omega
    have k0 : w1.cell? ⟨w.heap.size, 0, none⟩ = some (.int .i64 0) := (frCell (p := ⟨w.heap.size, 0, none⟩) hF1 hRne (by simp)).trans (by go_simp)
    have k1 : w1.cell? ⟨w.heap.size, 1, none⟩ = some (.int .i64 0) := (frCell (p := ⟨w.heap.size, 1, none⟩) hF1 hRne (by simp)).trans (by go_simp)
    have k2 : w1.cell? ⟨w.heap.size, 2, none⟩ = some (.string ⟨#[]⟩) := (frCell (p := ⟨w.heap.size, 2, none⟩) hF1 hRne (by simp)).trans (by go_simp)
    have k3 : w1.cell? ⟨w.heap.size, 3, none⟩ = some (.slice none 0 0) := (frCell (p := ⟨w.heap.size, 3, none⟩) hF1 hRne (by simp)).trans (by go_simp)
    have k4 : w1.cell? ⟨w.heap.size, 4, none⟩ = some (.nilIface) := (frCell (p := ⟨w.heap.size, 4, none⟩) hF1 hRne (by simp)).trans (by go_simp)
    have f0 : w1.frozen? ⟨w.heap.size, 0, none⟩ = false := (frFrozen (p := ⟨w.heap.size, 0, none⟩) hF1 hRne (by simp)).trans (by go_simp)
    have f1 : w1.frozen? ⟨w.heap.size, 1, none⟩ = false := (frFrozen (p := ⟨w.heap.size, 1, none⟩) hF1 hRne (by simp)).trans (by go_simp)
    have f2 : w1.frozen? ⟨w.heap.size, 2, none⟩ = false := (frFrozen (p := ⟨w.heap.size, 2, none⟩) hF1 hRne (by simp)).trans (by go_simp)
    have f3 : w1.frozen? ⟨w.heap.size, 3, none⟩ = false := (frFrozen (p := ⟨w.heap.size, 3, none⟩) hF1 hRne (by simp)).trans (by go_simp)
    have f4 : w1.frozen? ⟨w.heap.size, 4, none⟩ = false := (frFrozen (p := ⟨w.heap.size, 4, none⟩) hF1 hRne (by simp)).trans (by go_simp)
    have hz1 : w.heap.size < w1.heap.size := World.block_lt_of_cell? _ _ k0
    have HF1 := Lib.hid ((Fr.below (R := R) ((Below.refl w.heap.size w).alloc (Nat.le_refl _) (.cells #[.int .i64 0, .int .i64 0, .string ⟨#[]⟩, .slice none 0 0, .nilIface] 63))).trans hF1)
    clear hF1
    go_wp2_with fail
    refine (ibadi_any _ _ _).mono ?_
    rintro e w2 ⟨rfl, hb2⟩
    replace k0 := (hb2.cell (p := ⟨w.heap.size, 0, none⟩) hz1).trans k0
    replace k1 := (hb2.cell (p := ⟨w.heap.size, 1, none⟩) hz1).trans k1
    replace k2 := (hb2.cell (p := ⟨w.heap.size, 2, none⟩) hz1).trans k2
    replace k3 := (hb2.cell (p := ⟨w.heap.size, 3, none⟩) hz1).trans k3
    replace k4 := (hb2.cell (p := ⟨w.heap.size, 4, none⟩) hz1).trans k4
    replace f0 := (hb2.frozen (p := ⟨w.heap.size, 0, none⟩) hz1).trans f0
    replace f1 := (hb2.frozen (p := ⟨w.heap.size, 1, none⟩) hz1).trans f1
    replace f2 := (hb2.frozen (p := ⟨w.heap.size, 2, none⟩) hz1).trans f2
    replace f3 := (hb2.frozen (p := ⟨w.heap.size, 3, none⟩) hz1).trans f3
    replace f4 := (hb2.frozen (p := ⟨w.heap.size, 4, none⟩) hz1).trans f4
    have HF2 := Lib.hid (HF1.out.trans (Fr.below hb2))
    clear hb2
    go_wp2_with fail
    refine bodyPost_ret (v := .agg #[.int .i64 0, .int .i64 0, .string ⟨#[]⟩, .slice none 0 0, .iface 94 (.agg #[.int .i64 at0, .iface 75 (.agg #[.int .i64 e])])]) (by simp [results, Tryz.results82, go_sem, k0, k1, k2, k3, k4]) rfl ⟨at0, rfl, ?_⟩
    exact frNew (frNew (frNew (frNew (frNew HF2.out (Nat.le_refl _) _ _) (Nat.le_refl _) _ _) (Nat.le_refl _) _ _) (Nat.le_refl _) _ _) (Nat.le_refl _) _ _
end Go.Proofs.YtljfgchmogdljaaGreatDoor

/- Contract of a reader's letters of package item. -/
set_option linter.unusedVariables false
set_option linter.unusedSimpArgs false
namespace Go.Proofs.YtljfgchmogdljaaGreatDoor
open Go.RowKit

set_option maxRecDepth 100000 in
set_option maxHeartbeats 2000000 in
theorem letters_bad (R : Nat) (n e : Int) (w : World) (hl : R < w.heap.size)
    (hc : Calls Tryz.prog 82 #[.pointer (some ⟨R, 0, none⟩), .int .i64 n] (w.alloc (.cells #[.int .i64 0, .int .i64 0, .string ⟨#[]⟩, .slice none 0 0, .nilIface] 63)) fun e' w' => ∃ p, e' = .returned (badA (placedV p e)) ∧ Fr R (w.alloc (.cells #[.int .i64 0, .int .i64 0, .string ⟨#[]⟩, .slice none 0 0, .nilIface] 63)) w') :
    Calls Tryz.prog 83 #[.pointer (some ⟨R, 0, none⟩), .int .i64 n] w fun e' w' => ∃ p, e' = .returned (badA (placedV p e)) ∧ Fr R w w' := by
  have HC := Lib.hid hc
  clear hc
  unfold badA placedV at HC ⊢
  go_enter Tryz.func83, Tryz.ntmps83
  go_wp2_with fail
  refine HC.out.mono ?_
  clear HC
  rintro e' w1 ⟨p, rfl, hF1⟩
  have hRne : w.heap.size ≠ R := by omega
  have k0 : w1.cell? ⟨w.heap.size, 0, none⟩ = some (.int .i64 0) := (frCell (p := ⟨w.heap.size, 0, none⟩) hF1 hRne (by simp)).trans (by go_simp)
  have k1 : w1.cell? ⟨w.heap.size, 1, none⟩ = some (.int .i64 0) := (frCell (p := ⟨w.heap.size, 1, none⟩) hF1 hRne (by simp)).trans (by go_simp)
  have k2 : w1.cell? ⟨w.heap.size, 2, none⟩ = some (.string ⟨#[]⟩) := (frCell (p := ⟨w.heap.size, 2, none⟩) hF1 hRne (by simp)).trans (by go_simp)
  have k3 : w1.cell? ⟨w.heap.size, 3, none⟩ = some (.slice none 0 0) := (frCell (p := ⟨w.heap.size, 3, none⟩) hF1 hRne (by simp)).trans (by go_simp)
  have k4 : w1.cell? ⟨w.heap.size, 4, none⟩ = some (.nilIface) := (frCell (p := ⟨w.heap.size, 4, none⟩) hF1 hRne (by simp)).trans (by go_simp)
  have f0 : w1.frozen? ⟨w.heap.size, 0, none⟩ = false := (frFrozen (p := ⟨w.heap.size, 0, none⟩) hF1 hRne (by simp)).trans (by go_simp)
  have f1 : w1.frozen? ⟨w.heap.size, 1, none⟩ = false := (frFrozen (p := ⟨w.heap.size, 1, none⟩) hF1 hRne (by simp)).trans (by go_simp)
  have f2 : w1.frozen? ⟨w.heap.size, 2, none⟩ = false := (frFrozen (p := ⟨w.heap.size, 2, none⟩) hF1 hRne (by simp)).trans (by go_simp)
  have f3 : w1.frozen? ⟨w.heap.size, 3, none⟩ = false := (frFrozen (p := ⟨w.heap.size, 3, none⟩) hF1 hRne (by simp)).trans (by go_simp)
  have f4 : w1.frozen? ⟨w.heap.size, 4, none⟩ = false := (frFrozen (p := ⟨w.heap.size, 4, none⟩) hF1 hRne (by simp)).trans (by go_simp)
  have hz1 : w.heap.size < w1.heap.size := World.block_lt_of_cell? _ _ k0
  have hz1n : w.heap.size ≠ w1.heap.size := by omega
  have HF1 := Lib.hid ((Fr.below (R := R) ((Below.refl w.heap.size w).alloc (Nat.le_refl _) (.cells #[.int .i64 0, .int .i64 0, .string ⟨#[]⟩, .slice none 0 0, .nilIface] 63))).trans hF1)
  clear hF1
  go_wp2_with fail
  refine bodyPost_ret (v := .agg #[.int .i64 0, .int .i64 0, .string ⟨#[]⟩, .slice none 0 0, .iface 94 (.agg #[.int .i64 p, .iface 75 (.agg #[.int .i64 e])])]) (by simp [results, Tryz.results83, go_sem, hz1, Nat.lt_succ_of_lt hz1, Nat.ne_of_lt hz1, k0, k1, k2, k3, k4]) rfl ⟨p, rfl, ?_⟩
  exact frAlloc (frNew (frNew (frNew (frNew (frNew HF1.out (Nat.le_refl _) _ _) (Nat.le_refl _) _ _) (Nat.le_refl _) _ _) (Nat.le_refl _) _ _) (Nat.le_refl _) _ _) _

set_option maxRecDepth 100000 in
set_option maxHeartbeats 2000000 in
theorem letters_ok (R : Nat) (s : ByteArray) (at0 c d n : Int) (q : ByteArray) (w : World) (hl : R < w.heap.size) (hq : q.size ≤ maxLen)
    (hc : Calls Tryz.prog 82 #[.pointer (some ⟨R, 0, none⟩), .int .i64 n] (w.alloc (.cells #[.int .i64 0, .int .i64 0, .string ⟨#[]⟩, .slice none 0 0, .nilIface] 63)) fun e' w' => e' = .returned (.agg #[.int .i64 2, .int .i64 0, .string q, .slice none 0 0, .nilIface]) ∧ RdS R s (at0 + n) c d w' ∧ Fr R (w.alloc (.cells #[.int .i64 0, .int .i64 0, .string ⟨#[]⟩, .slice none 0 0, .nilIface] 63)) w') :
    Calls Tryz.prog 83 #[.pointer (some ⟨R, 0, none⟩), .int .i64 n] w (DataR R s at0 c d 3 n q (if txtB q.data.toList = true then 0 else 20) w) := by
  have HC := Lib.hid hc
  clear hc
  unfold DataR badA placedV
  cases ht : txtB q.data.toList with
  | true =>
    simp only [if_true]
    go_enter Tryz.func83, Tryz.ntmps83
    go_wp2_with fail
    refine HC.out.mono ?_
    clear HC
    rintro e' w1 ⟨rfl, hS1, hF1⟩
    have hRne : w.heap.size ≠ R := by omega
    have k0 : w1.cell? ⟨w.heap.size, 0, none⟩ = some (.int .i64 0) := (frCell (p := ⟨w.heap.size, 0, none⟩) hF1 hRne (by simp)).trans (by go_simp)
    have k1 : w1.cell? ⟨w.heap.size, 1, none⟩ = some (.int .i64 0) := (frCell (p := ⟨w.heap.size, 1, none⟩) hF1 hRne (by simp)).trans (by go_simp)
    have k2 : w1.cell? ⟨w.heap.size, 2, none⟩ = some (.string ⟨#[]⟩) := (frCell (p := ⟨w.heap.size, 2, none⟩) hF1 hRne (by simp)).trans (by go_simp)
    have k3 : w1.cell? ⟨w.heap.size, 3, none⟩ = some (.slice none 0 0) := (frCell (p := ⟨w.heap.size, 3, none⟩) hF1 hRne (by simp)).trans (by go_simp)
    have k4 : w1.cell? ⟨w.heap.size, 4, none⟩ = some (.nilIface) := (frCell (p := ⟨w.heap.size, 4, none⟩) hF1 hRne (by simp)).trans (by go_simp)
    have f0 : w1.frozen? ⟨w.heap.size, 0, none⟩ = false := (frFrozen (p := ⟨w.heap.size, 0, none⟩) hF1 hRne (by simp)).trans (by go_simp)
    have f1 : w1.frozen? ⟨w.heap.size, 1, none⟩ = false := (frFrozen (p := ⟨w.heap.size, 1, none⟩) hF1 hRne (by simp)).trans (by go_simp)
    have f2 : w1.frozen? ⟨w.heap.size, 2, none⟩ = false := (frFrozen (p := ⟨w.heap.size, 2, none⟩) hF1 hRne (by simp)).trans (by go_simp)
    have f3 : w1.frozen? ⟨w.heap.size, 3, none⟩ = false := (frFrozen (p := ⟨w.heap.size, 3, none⟩) hF1 hRne (by simp)).trans (by go_simp)
    have f4 : w1.frozen? ⟨w.heap.size, 4, none⟩ = false := (frFrozen (p := ⟨w.heap.size, 4, none⟩) hF1 hRne (by simp)).trans (by go_simp)
    have hz1 : w.heap.size < w1.heap.size := World.block_lt_of_cell? _ _ k0
    have hz1n : w.heap.size ≠ w1.heap.size := by omega
    have hR1 : w1.heap.size ≠ R := by omega
    have HF1 := Lib.hid ((Fr.below (R := R) ((Below.refl w.heap.size w).alloc (Nat.le_refl _) (.cells #[.int .i64 0, .int .i64 0, .string ⟨#[]⟩, .slice none 0 0, .nilIface] 63))).trans hF1)
    have HS1 := Lib.hid hS1
    clear hF1 hS1
    go_wp2_with fail
    refine (letters_any _ _ hq).mono ?_
    rintro e w' ⟨rfl, rfl⟩
    rw [ht]
    go_wp2_with fail
    refine bodyPost_ret (v := .agg #[.int .i64 3, .int .i64 0, .string q, .slice none 0 0, .nilIface]) (by simp [results, Tryz.results83, go_sem, hz1, Nat.lt_succ_of_lt hz1, Nat.ne_of_lt hz1, k0, k1, k2, k3, k4]) rfl ⟨rfl, ?_, ?_⟩
    · exact (((((HS1.out.other hRne _ _).other hRne _ _).other hRne _ _).other hRne _ _).other hRne _ _).below ((Below.refl _ _).alloc (Nat.le_refl _) _)
    · exact frAlloc (frNew (frNew (frNew (frNew (frNew HF1.out (Nat.le_refl _) _ _) (Nat.le_refl _) _ _) (Nat.le_refl _) _ _) (Nat.le_refl _) _ _) (Nat.le_refl _) _ _) _
  | false =>
    simp only [Bool.false_eq_true, if_false, show ¬ (20 : Int) = 0 by decide]
    go_enter Tryz.func83, Tryz.ntmps83
    go_wp2_with fail
    refine HC.out.mono ?_
    clear HC
    rintro e' w1 ⟨rfl, hS1, hF1⟩
    have hRne : w.heap.size ≠ R := by omega
    have k0 : w1.cell? ⟨w.heap.size, 0, none⟩ = some (.int .i64 0) := (frCell (p := ⟨w.heap.size, 0, none⟩) hF1 hRne (by simp)).trans (by go_simp)
    have k1 : w1.cell? ⟨w.heap.size, 1, none⟩ = some (.int .i64 0) := (frCell (p := ⟨w.heap.size, 1, none⟩) hF1 hRne (by simp)).trans (by go_simp)
    have k2 : w1.cell? ⟨w.heap.size, 2, none⟩ = some (.string ⟨#[]⟩) := (frCell (p := ⟨w.heap.size, 2, none⟩) hF1 hRne (by simp)).trans (by go_simp)
    have k3 : w1.cell? ⟨w.heap.size, 3, none⟩ = some (.slice none 0 0) := (frCell (p := ⟨w.heap.size, 3, none⟩) hF1 hRne (by simp)).trans (by go_simp)
    have k4 : w1.cell? ⟨w.heap.size, 4, none⟩ = some (.nilIface) := (frCell (p := ⟨w.heap.size, 4, none⟩) hF1 hRne (by simp)).trans (by go_simp)
    have f0 : w1.frozen? ⟨w.heap.size, 0, none⟩ = false := (frFrozen (p := ⟨w.heap.size, 0, none⟩) hF1 hRne (by simp)).trans (by go_simp)
    have f1 : w1.frozen? ⟨w.heap.size, 1, none⟩ = false := (frFrozen (p := ⟨w.heap.size, 1, none⟩) hF1 hRne (by simp)).trans (by go_simp)
    have f2 : w1.frozen? ⟨w.heap.size, 2, none⟩ = false := (frFrozen (p := ⟨w.heap.size, 2, none⟩) hF1 hRne (by simp)).trans (by go_simp)
    have f3 : w1.frozen? ⟨w.heap.size, 3, none⟩ = false := (frFrozen (p := ⟨w.heap.size, 3, none⟩) hF1 hRne (by simp)).trans (by go_simp)
    have f4 : w1.frozen? ⟨w.heap.size, 4, none⟩ = false := (frFrozen (p := ⟨w.heap.size, 4, none⟩) hF1 hRne (by simp)).trans (by go_simp)
    have hz1 : w.heap.size < w1.heap.size := World.block_lt_of_cell? _ _ k0
    have hz1n : w.heap.size ≠ w1.heap.size := by omega
    have hR1 : w1.heap.size ≠ R := by omega
    have HF1 := Lib.hid ((Fr.below (R := R) ((Below.refl w.heap.size w).alloc (Nat.le_refl _) (.cells #[.int .i64 0, .int .i64 0, .string ⟨#[]⟩, .slice none 0 0, .nilIface] 63))).trans hF1)
    have HS1 := Lib.hid hS1
    clear hF1 hS1
    go_wp2_with fail
    refine (letters_any _ _ hq).mono ?_
    rintro e w' ⟨rfl, rfl⟩
    rw [ht]
    go_wp2_with fail
    have HS2 := Lib.hid (HS1.out.below ((Below.refl _ _).alloc (Nat.le_refl _) (.cells #[.int .i64 2, .int .i64 0, .string q, .slice none 0 0, .nilIface] 63)))
    have HF2 := Lib.hid (frAlloc HF1.out (.cells #[.int .i64 2, .int .i64 0, .string q, .slice none 0 0, .nilIface] 63))
    refine (wrong_any R s (at0 + n) c d 20 _ HS2.out).mono ?_
    rintro e' w' ⟨rfl, rfl⟩
    unfold placedV
    go_wp2_with fail
    refine (ibadi_any _ _ _).mono ?_
    rintro e w2 ⟨rfl, hb2⟩
    replace f0 := (hb2.frozen (p := ⟨w.heap.size, 0, none⟩) (by simp; omega)).trans (frozen_alloc_l _ k0 f0)
    replace f1 := (hb2.frozen (p := ⟨w.heap.size, 1, none⟩) (by simp; omega)).trans (frozen_alloc_l _ k1 f1)
    replace f2 := (hb2.frozen (p := ⟨w.heap.size, 2, none⟩) (by simp; omega)).trans (frozen_alloc_l _ k2 f2)
    replace f3 := (hb2.frozen (p := ⟨w.heap.size, 3, none⟩) (by simp; omega)).trans (frozen_alloc_l _ k3 f3)
    replace f4 := (hb2.frozen (p := ⟨w.heap.size, 4, none⟩) (by simp; omega)).trans (frozen_alloc_l _ k4 f4)
    replace k0 := (hb2.cell (p := ⟨w.heap.size, 0, none⟩) (by simp; omega)).trans (cell_alloc_l _ k0)
    replace k1 := (hb2.cell (p := ⟨w.heap.size, 1, none⟩) (by simp; omega)).trans (cell_alloc_l _ k1)
    replace k2 := (hb2.cell (p := ⟨w.heap.size, 2, none⟩) (by simp; omega)).trans (cell_alloc_l _ k2)
    replace k3 := (hb2.cell (p := ⟨w.heap.size, 3, none⟩) (by simp; omega)).trans (cell_alloc_l _ k3)
    replace k4 := (hb2.cell (p := ⟨w.heap.size, 4, none⟩) (by simp; omega)).trans (cell_alloc_l _ k4)
    have HF3 := Lib.hid (HF2.out.trans (Fr.below hb2))
    clear hb2
    go_wp2_with fail
    refine bodyPost_ret (v := .agg #[.int .i64 0, .int .i64 0, .string ⟨#[]⟩, .slice none 0 0, .iface 94 (.agg #[.int .i64 (at0 + n), .iface 75 (.agg #[.int .i64 20])])]) (by simp [results, Tryz.results83, go_sem, k0, k1, k2, k3, k4]) rfl ⟨at0 + n, rfl, ?_⟩
    exact frNew (frNew (frNew (frNew (frNew HF3.out (Nat.le_refl _) _ _) (Nat.le_refl _) _ _) (Nat.le_refl _) _ _) (Nat.le_refl _) _ _) (Nat.le_refl _) _ _
end Go.Proofs.YtljfgchmogdljaaGreatDoor

/- An append of one item to a row of items of the call's own: the row's block is the old one, or a new one. -/
set_option linter.unusedVariables false
set_option linter.unusedSimpArgs false
namespace Go.Proofs.YtljfgchmogdljaaGreatDoor
open Go.RowKit

theorem it_info : (Tryz.prog.info? 24).map (fun i => (i.zero, i.size, i.bytes)) = some (some (.agg #[.int .i64 0, .int .i64 0, .string ⟨#[]⟩, .slice none 0 0]), 4, 56) := by kernel_rfl

/-- The run of an append: what wpList_append_own says, and that the row's block is the old one, or new. -/
theorem run_append_new {P : Program} (w : World) (base : Nat) (t ty e : TypeId) (i : TypeInfo) (z : Value) (size bytes : Nat) (ht : P.underlying t = some (.slice e)) (hi : P.info? e = some i) (hz : i.zero = some z)
    (hsize : i.size = size) (hby : i.bytes = bytes) (hzs : z.cells.size = size) (hsz : 0 < size)
    (v : Value) (n : Nat) (xs : List Value) (hown : w.ownsRow base e size v n xs)
    (a : Addr) (c : Nat) (news : List Value) (hl : news.length = 1 * size) (hnews : ∀ j u, news[j]? = some u → w.cell? (a.add j) = some u) (h1 : ∀ u ∈ news, u.oneCell' = true)
    (h63 : n + 1 ≤ maxLen) (hbytes : (n + 1) * bytes ≤ 140737488355328) (hbase : base ≤ w.heap.size) :
    ∃ v' w', (Builtin.append_ #[t, t] ty #[v, .slice (some a) 1 c]).run P w = .ok v' w' ∧ w'.ownsRow base e size v' (n + 1) (xs ++ news) ∧ w.grownBy w' v.ownBlock ∧ ∀ g, v'.ownBlock = some g → v.ownBlock = some g ∨ g = w.heap.size := by
  obtain ⟨v', w', hr, r1, r2, r3⟩ := run_append_own (P := P) w base t ty e i z size bytes ht hi hz hsize hby hzs hsz v n xs hown a 1 c news hl hnews h1 h63 hbytes hbase
  refine ⟨v', w', hr, r1, r2, fun g hg => ?_⟩
  have hn63 : n + 1 ≤ 9223372036854775807 := by simp only [maxLen] at h63; omega
  subst hsize
  subst hby
  rcases hown.2 with ⟨rfl, rfl⟩ | ⟨g0, cap, cur, rfl, hbg, hg0, hnc, hcm, hcs, htake⟩
  · have h := run_append_nil (P := P) w t ty e i z ht hi hz a 1 c news hl hnews (by omega) (by omega) (by have hb := hbytes; simp only [Nat.zero_add] at hb; omega)
    rw [h] at hr
    simp only [Result.ok.injEq] at hr
    obtain ⟨rfl, _⟩ := hr
    simp only [Value.ownBlock, Option.some.injEq] at hg
    exact .inr hg.symm
  · by_cases hroom : n + 1 ≤ cap
    · have hfit : n * i.size + news.length ≤ cur.size := by rw [hl, hcs, ← Nat.add_mul]; exact Nat.mul_le_mul_right _ hroom
      have h := run_append_room (P := P) w t ty e i ht hi g0 n cap cur hg0 a 1 c news hl hnews h1 hroom hfit
      rw [h] at hr
      simp only [Result.ok.injEq] at hr
      obtain ⟨rfl, _⟩ := hr
      exact .inl hg
    · have holds : ∀ j u, xs[j]? = some u → w.cell? ((⟨g0, 0, none⟩ : Addr).add j) = some u := hown.cells (g := g0) rfl
      have h := run_append_grow (P := P) w t ty e i z ht hi hz ⟨g0, 0, none⟩ n cap xs hown.1 holds a 1 c news hl hnews (by omega) (by omega) (growslice_fits (by omega) hbytes)
      rw [h] at hr
      simp only [Result.ok.injEq] at hr
      obtain ⟨rfl, _⟩ := hr
      simp only [Value.ownBlock, Option.some.injEq] at hg
      exact .inr hg.symm

theorem wpList_append_new {P : Program} (w : World) {ops : Array Oper} {rest : List Oper} {o : Oper} {a : Act} {Q : Exit → Act → World → Prop} (hgd : o.guard = none) (s x : Operand) (t : TypeId)
    (ho : o.op = .call { callee := .builtin .append, args := #[s, x], argTypes := #[t, t] })
    (base : Nat) (e : TypeId) (i : TypeInfo) (z : Value) (size bytes : Nat) (ht : P.underlying t = some (.slice e)) (hi : P.info? e = some i) (hz : i.zero = some z)
    (hsize : i.size = size) (hby : i.bytes = bytes) (hzs : z.cells.size = size) (hsz : 0 < size)
    (v : Value) (n : Nat) (xs : List Value) (hs : a.eval s = v) (hown : w.ownsRow base e size v n xs)
    (ad : Addr) (c : Nat) (news : List Value) (hx : a.eval x = .slice (some ad) 1 c) (hl : news.length = 1 * size) (hnews : ∀ j u, news[j]? = some u → w.cell? (ad.add j) = some u) (h1 : ∀ u ∈ news, u.oneCell' = true)
    (h63 : n + 1 ≤ maxLen) (hbytes : (n + 1) * bytes ≤ 140737488355328) (hbase : base ≤ w.heap.size)
    (h : ∀ v' w', w'.ownsRow base e size v' (n + 1) (xs ++ news) → w.grownBy w' v.ownBlock → (∀ g, v'.ownBlock = some g → v.ownBlock = some g ∨ g = w.heap.size) → wpList P ops Q rest (a.put o.dst v') w') : wpList P ops Q (o :: rest) a w := by
  refine wpList_plain hgd fun K hK => ?_
  obtain ⟨v', w', hr, h2, h3, h4⟩ := run_append_new (P := P) w base t o.type e i z size bytes ht hi hz hsize hby hzs hsz v n xs hown ad c news hl hnews h1 h63 hbytes hbase
  unfold Oper.wp execOp
  simp only [ho, resolve, invoke, builtin, Sem.run_bind, Sem.run_pure, Result.andThen_ok, List.map_toArray, List.map_cons, List.map_nil, hs, hx, hr]
  exact hK _ _ (h v' w' h2 h3 h4)
end Go.Proofs.YtljfgchmogdljaaGreatDoor

/- A reader's list while it is read: its row of items in memory, and what keeps it. -/
set_option linter.unusedVariables false
set_option linter.unusedSimpArgs false
namespace Go.Proofs.YtljfgchmogdljaaGreatDoor
open Go.RowKit

/-- A row of items that the call owns, at blocks from base on, the items' own rows in other blocks. -/
def RowM (base : Nat) (W : World) (v : Value) (xs : List Itm) : Prop := ∃ cs, W.ownsRow base 24 4 v xs.length cs ∧ ItRow (fun b => base ≤ b ∧ v.ownBlock ≠ some b) W xs cs

theorem RowM.nil (base : Nat) (W : World) : RowM base W (.slice none 0 0) [] := ⟨[], World.ownsRow_nil _ _ _ _, by simp [ItRow]⟩

/-- Where all blocks from base on stay. -/
theorem RowM.stay {base : Nat} {W W' : World} {v : Value} {xs : List Itm} (h : RowM base W v xs) (hg : W.grownBy W' none ∨ ∃ r, W.grownBy W' (some r) ∧ r < base) : RowM base W' v xs := by
  obtain ⟨cs, ho, hr⟩ := h
  have key : ∀ b, base ≤ b → b < W.heap.size → W'.heap[b]? = W.heap[b]? := by
    intro b hb hl
    rcases hg with hg | ⟨r, hg, hlt⟩
    · exact hg.block b hl (by simp)
    · exact hg.block b hl (by intro e; cases e; omega)
  refine ⟨cs, ?_, ItRow.keep (fun a u hk e => ⟨(cell_heap (key a.block hk.1 (World.block_lt_of_cell? _ _ e))).trans e, hk⟩) hr⟩
  rcases hg with hg | ⟨r, hg, hlt⟩
  · refine ho.kept hg ?_
    by_cases e : v.ownBlock = none
    · exact .inl e
    · exact .inr e
  · refine ho.kept hg ?_
    by_cases e : v.ownBlock = some r
    · have := (ho.lt r e).1
      omega
    · exact .inr e

/-- Behind an append of an item whose rows lie in blocks that were new when it was read. -/
theorem RowM.append {base n : Nat} {W W1 : World} {v v' : Value} {xs : List Itm} {x : Itm} {c0 c1 c2 c3 : Value} (h : RowM base W v xs) (hn : base ≤ n) (hvn : ∀ g, v.ownBlock = some g → g < n) (hnW : n ≤ W.heap.size)
    (hx : ItV (fun b => n ≤ b) W x (.agg #[c0, c1, c2, c3])) {cs : List Value} (hcs : W.ownsRow base 24 4 v xs.length cs) (hr : ItRow (fun b => base ≤ b ∧ v.ownBlock ≠ some b) W xs cs)
    (hown : W1.ownsRow base 24 4 v' (xs.length + 1) (cs ++ [c0, c1, c2, c3])) (hg : W.grownBy W1 v.ownBlock) (hf : ∀ g, v'.ownBlock = some g → v.ownBlock = some g ∨ g = W.heap.size) : RowM base W1 v' (xs ++ [x]) := by
  have key : ∀ (a : Addr) (u : Value), v.ownBlock ≠ some a.block → W.cell? a = some u → W1.cell? a = some u ∧ v'.ownBlock ≠ some a.block := fun a u hne e => by
    have hl := World.block_lt_of_cell? _ _ e
    refine ⟨(cell_heap (hg.block a.block hl (fun e' => hne e'.symm))).trans e, fun e' => ?_⟩
    rcases hf _ e' with h1 | h1
    · exact hne h1
    · omega
  refine ⟨cs ++ [c0, c1, c2, c3], by simpa using hown, ?_⟩
  refine ItRow.snoc ?_ (ItRow.keep (fun a u hk e => ⟨(key a u hk.2 e).1, hk.1, (key a u hk.2 e).2⟩) hr)
  refine ItV.keep (fun a u hk e => ?_) x _ hx
  have hne : v.ownBlock ≠ some a.block := fun e' => by have := hvn _ e'; omega
  exact ⟨(key a u hne e).1, Nat.le_trans hn hk, (key a u hne e).2⟩

/-- The row that was read is a list of items. -/
theorem RowM.list {base : Nat} {W : World} {v : Value} {xs : List Itm} (h : RowM base W v xs) : ∃ (p : Option Addr) (cap : Nat), v = .slice p xs.length cap ∧ xs.length ≤ cap ∧ cap ≤ maxLen ∧ ItsV (fun b => base ≤ b) W xs p 0 := by
  obtain ⟨cs, ho, hr⟩ := h
  exact ItRow.list ho (ItRow.keep (fun a u hk e => ⟨e, hk.1⟩) hr) (fun b hb => hb)

/-- Reading so many items in all is reading some, and then the others. -/
theorem rdN_add (f : Nat → List UInt8 → Except Int (Itm × List UInt8 × Nat)) : ∀ (k m c : Nat) (l : List UInt8), rdN f (k + m) c l = match rdN f k c l with
    | .error e => .error e
    | .ok (xs, r, c') => match rdN f m c' r with
      | .error e => .error e
      | .ok (ys, r', c'') => .ok (xs ++ ys, r', c'')
  | 0, m, c, l => by
    simp only [Nat.zero_add, rdN, List.nil_append]
    cases rdN f m c l with
    | error e => rfl
    | ok t => obtain ⟨ys, r, c'⟩ := t; rfl
  | k + 1, m, c, l => by
    rw [show k + 1 + m = (k + m) + 1 by omega, rdN, rdN]
    cases h1 : f c l with
    | error e => rfl
    | ok t =>
      obtain ⟨x, r, c1⟩ := t
      simp only
      rw [rdN_add f k m c1 r]
      cases h2 : rdN f k c1 r with
      | error e => rfl
      | ok t2 =>
        obtain ⟨xs, r2, c2⟩ := t2
        simp only
        cases h3 : rdN f m c2 r2 with
        | error e => rfl
        | ok t3 => obtain ⟨ys, r3, c3⟩ := t3; rfl
theorem rdN_one (f : Nat → List UInt8 → Except Int (Itm × List UInt8 × Nat)) (c : Nat) (l : List UInt8) : rdN f 1 c l = match f c l with
    | .error e => .error e
    | .ok (x, r, c') => .ok ([x], r, c') := by
  rw [rdN]
  cases f c l with
  | error e => rfl
  | ok t => obtain ⟨x, r, c'⟩ := t; rfl
/-- One item more. -/
theorem rdN_snoc {f : Nat → List UInt8 → Except Int (Itm × List UInt8 × Nat)} {k c c' c'' : Nat} {l r r' : List UInt8} {xs : List Itm} {x : Itm} (h : rdN f k c l = .ok (xs, r, c')) (h2 : f c' r = .ok (x, r', c'')) : rdN f (k + 1) c l = .ok (xs ++ [x], r', c'') := by
  rw [rdN_add, h]
  simp only
  rw [rdN_one, h2]
/-- What is wrong with one is wrong with all. -/
theorem rdN_err {f : Nat → List UInt8 → Except Int (Itm × List UInt8 × Nat)} {k n c c' : Nat} {l r : List UInt8} {xs : List Itm} {e : Int} (hk : k < n) (h : rdN f k c l = .ok (xs, r, c')) (h2 : f c' r = .error e) : rdN f n c l = .error e := by
  obtain ⟨m, rfl⟩ : ∃ m, n = k + (m + 1) := ⟨n - k - 1, by omega⟩
  rw [rdN_add, h]
  simp only
  rw [rdN, h2]
end Go.Proofs.YtljfgchmogdljaaGreatDoor

/- A reader's list of package item, over any contract of next one deeper. -/
set_option linter.unusedVariables false
set_option linter.unusedSimpArgs false
namespace Go.Proofs.YtljfgchmogdljaaGreatDoor
open Go.RowKit

theorem heap_frozen {W : World} {B : Nat} {cs : Array Value} {t : TypeId} (h : W.heap[B]? = some (.cells cs t (0, 0))) (i : Nat) : W.frozen? ⟨B, i, none⟩ = false := by
  unfold World.frozen?
  rw [h]
  simp
theorem heap_set {W : World} {B : Nat} {cs : Array Value} {t : TypeId} (h : W.heap[B]? = some (.cells cs t (0, 0))) (i : Nat) (v : Value) : (W.setCell ⟨B, i, none⟩ v).heap[B]? = some (.cells (cs.setIfInBounds i v) t (0, 0)) := by
  obtain ⟨hlt, hk⟩ := Array.getElem?_eq_some_iff.1 h
  show (W.heap.modify B _)[B]? = _
  rw [Array.getElem?_eq_getElem (by rw [Array.size_modify]; exact hlt), Array.getElem_modify_self, hk]
  rfl

theorem frGrow {R : Nat} {w A B : World} {row : Option Nat} (h : Fr R w A) (hg : A.grownBy B row) (hr : ∀ g, row = some g → w.heap.size ≤ g) : Fr R w B :=
  ⟨hg.os.trans h.os, hg.tape.trans h.tape, hg.output.trans h.output, Nat.le_trans h.size hg.size, fun k hk hne => (hg.block k (Nat.lt_of_lt_of_le hk h.size) (fun e => by have := hr k e.symm; omega)).trans (h.block k hk hne)⟩

/-- What head starts from lies below the reader. -/
def HeadB (R : Nat) (W : World) : Prop := ∃ u, HeadOK u ∧ Below u.heap.size u W ∧ u.heap.size ≤ R
theorem HeadB.ok {R : Nat} {W : World} (h : HeadB R W) : HeadOK W := by
  obtain ⟨u, h1, h2, _⟩ := h
  exact h1.below h2
theorem HeadB.fr {R : Nat} {W W' : World} (h : HeadB R W) (hF : Fr R W W') (hR : R ≤ W.heap.size) : HeadB R W' := by
  obtain ⟨u, h1, h2, h3⟩ := h
  exact ⟨u, h1, h2.trans ((hF.toBelow hR).mono h3), h3⟩

/-- A list while it is read: the answer's box, the item's, its row. -/
structure LM (R : Nat) (s : ByteArray) (i c d : Int) (w : World) (v : Value) (xs : List Itm) (wr : World) : Prop where
  rd : RdS R s i c d wr
  a0 : wr.heap[w.heap.size]? = some (.cells #[.int .i64 0, .int .i64 0, .string ⟨#[]⟩, .slice none 0 0, .nilIface] 63 (0, 0))
  a1 : wr.heap[w.heap.size + 1]? = some (.cells #[.int .i64 4, .int .i64 0, .string ⟨#[]⟩, v] 24 (0, 0))
  row : RowM (w.heap.size + 1 + 1) wr v xs
  fr : Fr R w wr

/-- What next answers, of what is read: f: how much deeper it may be. -/
def NextR (R : Nat) (s : ByteArray) (i c d f : Nat) (w : World) (e' : Ending) (w' : World) : Prop :=
  match rd f c (s.data.toList.drop i) with
  | .error e => ∃ p, e' = .returned (badA (placedV p e)) ∧ Fr R w w'
  | .ok (x, r, c') => ∃ (k n : Int) (q : ByteArray) (p : Option Addr) (m cap : Nat), e' = .returned (.agg #[.int .i64 k, .int .i64 n, .string q, .slice p m cap, .nilIface]) ∧ ItV (fun b => w.heap.size ≤ b) w' x (.agg #[.int .i64 k, .int .i64 n, .string q, .slice p m cap]) ∧ RdS R s ((s.size - r.length : Nat) : Int) (c' : Int) (d : Int) w' ∧ Fr R w w'
/-- What list answers. -/
def ListR (R : Nat) (s : ByteArray) (i c d f n : Nat) (w : World) (e' : Ending) (w' : World) : Prop :=
  match rdN (rd f) n c (s.data.toList.drop i) with
  | .error e => ∃ p, e' = .returned (badA (placedV p e)) ∧ Fr R w w'
  | .ok (xs, r, c') => ∃ (p : Option Addr) (cap : Nat), e' = .returned (.agg #[.int .i64 4, .int .i64 0, .string ⟨#[]⟩, .slice p xs.length cap, .nilIface]) ∧ ItV (fun b => w.heap.size ≤ b) w' (.mk 4 0 [] xs) (.agg #[.int .i64 4, .int .i64 0, .string ⟨#[]⟩, .slice p xs.length cap]) ∧ RdS R s ((s.size - r.length : Nat) : Int) (c' : Int) (d : Int) w' ∧ Fr R w w'

theorem rdN_sfx (f : Nat) : ∀ (n c : Nat) (l : List UInt8) (xs : List Itm) (r : List UInt8) (c' : Nat), c ≤ 60 → rdN (rd f) n c l = .ok (xs, r, c') → r <:+ l ∧ c' ≤ 60 ∧ xs.length = n ∧ c' = c + cnts xs := by
  intro n
  induction n with
  | zero =>
    intro c l xs r c' hc h
    simp only [rdN, Except.ok.injEq, Prod.mk.injEq] at h
    obtain ⟨rfl, rfl, rfl⟩ := h
    exact ⟨List.suffix_refl _, hc, rfl, by simp [cnts]⟩
  | succ n ih =>
    intro c l xs r c' hc h
    rw [rdN] at h
    cases h1 : rd f c l with
    | error e => rw [h1] at h; cases h
    | ok y =>
      obtain ⟨y, r1, c1⟩ := y
      rw [h1] at h
      simp only [] at h
      cases h2 : rdN (rd f) n c1 r1 with
      | error e => rw [h2] at h; cases h
      | ok ys =>
        obtain ⟨ys, r2, c2⟩ := ys
        rw [h2] at h
        simp only [Except.ok.injEq, Prod.mk.injEq] at h
        obtain ⟨rfl, rfl, rfl⟩ := h
        obtain ⟨a1, a2, a3, a4, a5⟩ := rd_back _ _ _ _ _ _ h1
        obtain ⟨b1, b2, b3, b4⟩ := ih _ _ _ _ _ a4 h2
        exact ⟨b1.trans ⟨_, a5.symm⟩, b2, by simp [b3], by simp only [cnts]; omega⟩
theorem sfx_drop {r S : List UInt8} {i : Nat} (h : r <:+ S.drop i) : r = S.drop (S.length - r.length) ∧ r.length ≤ S.length := by
  have h2 : r <:+ S := h.trans (List.drop_suffix i S)
  exact ⟨List.suffix_iff_eq_drop.1 h2, h2.length_le⟩

set_option maxRecDepth 100000 in
set_option maxHeartbeats 4000000 in
theorem list_any (f : Nat) (R : Nat) (s : ByteArray) (i c d n : Nat) (w : World) (hH : HeadB R w) (hS : RdS R s (i : Int) (c : Int) (d : Int) w) (hs : s.size ≤ 1000000) (hi : i ≤ s.size) (hc : c ≤ 60) (hd : d ≤ 6) (hn : n ≤ 281474976710655)
    (ih : ∀ (i c : Nat) (W : World), HeadB R W → RdS R s (i : Int) (c : Int) ((d + 1 : Nat) : Int) W → i ≤ s.size → c ≤ 60 → Calls Tryz.prog 43 #[.pointer (some ⟨R, 0, none⟩)] W (NextR R s i c (d + 1) f W)) :
    Calls Tryz.prog 84 #[.pointer (some ⟨R, 0, none⟩), .int .i64 (n : Int)] w (ListR R s i c d f n w) := by
  have hl := hS.lt
  have IH := Lib.hid ih
  have HH := Lib.hid hH
  have hS2 := (hS.below ((Below.refl _ _).alloc (Nat.le_refl _) (.cells #[.int .i64 0, .int .i64 0, .string ⟨#[]⟩, .slice none 0 0, .nilIface] 63))).below ((Below.refl _ _).alloc (Nat.le_refl _) (.cells #[.int .i64 4, .int .i64 0, .string ⟨#[]⟩, .slice none 0 0] 24))
  have r3 := hS2.c3
  have q3 := hS2.f3
  have hL0 : LM R s (i : Int) (c : Int) ((d : Int) + 1) w (.slice none 0 0) [] (((w.setCell ⟨R, 3, none⟩ (.int .i64 ((d : Int) + 1))).alloc (.cells #[.int .i64 0, .int .i64 0, .string ⟨#[]⟩, .slice none 0 0, .nilIface] 63)).alloc (.cells #[.int .i64 4, .int .i64 0, .string ⟨#[]⟩, .slice none 0 0] 24)) := by
    refine ⟨((hS.deep ((d : Int) + 1)).below ((Below.refl _ _).alloc (Nat.le_refl _) _)).below ((Below.refl _ _).alloc (Nat.le_refl _) _), ?_, ?_, RowM.nil _ _, frAlloc (frAlloc (Fr.set R 3 w _) _) _⟩
    · have := World.alloc_heap_new (w.setCell ⟨R, 3, none⟩ (.int .i64 ((d : Int) + 1))) (.cells #[.int .i64 0, .int .i64 0, .string ⟨#[]⟩, .slice none 0 0, .nilIface] 63)
      rw [show (w.setCell ⟨R, 3, none⟩ (.int .i64 ((d : Int) + 1))).heap.size = w.heap.size by simp] at this
      exact (Below.heap_alloc _ _ _ (by simp)).trans this
    · have := World.alloc_heap_new ((w.setCell ⟨R, 3, none⟩ (.int .i64 ((d : Int) + 1))).alloc (.cells #[.int .i64 0, .int .i64 0, .string ⟨#[]⟩, .slice none 0 0, .nilIface] 63)) (.cells #[.int .i64 4, .int .i64 0, .string ⟨#[]⟩, .slice none 0 0] 24)
      rw [show ((w.setCell ⟨R, 3, none⟩ (.int .i64 ((d : Int) + 1))).alloc (.cells #[.int .i64 0, .int .i64 0, .string ⟨#[]⟩, .slice none 0 0, .nilIface] 63)).heap.size = w.heap.size + 1 by simp] at this
      exact this
  have HL0 := Lib.hid hL0
  clear ih hH hS hS2 hL0
  go_enter Tryz.func84, Tryz.ntmps84
  go_wp2_with fail
  clear r3 q3
  generalize (((w.setCell ⟨R, 3, none⟩ (.int .i64 ((d : Int) + 1))).alloc (.cells #[.int .i64 0, .int .i64 0, .string ⟨#[]⟩, .slice none 0 0, .nilIface] 63)).alloc (.cells #[.int .i64 4, .int .i64 0, .string ⟨#[]⟩, .slice none 0 0] 24)) = w0 at *
  go_loopw [16] (fun ii wr => ∃ (j : Nat) (xs : List Itm) (r : List UInt8) (c' : Nat) (v : Value), j ≤ n ∧ ii = .int .i64 (j : Int) ∧ rdN (rd f) j c (s.data.toList.drop i) = .ok (xs, r, c') ∧ LM R s ((s.size - r.length : Nat) : Int) (c' : Int) ((d : Int) + 1) w v xs wr) (fun ii _ => n - (intOf ii).toNat)
  case atStart =>
    refine ⟨0, [], s.data.toList.drop i, c, .slice none 0 0, Nat.zero_le _, rfl, rfl, ?_⟩
    have e : s.size - (s.data.toList.drop i).length = i := by
      rw [List.length_drop, Array.length_toList]
      show s.size - (s.size - i) = i
      omega
    rw [e]
    exact HL0.out
  case round =>
    obtain ⟨j, xs, r, c', v, hj, rfl, hrd, hM⟩ := hrel
    obtain ⟨hsf, hc6, hxl, hcc⟩ := rdN_sfx f j c _ xs r c' hc hrd
    obtain ⟨hrs, hrl⟩ := sfx_drop hsf
    rw [Array.length_toList] at hrs hrl
    have HRD := Lib.hid hrd
    have hRl := hM.rd.lt
    have HMM := Lib.hid hM
    by_cases hlt : j < n
    · have HN := IH.out (s.size - r.length) c' wr (HH.out.fr hM.fr (by omega)) (by rw [show ((d + 1 : Nat) : Int) = (d : Int) + 1 by omega]; exact hM.rd) (Nat.sub_le _ _) hc6
      unfold NextR at HN
      rw [show s.data.toList.drop (s.size - r.length) = r from hrs.symm] at HN
      have HX := Lib.hid hxl
      clear hsf hrd hrs hrl hM hxl
      cases hr : rd f c' r with
      | error e =>
        have HE := Lib.hid (rdN_err hlt HRD.out hr)
        rw [hr] at HN
        have HNN := Lib.hid HN
        clear HN hr
        go_wp2_with fail
        refine HNN.out.mono ?_
        clear HNN
        unfold badA placedV
        rintro e' w1 ⟨p, rfl, hF1⟩
        have hA0 := (hF1.block _ (lt_of_heap HMM.out.a0) (by intro e; cases e; omega)).trans HMM.out.a0
        have k0 := heap_cell hA0 0 _ rfl
        have f0 := heap_frozen hA0 0
        have k1 := heap_cell hA0 1 _ rfl
        have f1 := heap_frozen hA0 1
        have k2 := heap_cell hA0 2 _ rfl
        have f2 := heap_frozen hA0 2
        have k3 := heap_cell hA0 3 _ rfl
        have f3 := heap_frozen hA0 3
        have k4 := heap_cell hA0 4 _ rfl
        have f4 := heap_frozen hA0 4
        have hz1 : w.heap.size < w1.heap.size := lt_of_heap hA0
        have HF := Lib.hid (HMM.out.fr.trans hF1)
        clear hF1 hA0 HMM
        go_wp2_with fail
        refine bodyPost_ret (v := .agg #[.int .i64 0, .int .i64 0, .string ⟨#[]⟩, .slice none 0 0, .iface 94 (.agg #[.int .i64 p, .iface 75 (.agg #[.int .i64 e])])]) (by simp [results, Tryz.results84, go_sem, hz1, Nat.lt_succ_of_lt hz1, Nat.ne_of_lt hz1, k0, k1, k2, k3, k4]) rfl ?_
        unfold ListR
        rw [HE.out]
        exact ⟨p, rfl, frAlloc (frNew (frNew (frNew (frNew (frNew HF.out (Nat.le_refl _) _ _) (Nat.le_refl _) _ _) (Nat.le_refl _) _ _) (Nat.le_refl _) _ _) (Nat.le_refl _) _ _) _⟩
      | ok t =>
        obtain ⟨x, r', c''⟩ := t
        have HE := Lib.hid (rdN_snoc HRD.out hr)
        rw [hr] at HN
        have HNN := Lib.hid HN
        clear HN hr
        go_wp2_with fail
        refine HNN.out.mono ?_
        clear HNN
        rintro e' w1 ⟨k, nn, q, p, m, cap, rfl, hxv, hS1, hF1⟩
        have hA1 := (hF1.block _ (lt_of_heap HMM.out.a1) (by intro e; cases e; omega)).trans HMM.out.a1
        have hA0 := (hF1.block _ (lt_of_heap HMM.out.a0) (by intro e; cases e; omega)).trans HMM.out.a0
        have hz1 : w.heap.size + 1 < w1.heap.size := lt_of_heap hA1
        have hz1n : w.heap.size + 1 ≠ w1.heap.size := by omega
        have x3 := heap_cell hA1 3 _ rfl
        have y3 := heap_frozen hA1 3
        have hB3 : Below w1.heap.size w1 ((w1.alloc (.cells #[.int .i64 k, .int .i64 nn, .string q, .slice p m cap, .nilIface] 63)).alloc (.cells #[.int .i64 k, .int .i64 nn, .string q, .slice p m cap] 24)) := ((Below.refl _ _).alloc (Nat.le_refl _) _).alloc (by simp) _
        have hrow3 := (HMM.out.row.stay (.inr ⟨R, hF1, by omega⟩)).stay (.inl ⟨hB3.os, hB3.tape, hB3.output, hB3.size, fun b hb _ => hB3.block b hb⟩)
        obtain ⟨cs, hown3, hr3⟩ := id hrow3
        have hvn : ∀ g, v.ownBlock = some g → g < wr.heap.size := fun g hg => by obtain ⟨cs', ho', _⟩ := HMM.out.row; exact (ho'.lt g hg).2
        obtain ⟨i0, hi0, hz0, hzs, hzb⟩ := info_parts it_info
        have hxs : xs.length ≤ 60 := by have := cnts_length xs; omega
        have HX3 := Lib.hid (hxv.below hB3)
        have HS3 := Lib.hid (hS1.below hB3)
        have HF3 := Lib.hid ((HMM.out.fr.trans hF1).trans (Fr.below hB3))
        have HA0 := Lib.hid ((hB3.block _ (by omega)).trans hA0)
        have HA1 := Lib.hid ((hB3.block _ hz1).trans hA1)
        have HROW := Lib.hid hrow3
        have HR3 := Lib.hid hr3
        have hsW : wr.heap.size ≤ w1.heap.size := hF1.size
        have hbW : w.heap.size + 1 + 1 ≤ wr.heap.size := by have := lt_of_heap HMM.out.a1; omega
        clear hxv hS1 hF1 hA0 hA1 hB3 hrow3 hr3 HMM HRD
        go_wp2_with (at_builtin; refine wpList_append_new _ rfl _ _ 22 rfl (w.heap.size + 1 + 1) 24 i0 (.agg #[.int .i64 0, .int .i64 0, .string ⟨#[]⟩, .slice none 0 0]) 4 56 Tryz.underlying22 hi0 hz0 hzs hzb rfl (by decide) _ _ _ rfl hown3 ⟨w1.heap.size + 1, 0, none⟩ 1 [.int .i64 k, .int .i64 nn, .string q, .slice p m cap] rfl rfl ?c1 ?c2 ?c3 ?c4 ?c5 ?_)
        case c1 =>
          intro j' u hj'
          rw [base_add]
          rcases j' with _ | _ | _ | _ | j' <;> simp at hj'
          all_goals (subst hj'; go_simp)
        case c2 =>
          intro u hu
          simp only [List.mem_cons, List.not_mem_nil, or_false] at hu
          rcases hu with rfl | rfl | rfl | rfl <;> rfl
        case c3 => unfold maxLen; omega
        case c4 => omega
        case c5 => simp; omega
        intro v' w4 hown4 hg4 hf4
        have hne : ∀ b, b < w.heap.size + 1 + 1 → some b ≠ v.ownBlock := fun b hb e => by have := (hown3.lt b e.symm).1; omega
        have hRowN := HROW.out.append (n := wr.heap.size) hbW hvn (by simp; omega) (ItV.mono HX3.out (fun b _ hb => hb)) hown3 HR3.out (v' := v') hown4 hg4 (fun g hg => by have := hf4 g hg; simpa using this)
        have hA14 := (hg4.block _ (lt_of_heap HA1.out) (hne _ (by omega))).trans HA1.out
        have hA04 := (hg4.block _ (lt_of_heap HA0.out) (hne _ (by omega))).trans HA0.out
        have hS4 := HS3.out.heap (hg4.block R HS3.out.lt (hne _ (by omega)))
        have hF4 := frGrow HF3.out hg4 (fun g hg => by have := (hown3.lt g hg).1; omega)
        obtain ⟨g4, cap4, rfl⟩ := ownsRow_pos hown4 (by omega)
        have x4 := heap_cell hA14 3 _ rfl
        have y4 := heap_frozen hA14 3
        have HM5 : LM R s ((s.size - r'.length : Nat) : Int) (c'' : Int) ((d : Int) + 1) w (.slice (some ⟨g4, 0, none⟩) (xs.length + 1) cap4) (xs ++ [x]) (w4.setCell ⟨w.heap.size + 1, 3, none⟩ (.slice (some ⟨g4, 0, none⟩) (xs.length + 1) cap4)) := by
          refine ⟨?_, (Below.heap_setCell _ _ _ _ (by simp)).trans hA04, heap_set hA14 3 _, hRowN.stay (.inr ⟨w.heap.size + 1, Fr.set (w.heap.size + 1) 3 w4 _, by omega⟩), frNew hF4 (by omega) _ _⟩
          have := hS4.other (b := w.heap.size + 1) (by omega) 3 (.slice (some ⟨g4, 0, none⟩) (xs.length + 1) cap4)
          rw [show ((d + 1 : Nat) : Int) = (d : Int) + 1 by omega] at this
          exact this
        have HM := Lib.hid HM5
        clear HM5 hown4 hg4 hf4 hRowN hA14 hA04 hS4 hF4 hown3 x3 y3 hne hvn
        go_wp2_with fail
        go_roundw
        case rel => exact ⟨j + 1, _, _, _, _, by omega, by go_num, HE.out, HM.out⟩
        case measure => simp [intOf]; omega
    · obtain rfl : j = n := by omega
      obtain ⟨p, cap, rfl, hpc, hpm, _⟩ := hM.row.list
      have x0 := heap_cell hM.a1 0 _ rfl
      have x1 := heap_cell hM.a1 1 _ rfl
      have x2 := heap_cell hM.a1 2 _ rfl
      have x3 := heap_cell hM.a1 3 _ rfl
      have r3 := hM.rd.c3
      have q3 := hM.rd.f3
      have hzA := lt_of_heap hM.a1
      have hRA : w.heap.size + 1 ≠ R := by omega
      have hRA0 : w.heap.size ≠ R := by omega
      have k0 := heap_cell hM.a0 0 _ rfl
      have f0 := heap_frozen hM.a0 0
      have k1 := heap_cell hM.a0 1 _ rfl
      have f1 := heap_frozen hM.a0 1
      have k2 := heap_cell hM.a0 2 _ rfl
      have f2 := heap_frozen hM.a0 2
      have k3 := heap_cell hM.a0 3 _ rfl
      have f3 := heap_frozen hM.a0 3
      have k4 := heap_cell hM.a0 4 _ rfl
      have f4 := heap_frozen hM.a0 4
      clear hsf hrd hrs hrl hM
      go_wp2_with fail
      refine (igoodi_any _ _ _ _ _ _ _).mono ?_
      rintro e w6 ⟨rfl, hb6⟩
      replace f0 := (hb6.frozen (p := ⟨w.heap.size, 0, none⟩) (by simp; omega)).trans ((frozen_heap (p := ⟨w.heap.size, 0, none⟩) (Below.heap_setCell _ _ _ _ (by show w.heap.size ≠ R; omega))).trans f0)
      replace k0 := (hb6.cell (p := ⟨w.heap.size, 0, none⟩) (by simp; omega)).trans ((cell_heap (p := ⟨w.heap.size, 0, none⟩) (Below.heap_setCell _ _ _ _ (by show w.heap.size ≠ R; omega))).trans k0)
      replace f1 := (hb6.frozen (p := ⟨w.heap.size, 1, none⟩) (by simp; omega)).trans ((frozen_heap (p := ⟨w.heap.size, 1, none⟩) (Below.heap_setCell _ _ _ _ (by show w.heap.size ≠ R; omega))).trans f1)
      replace k1 := (hb6.cell (p := ⟨w.heap.size, 1, none⟩) (by simp; omega)).trans ((cell_heap (p := ⟨w.heap.size, 1, none⟩) (Below.heap_setCell _ _ _ _ (by show w.heap.size ≠ R; omega))).trans k1)
      replace f2 := (hb6.frozen (p := ⟨w.heap.size, 2, none⟩) (by simp; omega)).trans ((frozen_heap (p := ⟨w.heap.size, 2, none⟩) (Below.heap_setCell _ _ _ _ (by show w.heap.size ≠ R; omega))).trans f2)
      replace k2 := (hb6.cell (p := ⟨w.heap.size, 2, none⟩) (by simp; omega)).trans ((cell_heap (p := ⟨w.heap.size, 2, none⟩) (Below.heap_setCell _ _ _ _ (by show w.heap.size ≠ R; omega))).trans k2)
      replace f3 := (hb6.frozen (p := ⟨w.heap.size, 3, none⟩) (by simp; omega)).trans ((frozen_heap (p := ⟨w.heap.size, 3, none⟩) (Below.heap_setCell _ _ _ _ (by show w.heap.size ≠ R; omega))).trans f3)
      replace k3 := (hb6.cell (p := ⟨w.heap.size, 3, none⟩) (by simp; omega)).trans ((cell_heap (p := ⟨w.heap.size, 3, none⟩) (Below.heap_setCell _ _ _ _ (by show w.heap.size ≠ R; omega))).trans k3)
      replace f4 := (hb6.frozen (p := ⟨w.heap.size, 4, none⟩) (by simp; omega)).trans ((frozen_heap (p := ⟨w.heap.size, 4, none⟩) (Below.heap_setCell _ _ _ _ (by show w.heap.size ≠ R; omega))).trans f4)
      replace k4 := (hb6.cell (p := ⟨w.heap.size, 4, none⟩) (by simp; omega)).trans ((cell_heap (p := ⟨w.heap.size, 4, none⟩) (Below.heap_setCell _ _ _ _ (by show w.heap.size ≠ R; omega))).trans k4)
      have hd0 : (d : Int) + 1 - 1 = (d : Int) := by omega
      have HS6 := Lib.hid ((HMM.out.rd.deep (d : Int)).below hb6)
      have HF6 := Lib.hid ((HMM.out.fr.trans (Fr.set R 3 _ _)).trans (Fr.below hb6))
      have HR6 := Lib.hid ((HMM.out.row.stay (.inr ⟨R, Fr.set R 3 wr (.int .i64 (d : Int)), by omega⟩)).stay (.inl ⟨hb6.os, hb6.tape, hb6.output, hb6.size, fun b hb _ => hb6.block b hb⟩))
      clear hb6
      go_wp2_with fail
      refine bodyPost_ret (v := .agg #[.int .i64 4, .int .i64 0, .string ⟨#[]⟩, .slice p j cap, .nilIface]) (by simp [results, Tryz.results84, go_sem, k0, k1, k2, k3, k4]) rfl ?_
      unfold ListR
      rw [HRD.out]
      have e6 : ∀ (W : World) (o : Nat) (v : Value), RowM (w.heap.size + 1 + 1) W (.slice p xs.length cap) xs → RowM (w.heap.size + 1 + 1) (W.setCell ⟨w.heap.size, o, none⟩ v) (.slice p xs.length cap) xs := fun W o v h => h.stay (.inr ⟨w.heap.size, Fr.set w.heap.size o W v, by omega⟩)
      refine ⟨p, cap, by rw [hxl], ?_, ?_, ?_⟩
      · obtain ⟨p', cap', e, _, _, hits⟩ := (e6 _ 4 .nilIface (e6 _ 3 (.slice p j cap) (e6 _ 2 (.string ⟨#[]⟩) (e6 _ 1 (.int .i64 0) (e6 _ 0 (.int .i64 4) HR6.out))))).list
        simp only [Value.slice.injEq] at e
        obtain ⟨rfl, _, rfl⟩ := e
        simp only [ItV]
        exact ⟨p, cap, rfl, hpc, hpm, by simp, by decide, by decide, ItsV.mono hits (fun b _ hb => by omega)⟩
      · exact ((((HS6.out.other hRA0 _ _).other hRA0 _ _).other hRA0 _ _).other hRA0 _ _).other hRA0 _ _
      · exact frNew (frNew (frNew (frNew (frNew HF6.out (Nat.le_refl _) _ _) (Nat.le_refl _) _ _) (Nat.le_refl _) _ _) (Nat.le_refl _) _ _) (Nat.le_refl _) _ _
end Go.Proofs.YtljfgchmogdljaaGreatDoor

/- A reader's next of package item: the item that stands at the place, with all that is in it. -/
set_option linter.unusedVariables false
set_option linter.unusedSimpArgs false
namespace Go.Proofs.YtljfgchmogdljaaGreatDoor
open Go.RowKit

set_option maxRecDepth 100000 in
set_option maxHeartbeats 2000000 in
theorem next_full (R : Nat) (s : ByteArray) (at0 : Int) (c d : Nat) (w : World) (hS : RdS R s at0 (c : Int) (d : Int) w) (hc : c ≤ 60) (hd : d ≤ 7) (h : 60 ≤ c ∨ 7 ≤ d) :
    Calls Tryz.prog 43 #[.pointer (some ⟨R, 0, none⟩)] w fun e' w' => e' = .returned (badA (placedV at0 40)) ∧ Fr R w w' := by
  have hl := hS.lt
  have r2 := hS.c2
  have q2 := hS.f2
  have r3 := hS.c3
  have hS1 := (hS.count ((c : Int) + 1)).below ((Below.refl _ _).alloc (Nat.le_refl _) (.cells #[.int .i64 0, .int .i64 0, .string ⟨#[]⟩, .slice none 0 0, .nilIface] 63))
  have hF1 : Fr R w ((w.setCell ⟨R, 2, none⟩ (.int .i64 ((c : Int) + 1))).alloc (.cells #[.int .i64 0, .int .i64 0, .string ⟨#[]⟩, .slice none 0 0, .nilIface] 63)) := frAlloc (Fr.set R 2 w _) _
  have hA0 : ((w.setCell ⟨R, 2, none⟩ (.int .i64 ((c : Int) + 1))).alloc (.cells #[.int .i64 0, .int .i64 0, .string ⟨#[]⟩, .slice none 0 0, .nilIface] 63)).heap[w.heap.size]? = some (.cells #[.int .i64 0, .int .i64 0, .string ⟨#[]⟩, .slice none 0 0, .nilIface] 63 (0, 0)) := by
    have := World.alloc_heap_new (w.setCell ⟨R, 2, none⟩ (.int .i64 ((c : Int) + 1))) (.cells #[.int .i64 0, .int .i64 0, .string ⟨#[]⟩, .slice none 0 0, .nilIface] 63)
    rw [show (w.setCell ⟨R, 2, none⟩ (.int .i64 ((c : Int) + 1))).heap.size = w.heap.size by simp] at this
    exact this
  have hRne : w.heap.size ≠ R := by omega
  have HS1 := Lib.hid hS1
  have HF1 := Lib.hid hF1
  have HA0 := Lib.hid hA0
  have hw : ∃ b1 b2 : Bool, decide (60 < (c : Int) + 1) = b1 ∧ decide (6 < (d : Int)) = b2 ∧ (b1 = true ∨ b1 = false ∧ b2 = true) := ⟨_, _, rfl, rfl, by simp; omega⟩
  obtain ⟨b1, b2, hb1, hb2, hb⟩ := hw
  clear hS hS1 hF1 hA0 h
  unfold badA
  rcases hb with rfl | ⟨rfl, rfl⟩
  all_goals
    go_enter Tryz.func43, Tryz.ntmps43
    go_wp2_with fail
    refine (wrong_any R s at0 ((c : Int) + 1) (d : Int) 40 _ HS1.out).mono ?_
    rintro e' w' ⟨rfl, rfl⟩
    unfold placedV
    go_wp2_with fail
    refine (ibadi_any _ _ _).mono ?_
    rintro e w1 ⟨rfl, hb1⟩
    have hA1 := (hb1.block _ (lt_of_heap HA0.out)).trans HA0.out
    have k0 := heap_cell hA1 0 _ rfl
    have f0 := heap_frozen hA1 0
    have k1 := heap_cell hA1 1 _ rfl
    have f1 := heap_frozen hA1 1
    have k2 := heap_cell hA1 2 _ rfl
    have f2 := heap_frozen hA1 2
    have k3 := heap_cell hA1 3 _ rfl
    have f3 := heap_frozen hA1 3
    have k4 := heap_cell hA1 4 _ rfl
    have f4 := heap_frozen hA1 4
    have HF := Lib.hid (HF1.out.trans (Fr.below hb1))
    clear hb1 hA1 r2 q2 r3
    go_wp2_with fail
    refine bodyPost_ret (v := .agg #[.int .i64 0, .int .i64 0, .string ⟨#[]⟩, .slice none 0 0, .iface 94 (.agg #[.int .i64 at0, .iface 75 (.agg #[.int .i64 40])])]) (by simp [results, Tryz.results43, go_sem, k0, k1, k2, k3, k4]) rfl ⟨rfl, ?_⟩
    exact frNew (frNew (frNew (frNew (frNew HF.out (Nat.le_refl _) _ _) (Nat.le_refl _) _ _) (Nat.le_refl _) _ _) (Nat.le_refl _) _ _) (Nat.le_refl _) _ _

set_option maxRecDepth 100000 in
set_option maxHeartbeats 2000000 in
theorem next_err (R : Nat) (s : ByteArray) (at0 : Int) (c d : Nat) (m n b e : Int) (w : World) (hH : HeadB R w) (hS : RdS R s at0 (c : Int) (d : Int) w) (hs : s.size ≤ 1000000) (hc : c < 60) (hd : d ≤ 6) (hD : hdecR s at0 = (m, n, b, e)) (he : e ≠ 0) :
    Calls Tryz.prog 43 #[.pointer (some ⟨R, 0, none⟩)] w fun e' w' => e' = .returned (badA (placedV at0 e)) ∧ Fr R w w' := by
  have hl := hS.lt
  have r2 := hS.c2
  have q2 := hS.f2
  have r3 := hS.c3
  have hS1 := (hS.count ((c : Int) + 1)).below ((Below.refl _ _).alloc (Nat.le_refl _) (.cells #[.int .i64 0, .int .i64 0, .string ⟨#[]⟩, .slice none 0 0, .nilIface] 63))
  have hF1 : Fr R w ((w.setCell ⟨R, 2, none⟩ (.int .i64 ((c : Int) + 1))).alloc (.cells #[.int .i64 0, .int .i64 0, .string ⟨#[]⟩, .slice none 0 0, .nilIface] 63)) := frAlloc (Fr.set R 2 w _) _
  have hA0 : ((w.setCell ⟨R, 2, none⟩ (.int .i64 ((c : Int) + 1))).alloc (.cells #[.int .i64 0, .int .i64 0, .string ⟨#[]⟩, .slice none 0 0, .nilIface] 63)).heap[w.heap.size]? = some (.cells #[.int .i64 0, .int .i64 0, .string ⟨#[]⟩, .slice none 0 0, .nilIface] 63 (0, 0)) := by
    have := World.alloc_heap_new (w.setCell ⟨R, 2, none⟩ (.int .i64 ((c : Int) + 1))) (.cells #[.int .i64 0, .int .i64 0, .string ⟨#[]⟩, .slice none 0 0, .nilIface] 63)
    rw [show (w.setCell ⟨R, 2, none⟩ (.int .i64 ((c : Int) + 1))).heap.size = w.heap.size by simp] at this
    exact this
  have hRne : w.heap.size ≠ R := by omega
  have hH1 := (hH.fr hF1 (by omega)).ok
  have HC := Lib.hid (ahead_any R s at0 ((c : Int) + 1) (d : Int) m n b e _ hH1 hS1 hs hD)
  simp only [if_neg he] at HC
  have HF1 := Lib.hid hF1
  have HA0 := Lib.hid hA0
  have b1 : decide (60 < (c : Int) + 1) = false := by simp; omega
  have b2 : decide (6 < (d : Int)) = false := by simp; omega
  clear hS hS1 hF1 hA0 hH hH1 hD he
  unfold badA
  unfold placedV at HC ⊢
  go_enter Tryz.func43, Tryz.ntmps43
  go_wp2_with fail
  refine HC.out.mono ?_
  clear HC
  rintro e' w1 ⟨rfl, hF2⟩
  have hA1 := (hF2.block _ (lt_of_heap HA0.out) (by intro e; cases e; omega)).trans HA0.out
  have HF2 := Lib.hid (HF1.out.trans hF2)
  have HA1 := Lib.hid hA1
  clear hA1 hF2 HF1 HA0
  go_wp2_with fail
  refine (ibadi_any _ _ _).mono ?_
  rintro e w2 ⟨rfl, hb1⟩
  have hA1 := (hb1.block _ (lt_of_heap HA1.out)).trans HA1.out
  have k0 := heap_cell hA1 0 _ rfl
  have f0 := heap_frozen hA1 0
  have k1 := heap_cell hA1 1 _ rfl
  have f1 := heap_frozen hA1 1
  have k2 := heap_cell hA1 2 _ rfl
  have f2 := heap_frozen hA1 2
  have k3 := heap_cell hA1 3 _ rfl
  have f3 := heap_frozen hA1 3
  have k4 := heap_cell hA1 4 _ rfl
  have f4 := heap_frozen hA1 4
  have HF := Lib.hid (HF2.out.trans (Fr.below hb1))
  clear hb1 hA1 r2 q2 r3
  go_wp2_with fail
  refine bodyPost_ret (v := .agg #[.int .i64 0, .int .i64 0, .string ⟨#[]⟩, .slice none 0 0, .iface 94 (.agg #[.int .i64 at0, .iface 75 (.agg #[.int .i64 e])])]) (by simp [results, Tryz.results43, go_sem, k0, k1, k2, k3, k4]) rfl ⟨rfl, ?_⟩
  exact frNew (frNew (frNew (frNew (frNew HF.out (Nat.le_refl _) _ _) (Nat.le_refl _) _ _) (Nat.le_refl _) _ _) (Nat.le_refl _) _ _) (Nat.le_refl _) _ _

theorem enterF {P : Program} {f : FuncId} {fn : Func} {c : Code} (hf : P.funcs[f]? = some fn) (hname : (fn.name == "runtime.NumGoroutine") = false) (hb : fn.body = some c) (args : Array Value) (w : World) : (callFunc f args).run P w = .ok (.enter f args) w := by
  have h1 : fn.name ≠ "runtime.NumGoroutine" := by simpa using hname
  simp [callFunc, hf, h1, hb]

/-- What one that reads what stands behind a head answers: what is wrong, or an item. -/
def KindR (R : Nat) (s : ByteArray) (d : Nat) (W : World) (t : Except Int (Itm × List UInt8 × Nat)) (e' : Ending) (w' : World) : Prop :=
  match t with
  | .error e => ∃ p, e' = .returned (badA (placedV p e)) ∧ Fr R W w'
  | .ok (x, r, c') => ∃ (k n : Int) (q : ByteArray) (p : Option Addr) (m cap : Nat), e' = .returned (.agg #[.int .i64 k, .int .i64 n, .string q, .slice p m cap, .nilIface]) ∧ ItV (fun b => W.heap.size ≤ b) w' x (.agg #[.int .i64 k, .int .i64 n, .string q, .slice p m cap]) ∧ RdS R s ((s.size - r.length : Nat) : Int) (c' : Int) (d : Int) w' ∧ Fr R W w'
theorem NextR_kind (R : Nat) (s : ByteArray) (i c d f : Nat) (w : World) : NextR R s i c d f w = KindR R s d w (rd f c (s.data.toList.drop i)) := by
  funext e' w'
  unfold NextR KindR
  rfl

set_option maxRecDepth 100000 in
set_option maxHeartbeats 4000000 in
theorem next_go (R : Nat) (s : ByteArray) (at0 : Int) (c d : Nat) (m n b : Int) (g : Nat) (t : Except Int (Itm × List UInt8 × Nat)) (w : World) (hH : HeadB R w) (hS : RdS R s at0 (c : Int) (d : Int) w) (hs : s.size ≤ 1000000) (hc : c < 60) (hd : d ≤ 6) (hD : hdecR s at0 = (m, n, b, 0))
    (hk : ∀ (W : World) (B : Nat), W.heap[B]? = some (.map (kindsE R) 4) → (Instr.lookup 126 (.map (some B)) (.int .i64 m) false).run Tryz.prog W = .ok (.func (.func g) #[.pointer (some ⟨R, 0, none⟩)] #[]) W)
    (hcf : ∀ (args : Array Value) (W : World), (callFunc g args).run Tryz.prog W = .ok (.enter g args) W)
    (hg : ∀ W : World, HeadB R W → RdS R s b ((c : Int) + 1) (d : Int) W → Calls Tryz.prog g #[.pointer (some ⟨R, 0, none⟩), .int .i64 n] W (KindR R s d W t)) :
    Calls Tryz.prog 43 #[.pointer (some ⟨R, 0, none⟩)] w (KindR R s d w t) := by
  have hl := hS.lt
  have r2 := hS.c2
  have q2 := hS.f2
  have r3 := hS.c3
  have hS1 := (hS.count ((c : Int) + 1)).below ((Below.refl _ _).alloc (Nat.le_refl _) (.cells #[.int .i64 0, .int .i64 0, .string ⟨#[]⟩, .slice none 0 0, .nilIface] 63))
  have hF1 : Fr R w ((w.setCell ⟨R, 2, none⟩ (.int .i64 ((c : Int) + 1))).alloc (.cells #[.int .i64 0, .int .i64 0, .string ⟨#[]⟩, .slice none 0 0, .nilIface] 63)) := frAlloc (Fr.set R 2 w _) _
  have hA0 : ((w.setCell ⟨R, 2, none⟩ (.int .i64 ((c : Int) + 1))).alloc (.cells #[.int .i64 0, .int .i64 0, .string ⟨#[]⟩, .slice none 0 0, .nilIface] 63)).heap[w.heap.size]? = some (.cells #[.int .i64 0, .int .i64 0, .string ⟨#[]⟩, .slice none 0 0, .nilIface] 63 (0, 0)) := by
    have := World.alloc_heap_new (w.setCell ⟨R, 2, none⟩ (.int .i64 ((c : Int) + 1))) (.cells #[.int .i64 0, .int .i64 0, .string ⟨#[]⟩, .slice none 0 0, .nilIface] 63)
    rw [show (w.setCell ⟨R, 2, none⟩ (.int .i64 ((c : Int) + 1))).heap.size = w.heap.size by simp] at this
    exact this
  have hRne : w.heap.size ≠ R := by omega
  have hH1 := hH.fr hF1 (by omega)
  have HC := Lib.hid (ahead_any R s at0 ((c : Int) + 1) (d : Int) m n b 0 _ hH1.ok hS1 hs hD)
  simp only [if_true] at HC
  have HF1 := Lib.hid hF1
  have HA0 := Lib.hid hA0
  have HH1 := Lib.hid hH1
  have HG := Lib.hid hg
  have b1 : decide (60 < (c : Int) + 1) = false := by simp; omega
  have b2 : decide (6 < (d : Int)) = false := by simp; omega
  clear hS hS1 hF1 hA0 hH hH1 hD hg
  go_enter Tryz.func43, Tryz.ntmps43
  go_wp2_with fail
  refine HC.out.mono ?_
  clear HC
  rintro e' w1 ⟨rfl, hS2, hF2⟩
  have hRl := hS2.lt
  have HH2 := Lib.hid (HH1.out.fr hF2 (by simp; omega))
  have HA1 := Lib.hid ((hF2.block _ (lt_of_heap HA0.out) (by intro e; cases e; omega)).trans HA0.out)
  have hz1 : w.heap.size < w1.heap.size := lt_of_heap HA1.out
  have HF2 := Lib.hid (HF1.out.trans hF2)
  have HS2 := Lib.hid hS2
  clear hF2 HF1 HA0 HH1 hS2 r2 q2 r3
  go_wp2_with fail
  refine (kinds_any R _).mono ?_
  rintro e' w2 ⟨rfl, hM, hb2⟩
  have hlk := hk w2 _ hM
  have hz2 : w1.heap.size ≤ w2.heap.size := hb2.size
  have HC2 := Lib.hid (HG.out w2 (HH2.out.fr (Fr.below hb2) (by omega)) (HS2.out.below hb2))
  have HF3 := Lib.hid (HF2.out.trans (Fr.below hb2))
  have HA2 := Lib.hid ((hb2.block _ hz1).trans HA1.out)
  clear hb2 hM HS2 HF2 HA1 HG HH2 hk
  go_wp2_with fail
  refine HC2.out.mono ?_
  clear HC2
  unfold KindR
  cases t with
  | error e =>
    unfold badA placedV
    rintro e' w3 ⟨p, rfl, hF4⟩
    have hA3 := (hF4.block _ (lt_of_heap HA2.out) (by intro e; cases e; omega)).trans HA2.out
    have k0 := heap_cell hA3 0 _ rfl
    have f0 := heap_frozen hA3 0
    have k1 := heap_cell hA3 1 _ rfl
    have f1 := heap_frozen hA3 1
    have k2 := heap_cell hA3 2 _ rfl
    have f2 := heap_frozen hA3 2
    have k3 := heap_cell hA3 3 _ rfl
    have f3 := heap_frozen hA3 3
    have k4 := heap_cell hA3 4 _ rfl
    have f4 := heap_frozen hA3 4
    have HF := Lib.hid (HF3.out.trans hF4)
    clear hF4 hA3 HF3 HA2
    go_wp2_with fail
    refine bodyPost_ret (v := .agg #[.int .i64 0, .int .i64 0, .string ⟨#[]⟩, .slice none 0 0, .iface 94 (.agg #[.int .i64 p, .iface 75 (.agg #[.int .i64 e])])]) (by simp [results, Tryz.results43, go_sem, k0, k1, k2, k3, k4]) rfl ⟨p, rfl, ?_⟩
    exact frNew (frNew (frNew (frNew (frNew HF.out (Nat.le_refl _) _ _) (Nat.le_refl _) _ _) (Nat.le_refl _) _ _) (Nat.le_refl _) _ _) (Nat.le_refl _) _ _
  | ok t =>
    obtain ⟨x, r, c'⟩ := t
    rintro e' w3 ⟨k, nn, q, p, l, cap, rfl, hx, hS4, hF4⟩
    have hA3 := (hF4.block _ (lt_of_heap HA2.out) (by intro e; cases e; omega)).trans HA2.out
    have k0 := heap_cell hA3 0 _ rfl
    have f0 := heap_frozen hA3 0
    have k1 := heap_cell hA3 1 _ rfl
    have f1 := heap_frozen hA3 1
    have k2 := heap_cell hA3 2 _ rfl
    have f2 := heap_frozen hA3 2
    have k3 := heap_cell hA3 3 _ rfl
    have f3 := heap_frozen hA3 3
    have k4 := heap_cell hA3 4 _ rfl
    have f4 := heap_frozen hA3 4
    have HF := Lib.hid (HF3.out.trans hF4)
    have HS := Lib.hid hS4
    have HX := Lib.hid hx
    clear hF4 hA3 HF3 HA2 hx hS4
    go_wp2_with fail
    refine bodyPost_ret (v := .agg #[.int .i64 k, .int .i64 nn, .string q, .slice p l cap, .nilIface]) (by simp [results, Tryz.results43, go_sem, k0, k1, k2, k3, k4]) rfl ⟨k, nn, q, p, l, cap, rfl, ?_, ?_, ?_⟩
    · refine ItV.keep (fun a v hb e => ⟨?_, by omega⟩) x _ HX.out
      have hne : a.block ≠ w.heap.size := by omega
      exact (cell_heap (Below.heap_setCell _ _ _ _ hne)).trans ((cell_heap (Below.heap_setCell _ _ _ _ hne)).trans ((cell_heap (Below.heap_setCell _ _ _ _ hne)).trans ((cell_heap (Below.heap_setCell _ _ _ _ hne)).trans ((cell_heap (Below.heap_setCell _ _ _ _ hne)).trans e))))
    · exact ((((HS.out.other hRne _ _).other hRne _ _).other hRne _ _).other hRne _ _).other hRne _ _
    · exact frNew (frNew (frNew (frNew (frNew HF.out (Nat.le_refl _) _ _) (Nat.le_refl _) _ _) (Nat.le_refl _) _ _) (Nat.le_refl _) _ _) (Nat.le_refl _) _ _
end Go.Proofs.YtljfgchmogdljaaGreatDoor

/- A reader's number, data, letters, list by what is read; next by what is read. -/
set_option linter.unusedVariables false
set_option linter.unusedSimpArgs false
namespace Go.Proofs.YtljfgchmogdljaaGreatDoor
open Go.RowKit

/-- Bytes behind a head of kind m. -/
def dat (m n : Nat) (l : List UInt8) (c : Nat) : Except Int (Itm × List UInt8 × Nat) :=
  if 600 < n then .error 40 else
  if l.length < n then .error 11 else
  if m = 3 ∧ txtB (l.take n) = false then .error 20 else
  .ok (.mk m 0 (l.take n) [], l.drop n, c)

theorem drop_len_ba (s : ByteArray) (i : Nat) : (s.data.toList.drop i).length = s.size - i := by
  rw [List.length_drop, Array.length_toList]
  rfl
theorem drop_place (s : ByteArray) {i : Nat} (hi : i ≤ s.size) : s.size - (s.data.toList.drop i).length = i := by
  rw [drop_len_ba]; omega
theorem extract_drop (s : ByteArray) (i n : Nat) : (s.extract i (i + n)).data.toList = (s.data.toList.drop i).take n := by
  rw [ByteArray.data_extract, Array.toList_extract, List.extract_eq_take_drop]
  congr 1
  omega

/-- An item without a list. -/
theorem ItV.leaf {ok : Nat → Prop} {W : World} (k n : Int) (q : ByteArray) (hq : q.size ≤ maxLen) (hk : (Lit.int .i64 k).wf = true) (hn : (Lit.int .i64 n).wf = true) : ItV ok W (.mk k n q.data.toList []) (.agg #[.int .i64 k, .int .i64 n, .string q, .slice none 0 0]) := by
  have hs : (⟨q.data.toList.toArray⟩ : ByteArray) = q := by simp
  simp only [ItV]
  exact ⟨none, 0, by rw [hs]; rfl, Nat.le_refl _, Nat.zero_le _, by rw [Array.length_toList]; exact hq, hk, hn, by simp [ItsV]⟩
theorem wf_nat {n : Nat} (h : n ≤ 281474976710655) : (Lit.int .i64 (n : Int)).wf = true := by
  have h1 : IntKind.min .i64 = -9223372036854775808 := by decide
  have h2 : IntKind.max .i64 = 9223372036854775807 := by decide
  simp only [Lit.wf, h1, h2, Bool.and_eq_true, decide_eq_true_eq]
  omega

theorem kind_number (R : Nat) (s : ByteArray) (i c d n : Nat) (W : World) (hS : RdS R s (i : Int) (c : Int) (d : Int) W) (hi : i ≤ s.size) (hn : n ≤ 281474976710655) :
    Calls Tryz.prog 81 #[.pointer (some ⟨R, 0, none⟩), .int .i64 (n : Int)] W (KindR R s d W (.ok (.mk 0 n [] [], s.data.toList.drop i, c))) := by
  refine (number_item R n W).mono ?_
  rintro e w' ⟨rfl, hb⟩
  unfold KindR
  refine ⟨0, n, ⟨#[]⟩, none, 0, 0, rfl, ItV.leaf 0 n ⟨#[]⟩ (by decide) (by decide) (wf_nat hn), ?_, Fr.below hb⟩
  rw [drop_place s hi]
  exact hS.below hb

theorem kind_data (R : Nat) (s : ByteArray) (i c d n : Nat) (W : World) (hH : HeadB R W) (hS : RdS R s (i : Int) (c : Int) (d : Int) W) (hs : s.size ≤ 1000000) (hi : i ≤ s.size) (hn : n ≤ 281474976710655) :
    Calls Tryz.prog 82 #[.pointer (some ⟨R, 0, none⟩), .int .i64 (n : Int)] W (KindR R s d W (dat 2 n (s.data.toList.drop i) c)) := by
  unfold dat
  by_cases h6 : 600 < n
  · rw [if_pos h6]
    refine (data_great R s i c d n W hS (by omega)).mono ?_
    rintro e w' ⟨rfl, hf⟩
    exact ⟨_, rfl, hf⟩
  rw [if_neg h6, drop_len_ba]
  by_cases hl : s.size - i < n
  · rw [if_pos hl]
    have hc : cutR s (i : Int) (n : Int) = (⟨#[]⟩, 11) := cutR_bad (by unfold fitsB; omega)
    refine (data_any R s i c d n ⟨#[]⟩ 11 W hH.ok hS hs hc (by omega) (by omega) (by omega) (by omega)).mono ?_
    intro e w' h
    exact h
  rw [if_neg hl, if_neg (by omega)]
  have hc : cutR s (i : Int) (n : Int) = (s.extract i (i + n), 0) := by
    rw [cutR_ok (by unfold fitsB; omega)]
    rfl
  refine (data_any R s i c d n _ 0 W hH.ok hS hs hc (by omega) (by omega) (by omega) (by omega)).mono ?_
  rintro e w' ⟨rfl, h1, h2⟩
  unfold KindR
  refine ⟨2, 0, s.extract i (i + n), none, 0, 0, rfl, ?_, ?_, h2⟩
  · rw [← extract_drop]
    exact ItV.leaf 2 0 _ (by rw [ByteArray.size_extract]; unfold maxLen; omega) (by decide) (by decide)
  · rw [List.drop_drop, drop_place s (by omega)]
    exact h1

theorem kind_letters (R : Nat) (s : ByteArray) (i c d n : Nat) (W : World) (hH : HeadB R W) (hS : RdS R s (i : Int) (c : Int) (d : Int) W) (hs : s.size ≤ 1000000) (hi : i ≤ s.size) (hn : n ≤ 281474976710655) :
    Calls Tryz.prog 83 #[.pointer (some ⟨R, 0, none⟩), .int .i64 (n : Int)] W (KindR R s d W (dat 3 n (s.data.toList.drop i) c)) := by
  have hl := hS.lt
  have hBA := (Below.refl W.heap.size W).alloc (Nat.le_refl _) (.cells #[.int .i64 0, .int .i64 0, .string ⟨#[]⟩, .slice none 0 0, .nilIface] 63)
  have hS1 := hS.below hBA
  have hH1 := hH.fr (Fr.below (R := R) hBA) (by omega)
  unfold dat
  by_cases h6 : 600 < n
  · rw [if_pos h6]
    refine (letters_bad R n 40 W hl ((data_great R s i c d n _ hS1 (by omega)).mono ?_)).mono ?_
    · rintro e w' ⟨rfl, hf⟩
      exact ⟨_, rfl, hf⟩
    · intro e w' h
      exact h
  rw [if_neg h6, drop_len_ba]
  by_cases hln : s.size - i < n
  · rw [if_pos hln]
    have hc : cutR s (i : Int) (n : Int) = (⟨#[]⟩, 11) := cutR_bad (by unfold fitsB; omega)
    refine (letters_bad R n 11 W hl ((data_any R s i c d n ⟨#[]⟩ 11 _ hH1.ok hS1 hs hc (by omega) (by omega) (by omega) (by omega)).mono ?_)).mono ?_
    · intro e w' h
      exact h
    · intro e w' h
      exact h
  rw [if_neg hln]
  have hc : cutR s (i : Int) (n : Int) = (s.extract i (i + n), 0) := by
    rw [cutR_ok (by unfold fitsB; omega)]
    rfl
  have hqs : (s.extract i (i + n)).size ≤ maxLen := by rw [ByteArray.size_extract]; unfold maxLen; omega
  refine (letters_ok R s i c d n (s.extract i (i + n)) W hl hqs ((data_any R s i c d n _ 0 _ hH1.ok hS1 hs hc (by omega) (by omega) (by omega) (by omega)).mono ?_)).mono ?_
  · intro e w' h
    exact h
  intro e w' h
  rw [extract_drop] at h
  by_cases ht : txtB ((s.data.toList.drop i).take n) = true
  · rw [if_pos ht] at h
    rw [if_neg (by rw [ht]; simp)]
    obtain ⟨rfl, h1, h2⟩ := h
    unfold KindR
    refine ⟨3, 0, s.extract i (i + n), none, 0, 0, rfl, ?_, ?_, h2⟩
    · rw [← extract_drop]
      exact ItV.leaf 3 0 _ hqs (by decide) (by decide)
    · rw [List.drop_drop, drop_place s (by omega)]
      exact h1
  · rw [if_neg ht] at h
    rw [if_pos ⟨rfl, by simpa using ht⟩]
    exact h

/-- What is read, by its head. -/
theorem rd_head {f c : Nat} {l : List UInt8} {m n k : Nat} (hc : c < 60) (h : hdL l = .ok (m, n, k)) : rd (f + 1) c l =
    if m = 0 then .ok (.mk 0 n [] [], l.drop k, c + 1) else
    if m = 4 then (match rdN (rd f) n (c + 1) (l.drop k) with
        | .error e => .error e
        | .ok (xs, r, c') => .ok (.mk 4 0 [] xs, r, c')) else dat m n (l.drop k) (c + 1) := by
  rw [rd, if_neg (by omega), h]
  rfl
theorem rd_herr {f c : Nat} {l : List UInt8} {e : Int} (hc : c < 60) (h : hdL l = .error e) : rd (f + 1) c l = .error e := by
  rw [rd, if_neg (by omega), h]

theorem hdecR_list (s : ByteArray) (i : Nat) (hi : i ≤ s.size) : (∃ e, hdL (s.data.toList.drop i) = .error e ∧ hdecR s (i : Int) = (0, 0, 0, e) ∧ e ≠ 0) ∨ ∃ m n k : Nat, hdL (s.data.toList.drop i) = .ok (m, n, k) ∧ hdecR s (i : Int) = ((m : Int), (n : Int), ((i + k : Nat) : Int), 0) ∧ Maj m ∧ n ≤ 281474976710655 ∧ i + k ≤ s.size := by
  by_cases hl : i < s.size
  · cases hd : hdL (s.data.toList.drop i) with
    | error e => exact .inl ⟨e, rfl, hdecR_err hl hd, by rcases hdL_err hd with rfl | rfl | rfl <;> decide⟩
    | ok t =>
      obtain ⟨m, n, k⟩ := t
      obtain ⟨h1, h2, h3, h4, h5⟩ := hdL_back hd
      rw [drop_len_ba] at h4
      exact .inr ⟨m, n, k, rfl, by rw [hdecR_ok hl hd]; simp, h1, h2, by omega⟩
  · refine .inl ⟨11, ?_, hdecR_out (.inr (by omega)), by decide⟩
    rw [List.drop_of_length_le (by rw [Array.length_toList]; show s.size ≤ i; omega)]
    rfl

theorem look_at (R : Nat) {i : Nat} {k : Int} {v : Value} (hf : Instr.findNow (.int .i64) (.int .i64 k) (kindsE R).toList 0 = some (some (i, v))) (W : World) (B : Nat) (h : W.heap[B]? = some (.map (kindsE R) 4)) : (Instr.lookup 126 (.map (some B)) (.int .i64 k) false).run Tryz.prog W = .ok v W := look_run B 4 i (kindsE R) k v W h hf

theorem next_any : ∀ (f d : Nat), d + f = 7 → ∀ (R : Nat) (s : ByteArray) (i c : Nat) (w : World), HeadB R w → RdS R s (i : Int) (c : Int) (d : Int) w → s.size ≤ 1000000 → i ≤ s.size → c ≤ 60 →
    Calls Tryz.prog 43 #[.pointer (some ⟨R, 0, none⟩)] w (NextR R s i c d f w) := by
  intro f
  induction f with
  | zero =>
    intro d hd R s i c w hH hS hs hi hc
    rw [NextR_kind]
    refine (next_full R s i c d w hS hc (by omega) (.inr (by omega))).mono ?_
    rintro e w' ⟨rfl, hf⟩
    exact ⟨_, rfl, hf⟩
  | succ f ih =>
    intro d hd R s i c w hH hS hs hi hc
    rw [NextR_kind]
    by_cases h60 : 60 ≤ c
    · have e : rd (f + 1) c (s.data.toList.drop i) = .error 40 := by rw [rd, if_pos h60]
      rw [e]
      refine (next_full R s i c d w hS hc (by omega) (.inl h60)).mono ?_
      rintro e w' ⟨rfl, hf⟩
      exact ⟨_, rfl, hf⟩
    rcases hdecR_list s i hi with ⟨e, h1, h2, h3⟩ | ⟨m, n, k, h1, h2, hM, hN, hk⟩
    · rw [rd_herr (by omega) h1]
      refine (next_err R s i c d 0 0 0 e w hH hS hs (by omega) (by omega) h2 h3).mono ?_
      rintro e w' ⟨rfl, hf⟩
      exact ⟨_, rfl, hf⟩
    rw [rd_head (by omega) h1, List.drop_drop]
    have hm : m = 0 ∨ m = 2 ∨ m = 3 ∨ m = 4 := by unfold Maj at hM; omega
    have e1 : ((c : Int) + 1) = ((c + 1 : Nat) : Int) := by omega
    rcases hm with rfl | rfl | rfl | rfl
    · rw [if_pos rfl]
      exact next_go R s i c d _ _ _ _ _ w hH hS hs (by omega) (by omega) h2 (look_at R rfl) (enterF Tryz.func81 (by kernel_rfl) rfl) (fun W hW hSW => kind_number R s (i + k) (c + 1) d n W (by rw [← e1]; exact hSW) hk hN)
    · rw [if_neg (by omega), if_neg (by omega)]
      exact next_go R s i c d _ _ _ _ _ w hH hS hs (by omega) (by omega) h2 (look_at R rfl) (enterF Tryz.func82 (by kernel_rfl) rfl) (fun W hW hSW => kind_data R s (i + k) (c + 1) d n W hW (by rw [← e1]; exact hSW) hs hk hN)
    · rw [if_neg (by omega), if_neg (by omega)]
      exact next_go R s i c d _ _ _ _ _ w hH hS hs (by omega) (by omega) h2 (look_at R rfl) (enterF Tryz.func83 (by kernel_rfl) rfl) (fun W hW hSW => kind_letters R s (i + k) (c + 1) d n W hW (by rw [← e1]; exact hSW) hs hk hN)
    · rw [if_neg (by omega), if_pos rfl]
      refine next_go R s i c d _ _ _ _ _ w hH hS hs (by omega) (by omega) h2 (look_at R rfl) (enterF Tryz.func84 (by kernel_rfl) rfl) (fun W hW hSW => ?_)
      refine (list_any f R s (i + k) (c + 1) d n W hW (by rw [← e1]; exact hSW) hs hk (by omega) (by omega) hN (fun i c W h1 h2 h3 h4 => ih (d + 1) (by omega) R s i c W h1 h2 hs h3 h4)).mono ?_
      intro e w' h
      unfold ListR at h
      unfold KindR
      cases hr : rdN (rd f) n (c + 1) (s.data.toList.drop (i + k)) with
      | error e => rw [hr] at h; exact h
      | ok t =>
        obtain ⟨xs, r, c'⟩ := t
        rw [hr] at h
        obtain ⟨p, cap, h1, h2, h3, h4⟩ := h
        exact ⟨4, 0, ⟨#[]⟩, p, xs.length, cap, h1, h2, h3, h4⟩
end Go.Proofs.YtljfgchmogdljaaGreatDoor

/- Contracts of read, readWhole, Decode, Whole of package item. -/
set_option linter.unusedVariables false
set_option linter.unusedSimpArgs false
namespace Go.Proofs.YtljfgchmogdljaaGreatDoor
open Go.RowKit

/-- What is read at a place of a text. -/
def rdAt (s : ByteArray) (at0 : Int) : Except Int (Itm × List UInt8 × Nat) := if at0 < 0 ∨ (s.size : Int) ≤ at0 then .error 11 else rd 6 0 (s.data.toList.drop at0.toNat)
/-- What is decoded at a place of a text: the item, the place behind it, the error's number. -/
def decI (s : ByteArray) (at0 : Int) : Itm × Int × Int := match rdAt s at0 with
  | .error e => (.mk 0 0 [] [], 0, e)
  | .ok (x, r, _) => (x, ((s.size - r.length : Nat) : Int), 0)
/-- What is decoded of a whole text. -/
def wholeI (s : ByteArray) : Itm × Int := match rdAt s 0 with
  | .error e => (.mk 0 0 [] [], e)
  | .ok (x, r, _) => if r.length = 0 then (x, 0) else (.mk 0 0 [] [], 20)

theorem RdS.of_heap {R : Nat} {s : ByteArray} {a c d : Int} {t : TypeId} {W : World} (h : W.heap[R]? = some (.cells #[.string s, .int .i64 a, .int .i64 c, .int .i64 d] t (0, 0))) : RdS R s a c d W :=
  ⟨heap_cell h 0 _ rfl, heap_cell h 1 _ rfl, heap_cell h 2 _ rfl, heap_cell h 3 _ rfl, heap_frozen h 0, heap_frozen h 1, heap_frozen h 2, heap_frozen h 3⟩
theorem ItV.zero {ok : Nat → Prop} {W : World} : ItV ok W (.mk 0 0 [] []) (.agg #[.int .i64 0, .int .i64 0, .string ⟨#[]⟩, .slice none 0 0]) := ItV.leaf 0 0 ⟨#[]⟩ (by decide) (by decide) (by decide)

theorem next_top (R : Nat) (s : ByteArray) (at0 : Int) (w : World) (hH : HeadB R w) (hS : RdS R s at0 0 1 w) (hs : s.size ≤ 1000000) :
    Calls Tryz.prog 43 #[.pointer (some ⟨R, 0, none⟩)] w (KindR R s 1 w (rdAt s at0)) := by
  unfold rdAt
  by_cases h : at0 < 0 ∨ (s.size : Int) ≤ at0
  · rw [if_pos h]
    refine (next_err R s at0 0 1 0 0 0 11 w hH hS hs (by omega) (by omega) (hdecR_out h) (by decide)).mono ?_
    rintro e w' ⟨rfl, hf⟩
    exact ⟨_, rfl, hf⟩
  · rw [if_neg h]
    obtain ⟨i, rfl⟩ := Int.eq_ofNat_of_zero_le (show 0 ≤ at0 by omega)
    have := next_any 6 1 (by omega) R s i 0 w hH hS hs (by omega) (by omega)
    rw [NextR_kind] at this
    exact this

/-- What read answers. -/
def ReadR (s : ByteArray) (w : World) (t : Except Int (Itm × List UInt8 × Nat)) (e' : Ending) (w' : World) : Prop :=
  match t with
  | .error e => ∃ p, e' = .returned (.agg #[.int .i64 0, .int .i64 0, .string ⟨#[]⟩, .slice none 0 0, .int .i64 0, placedV p e]) ∧ Below w.heap.size w w'
  | .ok (x, r, c') => ∃ (k nn : Int) (q : ByteArray) (p : Option Addr) (l cap : Nat), e' = .returned (.agg #[.int .i64 k, .int .i64 nn, .string q, .slice p l cap, .int .i64 ((s.size - r.length : Nat) : Int), .nilIface]) ∧ ItV (fun b => w.heap.size ≤ b) w' x (.agg #[.int .i64 k, .int .i64 nn, .string q, .slice p l cap]) ∧ Below w.heap.size w w'

set_option maxRecDepth 100000 in
set_option maxHeartbeats 4000000 in
theorem read_any (s : ByteArray) (at0 : Int) (w : World) (hH : HeadOK w) (hs : s.size ≤ 1000000) :
    Calls Tryz.prog 29 #[.string s, .int .i64 at0] w (ReadR s w (rdAt s at0)) := by
  have hB0 : Below w.heap.size w ((w.alloc (.cells #[.int .i64 0, .int .i64 0, .string ⟨#[]⟩, .slice none 0 0, .int .i64 0, .nilIface] 55)).alloc (.cells #[.string s, .int .i64 at0, .int .i64 0, .int .i64 1] 85)) := ((Below.refl _ _).alloc (Nat.le_refl _) _).alloc (by simp) _
  have hR : ((w.alloc (.cells #[.int .i64 0, .int .i64 0, .string ⟨#[]⟩, .slice none 0 0, .int .i64 0, .nilIface] 55)).alloc (.cells #[.string s, .int .i64 at0, .int .i64 0, .int .i64 1] 85)).heap[w.heap.size + 1]? = some (.cells #[.string s, .int .i64 at0, .int .i64 0, .int .i64 1] 85 (0, 0)) := by
    have := World.alloc_heap_new (w.alloc (.cells #[.int .i64 0, .int .i64 0, .string ⟨#[]⟩, .slice none 0 0, .int .i64 0, .nilIface] 55)) (.cells #[.string s, .int .i64 at0, .int .i64 0, .int .i64 1] 85)
    rw [show (w.alloc (.cells #[.int .i64 0, .int .i64 0, .string ⟨#[]⟩, .slice none 0 0, .int .i64 0, .nilIface] 55)).heap.size = w.heap.size + 1 by simp] at this
    exact this
  have hZ : ((w.alloc (.cells #[.int .i64 0, .int .i64 0, .string ⟨#[]⟩, .slice none 0 0, .int .i64 0, .nilIface] 55)).alloc (.cells #[.string s, .int .i64 at0, .int .i64 0, .int .i64 1] 85)).heap[w.heap.size]? = some (.cells #[.int .i64 0, .int .i64 0, .string ⟨#[]⟩, .slice none 0 0, .int .i64 0, .nilIface] 55 (0, 0)) := (Below.heap_alloc _ _ _ (by simp)).trans (World.alloc_heap_new w _)
  have HC := Lib.hid (next_top (w.heap.size + 1) s at0 _ ⟨w, hH, hB0, by omega⟩ (RdS.of_heap hR) hs)
  have hW0 : ((w.alloc (.cells #[.int .i64 0, .int .i64 0, .string ⟨#[]⟩, .slice none 0 0, .int .i64 0, .nilIface] 55)).alloc (.cells #[.string s, .int .i64 at0, .int .i64 0, .int .i64 1] 85)).heap.size = w.heap.size + 1 + 1 := by simp
  have HB0 := Lib.hid hB0
  have HZ := Lib.hid hZ
  clear hH hB0 hR hZ
  generalize rdAt s at0 = t at *
  go_enter Tryz.func29, Tryz.ntmps29
  go_wp2_with fail
  refine HC.out.mono ?_
  clear HC
  unfold KindR ReadR
  cases t with
  | error e =>
    unfold badA placedV
    rintro e' w1 ⟨p, rfl, hF1⟩
    have hB1 := HB0.out.trans ((hF1.toBelow (by omega)).mono (by omega))
    have hZ1 := (hF1.block _ (lt_of_heap HZ.out) (by simp)).trans HZ.out
    have hz1 : w.heap.size < w1.heap.size := lt_of_heap hZ1
    have HB1 := Lib.hid hB1
    have HZ1 := Lib.hid hZ1
    clear hB1 hZ1 hF1 HB0 HZ hW0
    go_wp2_with fail
    refine (ibadp_any _ _ _).mono ?_
    rintro e2 w2 ⟨rfl, hb2⟩
    have hZ2 := (hb2.block _ (by simp; omega)).trans ((Below.heap_alloc _ _ _ (by omega)).trans HZ1.out)
    have k0 := heap_cell hZ2 0 _ rfl
    have f0 := heap_frozen hZ2 0
    have k1 := heap_cell hZ2 1 _ rfl
    have f1 := heap_frozen hZ2 1
    have k2 := heap_cell hZ2 2 _ rfl
    have f2 := heap_frozen hZ2 2
    have k3 := heap_cell hZ2 3 _ rfl
    have f3 := heap_frozen hZ2 3
    have k4 := heap_cell hZ2 4 _ rfl
    have f4 := heap_frozen hZ2 4
    have k5 := heap_cell hZ2 5 _ rfl
    have f5 := heap_frozen hZ2 5
    have HB := Lib.hid ((HB1.out.alloc (by omega) (.cells #[.int .i64 0, .int .i64 0, .string ⟨#[]⟩, .slice none 0 0, .iface 94 (.agg #[.int .i64 p, .iface 75 (.agg #[.int .i64 e])])] 63)).trans (hb2.mono (by simp; omega)))
    clear hb2 hZ2 HB1 HZ1
    go_wp2_with fail
    refine bodyPost_ret (v := .agg #[.int .i64 0, .int .i64 0, .string ⟨#[]⟩, .slice none 0 0, .int .i64 0, .iface 94 (.agg #[.int .i64 p, .iface 75 (.agg #[.int .i64 _])])]) (by simp [results, Tryz.results29, go_sem, k0, k1, k2, k3, k4, k5]) rfl ⟨p, rfl, ?_⟩
    exact ((((((HB.out.setCell (by simp) _).setCell (by simp) _).setCell (by simp) _).setCell (by simp) _).setCell (by simp) _).setCell (by simp) _)
  | ok t =>
    obtain ⟨x, r, c'⟩ := t
    rintro e' w1 ⟨k, nn, q, p, l, cap, rfl, hx, hS1, hF1⟩
    have hB1 := HB0.out.trans ((hF1.toBelow (by omega)).mono (by omega))
    have hZ1 := (hF1.block _ (lt_of_heap HZ.out) (by simp)).trans HZ.out
    have hz1 : w.heap.size < w1.heap.size := lt_of_heap hZ1
    have hRl := hS1.lt
    have r1 := hS1.c1
    have hx1 : ItV (fun b => w.heap.size + 1 + 1 ≤ b) w1 x (.agg #[.int .i64 k, .int .i64 nn, .string q, .slice p l cap]) := by rw [hW0] at hx; exact hx
    have HX := Lib.hid hx1
    have HB1 := Lib.hid hB1
    have HZ1 := Lib.hid hZ1
    clear hB1 hZ1 hF1 HB0 HZ hW0 hx hx1 hS1
    go_wp2_with fail
    refine (igoodp_any _ _ _ _ _ _ _ _).mono ?_
    rintro e2 w2 ⟨rfl, hb2⟩
    have hZ2 := (hb2.block _ (by simp; omega)).trans ((Below.heap_alloc _ _ _ (by omega)).trans HZ1.out)
    have k0 := heap_cell hZ2 0 _ rfl
    have f0 := heap_frozen hZ2 0
    have k1 := heap_cell hZ2 1 _ rfl
    have f1 := heap_frozen hZ2 1
    have k2 := heap_cell hZ2 2 _ rfl
    have f2 := heap_frozen hZ2 2
    have k3 := heap_cell hZ2 3 _ rfl
    have f3 := heap_frozen hZ2 3
    have k4 := heap_cell hZ2 4 _ rfl
    have f4 := heap_frozen hZ2 4
    have k5 := heap_cell hZ2 5 _ rfl
    have f5 := heap_frozen hZ2 5
    have HB := Lib.hid ((HB1.out.alloc (by omega) (.cells #[.int .i64 k, .int .i64 nn, .string q, .slice p l cap, .nilIface] 63)).trans (hb2.mono (by simp; omega)))
    have HX2 := Lib.hid ((HX.out.below ((Below.refl _ _).alloc (Nat.le_refl _) _)).below hb2)
    clear hb2 hZ2 HB1 HZ1 HX
    go_wp2_with fail
    refine bodyPost_ret (v := .agg #[.int .i64 k, .int .i64 nn, .string q, .slice p l cap, .int .i64 ((s.size - r.length : Nat) : Int), .nilIface]) (by simp [results, Tryz.results29, go_sem, k0, k1, k2, k3, k4, k5]) rfl ⟨k, nn, q, p, l, cap, rfl, ?_, ?_⟩
    · refine ItV.keep (fun a v hb e => ⟨?_, by omega⟩) x _ HX2.out
      have hne : a.block ≠ w.heap.size := by omega
      exact ((cell_heap (Below.heap_setCell _ _ _ _ hne)).trans ((cell_heap (Below.heap_setCell _ _ _ _ hne)).trans ((cell_heap (Below.heap_setCell _ _ _ _ hne)).trans ((cell_heap (Below.heap_setCell _ _ _ _ hne)).trans ((cell_heap (Below.heap_setCell _ _ _ _ hne)).trans ((cell_heap (Below.heap_setCell _ _ _ _ hne)).trans e))))))
    · exact ((((((HB.out.setCell (by simp) _).setCell (by simp) _).setCell (by simp) _).setCell (by simp) _).setCell (by simp) _).setCell (by simp) _)

set_option maxRecDepth 100000 in
set_option maxHeartbeats 4000000 in
theorem idecode_any (s : ByteArray) (at0 : Int) (w : World) (hH : HeadOK w) (hE : EnvE w) (hs : s.size ≤ 1000000) :
    Calls Tryz.prog 15 #[.string s, .int .i64 at0] w fun e' w' => ∃ (k nn : Int) (q : ByteArray) (p : Option Addr) (l cap : Nat), e' = .returned (.tuple #[.agg #[.int .i64 k, .int .i64 nn, .string q, .slice p l cap], .int .i64 (decI s at0).2.1, .int .i64 (decI s at0).2.2]) ∧ ItV (fun b => w.heap.size ≤ b) w' (decI s at0).1 (.agg #[.int .i64 k, .int .i64 nn, .string q, .slice p l cap]) ∧ Below w.heap.size w w' := by
  have hB0 : Below w.heap.size w (w.alloc (.cells #[.int .i64 0, .int .i64 0, .string ⟨#[]⟩, .slice none 0 0] 24)) := (Below.refl _ _).alloc (Nat.le_refl _) _
  have hZ : (w.alloc (.cells #[.int .i64 0, .int .i64 0, .string ⟨#[]⟩, .slice none 0 0] 24)).heap[w.heap.size]? = some (.cells #[.int .i64 0, .int .i64 0, .string ⟨#[]⟩, .slice none 0 0] 24 (0, 0)) := World.alloc_heap_new w _
  have HC := Lib.hid (read_any s at0 _ (hH.below hB0) hs)
  have HE := Lib.hid (hE.below hB0)
  have hW0 : (w.alloc (.cells #[.int .i64 0, .int .i64 0, .string ⟨#[]⟩, .slice none 0 0] 24)).heap.size = w.heap.size + 1 := by simp
  have HB0 := Lib.hid hB0
  have HZ := Lib.hid hZ
  clear hH hE hB0 hZ
  unfold decI
  generalize rdAt s at0 = t at *
  go_enter Tryz.func15, Tryz.ntmps15
  go_wp2_with fail
  refine HC.out.mono ?_
  clear HC
  unfold ReadR
  cases t with
  | error e =>
    rintro e' w1 ⟨p, rfl, hb1⟩
    have hB1 := HB0.out.trans (hb1.mono (by omega))
    have hZ1 := (hb1.block _ (lt_of_heap HZ.out)).trans HZ.out
    have hz1 : w.heap.size < w1.heap.size := lt_of_heap hZ1
    have HB1 := Lib.hid hB1
    have HZ1 := Lib.hid hZ1
    have HE1 := Lib.hid (HE.out.below hb1)
    clear hB1 hZ1 hb1 HB0 HZ hW0 HE
    have hw := placedV_wrong p e
    generalize placedV p e = pv at *
    have HW := Lib.hid hw
    clear hw
    go_wp2_with fail
    refine (itellp_bad _ _ _ _ _ _ _ pv e _ HE1.out HW.out).mono ?_
    rintro e' w2 ⟨rfl, hb2⟩
    have hZ2 := (hb2.block _ (by omega)).trans HZ1.out
    have hz2 : w.heap.size < w2.heap.size := lt_of_heap hZ2
    have k0 := heap_cell hZ2 0 _ rfl
    have f0 := heap_frozen hZ2 0
    have k1 := heap_cell hZ2 1 _ rfl
    have f1 := heap_frozen hZ2 1
    have k2 := heap_cell hZ2 2 _ rfl
    have f2 := heap_frozen hZ2 2
    have k3 := heap_cell hZ2 3 _ rfl
    have f3 := heap_frozen hZ2 3
    have HB := Lib.hid (HB1.out.trans (hb2.mono (by omega)))
    clear hb2 hZ2 HB1 HZ1 HE1
    go_wp2_with fail
    go_region
    all_goals go_wp2_with fail
    all_goals refine bodyPost_ret (v := .tuple #[.agg #[.int .i64 0, .int .i64 0, .string ⟨#[]⟩, .slice none 0 0], .int .i64 0, .int .i64 e]) (by simp [results, Tryz.results15, go_sem, hz2, Nat.lt_succ_of_lt hz2, Nat.ne_of_lt hz2, k0, k1, k2, k3]) rfl ⟨0, 0, ⟨#[]⟩, none, 0, 0, rfl, ItV.zero, ?_⟩
    all_goals exact (((((HB.out.setCell (by simp) _).setCell (by simp) _).setCell (by simp) _).setCell (by simp) _).alloc (by simp; omega) _).drew
  | ok t =>
    obtain ⟨x, r, c'⟩ := t
    rintro e' w1 ⟨k, nn, q, p, l, cap, rfl, hx, hb1⟩
    have hB1 := HB0.out.trans (hb1.mono (by omega))
    have hZ1 := (hb1.block _ (lt_of_heap HZ.out)).trans HZ.out
    have hz1 : w.heap.size < w1.heap.size := lt_of_heap hZ1
    have hx1 : ItV (fun b => w.heap.size + 1 ≤ b) w1 x (.agg #[.int .i64 k, .int .i64 nn, .string q, .slice p l cap]) := by rw [hW0] at hx; exact hx
    have HX := Lib.hid hx1
    have HB1 := Lib.hid hB1
    have HZ1 := Lib.hid hZ1
    clear hB1 hZ1 hb1 HB0 HZ hW0 HE hx hx1
    go_wp2_with fail
    refine (itellp_ok _ _ _ _ _ _ _ _).mono ?_
    rintro e' w2 ⟨rfl, hb2⟩
    have hZ2 := (hb2.block _ (by omega)).trans HZ1.out
    have hz2 : w.heap.size < w2.heap.size := lt_of_heap hZ2
    have k0 := heap_cell hZ2 0 _ rfl
    have f0 := heap_frozen hZ2 0
    have k1 := heap_cell hZ2 1 _ rfl
    have f1 := heap_frozen hZ2 1
    have k2 := heap_cell hZ2 2 _ rfl
    have f2 := heap_frozen hZ2 2
    have k3 := heap_cell hZ2 3 _ rfl
    have f3 := heap_frozen hZ2 3
    have HB := Lib.hid (HB1.out.trans (hb2.mono (by omega)))
    have HX2 := Lib.hid (HX.out.below hb2)
    clear hb2 hZ2 HB1 HZ1 HX
    go_wp2_with fail
    go_region
    all_goals go_wp2_with fail
    all_goals refine bodyPost_ret (v := .tuple #[.agg #[.int .i64 k, .int .i64 nn, .string q, .slice p l cap], .int .i64 ((s.size - r.length : Nat) : Int), .int .i64 0]) (by simp [results, Tryz.results15, go_sem, hz2, Nat.lt_succ_of_lt hz2, Nat.ne_of_lt hz2, k0, k1, k2, k3]) rfl ⟨k, nn, q, p, l, cap, rfl, ?_, ?_⟩
    all_goals first
      | exact (((((HB.out.setCell (by simp) _).setCell (by simp) _).setCell (by simp) _).setCell (by simp) _).alloc (by simp; omega) _).drew
      | (refine ItV.drew (ItV.below ?_ ((Below.refl _ _).alloc (Nat.le_refl _) _))
         refine ItV.keep (fun a v hb e => ⟨?_, by omega⟩) x _ HX2.out
         have hne : a.block ≠ w.heap.size := by omega
         exact ((cell_heap (Below.heap_setCell _ _ _ _ hne)).trans ((cell_heap (Below.heap_setCell _ _ _ _ hne)).trans ((cell_heap (Below.heap_setCell _ _ _ _ hne)).trans ((cell_heap (Below.heap_setCell _ _ _ _ hne)).trans e)))))

/-- What readWhole answers. -/
def ReadWR (w : World) (t : Itm × Int) (e' : Ending) (w' : World) : Prop :=
  if t.2 = 0 then ∃ (k nn : Int) (q : ByteArray) (p : Option Addr) (l cap : Nat), e' = .returned (.agg #[.int .i64 k, .int .i64 nn, .string q, .slice p l cap, .nilIface]) ∧ ItV (fun b => w.heap.size ≤ b) w' t.1 (.agg #[.int .i64 k, .int .i64 nn, .string q, .slice p l cap]) ∧ Below w.heap.size w w'
  else ∃ p, e' = .returned (badA (placedV p t.2)) ∧ Below w.heap.size w w'

theorem rd_err_ne : ∀ (f c : Nat) (l : List UInt8) (e : Int), rd f c l = .error e → e ≠ 0 := by
  intro f
  induction f with
  | zero => intro c l e h; simp only [rd, Except.error.injEq] at h; subst h; decide
  | succ f ih =>
    have ihs : ∀ (n c : Nat) (l : List UInt8) (e : Int), rdN (rd f) n c l = .error e → e ≠ 0 := by
      intro n
      induction n with
      | zero => intro c l e h; simp [rdN] at h
      | succ n ihn =>
        intro c l e h
        rw [rdN] at h
        cases h1 : rd f c l with
        | error e1 => rw [h1] at h; simp only [Except.error.injEq] at h; subst h; exact ih _ _ _ h1
        | ok y =>
          obtain ⟨y, r1, c1⟩ := y
          rw [h1] at h
          simp only [] at h
          cases h2 : rdN (rd f) n c1 r1 with
          | error e2 => rw [h2] at h; simp only [Except.error.injEq] at h; subst h; exact ihn _ _ _ h2
          | ok ys => obtain ⟨ys, r2, c2⟩ := ys; rw [h2] at h; cases h
    intro c l e h
    rw [rd] at h
    by_cases h60 : 60 ≤ c
    · rw [if_pos h60] at h; simp only [Except.error.injEq] at h; subst h; decide
    rw [if_neg h60] at h
    cases hd : hdL l with
    | error e1 => rw [hd] at h; simp only [Except.error.injEq] at h; subst h; rcases hdL_err hd with rfl | rfl | rfl <;> decide
    | ok t =>
      obtain ⟨m, n, k⟩ := t
      rw [hd] at h
      simp only [] at h
      by_cases h0 : m = 0
      · rw [if_pos h0] at h; cases h
      rw [if_neg h0] at h
      by_cases h4 : m = 4
      · rw [if_pos h4] at h
        cases h2 : rdN (rd f) n (c + 1) (l.drop k) with
        | error e2 => rw [h2] at h; simp only [Except.error.injEq] at h; subst h; exact ihs _ _ _ _ h2
        | ok ys => obtain ⟨ys, r2, c2⟩ := ys; rw [h2] at h; cases h
      rw [if_neg h4] at h
      by_cases h6 : 600 < n
      · rw [if_pos h6] at h; simp only [Except.error.injEq] at h; subst h; decide
      rw [if_neg h6] at h
      by_cases hl : (l.drop k).length < n
      · rw [if_pos hl] at h; simp only [Except.error.injEq] at h; subst h; decide
      rw [if_neg hl] at h
      by_cases ht : m = 3 ∧ txtB ((l.drop k).take n) = false
      · rw [if_pos ht] at h; simp only [Except.error.injEq] at h; subst h; decide
      rw [if_neg ht] at h
      cases h
theorem rdAt_err_ne {s : ByteArray} {at0 e : Int} (h : rdAt s at0 = .error e) : e ≠ 0 := by
  unfold rdAt at h
  by_cases h1 : at0 < 0 ∨ (s.size : Int) ≤ at0
  · rw [if_pos h1] at h; simp only [Except.error.injEq] at h; subst h; decide
  · rw [if_neg h1] at h; exact rd_err_ne _ _ _ _ h
theorem rdAt_ok {s : ByteArray} {at0 : Int} {x : Itm} {r : List UInt8} {c : Nat} (h : rdAt s at0 = .ok (x, r, c)) : ∃ i : Nat, at0 = i ∧ i < s.size ∧ r.length ≤ s.size ∧ irdR (s.data.toList.drop i) = .ok (x, r) := by
  unfold rdAt at h
  by_cases h1 : at0 < 0 ∨ (s.size : Int) ≤ at0
  · rw [if_pos h1] at h; cases h
  · rw [if_neg h1] at h
    obtain ⟨i, rfl⟩ := Int.eq_ofNat_of_zero_le (show 0 ≤ at0 by omega)
    rw [Int.toNat_natCast] at h
    obtain ⟨_, _, _, _, h5⟩ := rd_back _ _ _ _ _ _ h
    refine ⟨i, rfl, by omega, ?_, by unfold irdR; rw [h]⟩
    have := congrArg List.length h5
    rw [drop_len_ba, List.length_append] at this
    omega

set_option maxRecDepth 100000 in
set_option maxHeartbeats 4000000 in
theorem readWhole_any (s : ByteArray) (w : World) (hH : HeadOK w) (hs : s.size ≤ 1000000) :
    Calls Tryz.prog 32 #[.string s] w (ReadWR w (wholeI s)) := by
  have hB0 : Below w.heap.size w (w.alloc (.cells #[.int .i64 0, .int .i64 0, .string ⟨#[]⟩, .slice none 0 0, .nilIface] 63)) := (Below.refl _ _).alloc (Nat.le_refl _) _
  have hZ : (w.alloc (.cells #[.int .i64 0, .int .i64 0, .string ⟨#[]⟩, .slice none 0 0, .nilIface] 63)).heap[w.heap.size]? = some (.cells #[.int .i64 0, .int .i64 0, .string ⟨#[]⟩, .slice none 0 0, .nilIface] 63 (0, 0)) := World.alloc_heap_new w _
  have HC := Lib.hid (read_any s 0 _ (hH.below hB0) hs)
  have hW0 : (w.alloc (.cells #[.int .i64 0, .int .i64 0, .string ⟨#[]⟩, .slice none 0 0, .nilIface] 63)).heap.size = w.heap.size + 1 := by simp
  have HB0 := Lib.hid hB0
  have HZ := Lib.hid hZ
  clear hH hB0 hZ
  have hne := @rdAt_err_ne s 0
  have hok := @rdAt_ok s 0
  unfold wholeI
  generalize rdAt s 0 = t at *
  cases t with
  | error e =>
    have he := hne rfl
    unfold ReadR placedV at HC
    unfold ReadWR badA placedV
    simp only [if_neg he] at HC ⊢
    clear hne hok he
    go_enter Tryz.func32, Tryz.ntmps32
    go_wp2_with fail
    refine HC.out.mono ?_
    clear HC
    rintro e' w1 ⟨p, rfl, hb1⟩
    have hB1 := HB0.out.trans (hb1.mono (by omega))
    have hZ1 := (hb1.block _ (lt_of_heap HZ.out)).trans HZ.out
    have hz1 : w.heap.size < w1.heap.size := lt_of_heap hZ1
    have HB1 := Lib.hid hB1
    have HZ1 := Lib.hid hZ1
    clear hB1 hZ1 hb1 HB0 HZ hW0
    go_wp2_with fail
    refine (ibadi_any _ _ _).mono ?_
    rintro e2 w2 ⟨rfl, hb2⟩
    have hZ2 := (hb2.block _ (by simp; omega)).trans ((Below.heap_alloc _ _ _ (by omega)).trans HZ1.out)
    have k0 := heap_cell hZ2 0 _ rfl
    have f0 := heap_frozen hZ2 0
    have k1 := heap_cell hZ2 1 _ rfl
    have f1 := heap_frozen hZ2 1
    have k2 := heap_cell hZ2 2 _ rfl
    have f2 := heap_frozen hZ2 2
    have k3 := heap_cell hZ2 3 _ rfl
    have f3 := heap_frozen hZ2 3
    have k4 := heap_cell hZ2 4 _ rfl
    have f4 := heap_frozen hZ2 4
    have HB := Lib.hid ((HB1.out.alloc (by omega) (.cells #[.int .i64 0, .int .i64 0, .string ⟨#[]⟩, .slice none 0 0, .int .i64 0, .iface 94 (.agg #[.int .i64 p, .iface 75 (.agg #[.int .i64 e])])] 55)).trans (hb2.mono (by simp; omega)))
    clear hb2 hZ2 HB1 HZ1
    go_wp2_with fail
    refine bodyPost_ret (v := .agg #[.int .i64 0, .int .i64 0, .string ⟨#[]⟩, .slice none 0 0, .iface 94 (.agg #[.int .i64 p, .iface 75 (.agg #[.int .i64 _])])]) (by simp [results, Tryz.results32, go_sem, k0, k1, k2, k3, k4]) rfl ⟨p, rfl, ?_⟩
    exact (((((HB.out.setCell (by simp) _).setCell (by simp) _).setCell (by simp) _).setCell (by simp) _).setCell (by simp) _)
  | ok t =>
    obtain ⟨x, r, c'⟩ := t
    obtain ⟨i, hi0, hi1, hrl, _⟩ := hok rfl
    unfold ReadR at HC
    clear hne hok
    by_cases hr : r.length = 0
    · have b1 : (((s.size - r.length : Nat) : Int) == (s.size : Int)) = true := by simp; omega
      simp only [if_pos hr]
      have hrz : ((s.size - r.length : Nat) : Int) = (s.size : Int) := by omega
      dsimp only at HC
      rw [hrz] at HC
      clear b1 hrz hr hi0 hi1 hrl
      unfold ReadWR
      simp only [if_true]
      go_enter Tryz.func32, Tryz.ntmps32
      go_wp2_with fail
      refine HC.out.mono ?_
      clear HC
      rintro e' w1 ⟨k, nn, q, p, l, cap, rfl, hx, hb1⟩
      have hB1 := HB0.out.trans (hb1.mono (by omega))
      have hZ1 := (hb1.block _ (lt_of_heap HZ.out)).trans HZ.out
      have hz1 : w.heap.size < w1.heap.size := lt_of_heap hZ1
      have hx1 : ItV (fun b => w.heap.size + 1 ≤ b) w1 x (.agg #[.int .i64 k, .int .i64 nn, .string q, .slice p l cap]) := by rw [hW0] at hx; exact hx
      have HX := Lib.hid hx1
      have HB1 := Lib.hid hB1
      have HZ1 := Lib.hid hZ1
      clear hB1 hZ1 hb1 HB0 HZ hW0 hx hx1
      go_wp2_with fail
      refine (igoodi_any _ _ _ _ _ _ _).mono ?_
      rintro e2 w2 ⟨rfl, hb2⟩
      have hZ2 := (hb2.block _ (by simp; omega)).trans ((Below.heap_alloc _ _ _ (by omega)).trans HZ1.out)
      have k0 := heap_cell hZ2 0 _ rfl
      have f0 := heap_frozen hZ2 0
      have k1 := heap_cell hZ2 1 _ rfl
      have f1 := heap_frozen hZ2 1
      have k2 := heap_cell hZ2 2 _ rfl
      have f2 := heap_frozen hZ2 2
      have k3 := heap_cell hZ2 3 _ rfl
      have f3 := heap_frozen hZ2 3
      have k4 := heap_cell hZ2 4 _ rfl
      have f4 := heap_frozen hZ2 4
      have HB := Lib.hid ((HB1.out.alloc (by omega) (.cells #[.int .i64 k, .int .i64 nn, .string q, .slice p l cap, .int .i64 (s.size : Int), .nilIface] 55)).trans (hb2.mono (by simp; omega)))
      have HX2 := Lib.hid ((HX.out.below ((Below.refl _ _).alloc (Nat.le_refl _) _)).below hb2)
      clear hb2 hZ2 HB1 HZ1 HX
      go_wp2_with fail
      refine bodyPost_ret (v := .agg #[.int .i64 k, .int .i64 nn, .string q, .slice p l cap, .nilIface]) (by simp [results, Tryz.results32, go_sem, k0, k1, k2, k3, k4]) rfl ⟨k, nn, q, p, l, cap, rfl, ?_, ?_⟩
      · refine ItV.keep (fun a v hb e => ⟨?_, by omega⟩) x _ HX2.out
        have hne : a.block ≠ w.heap.size := by omega
        exact ((cell_heap (Below.heap_setCell _ _ _ _ hne)).trans ((cell_heap (Below.heap_setCell _ _ _ _ hne)).trans ((cell_heap (Below.heap_setCell _ _ _ _ hne)).trans ((cell_heap (Below.heap_setCell _ _ _ _ hne)).trans ((cell_heap (Below.heap_setCell _ _ _ _ hne)).trans e)))))
      · exact (((((HB.out.setCell (by simp) _).setCell (by simp) _).setCell (by simp) _).setCell (by simp) _).setCell (by simp) _)
    · simp only [if_neg hr]
      have hg : ∃ g : Int, ((s.size - r.length : Nat) : Int) = g ∧ (g != (s.size : Int)) = true := ⟨_, rfl, by simp; omega⟩
      obtain ⟨g, hg, b1⟩ := hg
      dsimp only at HC
      rw [hg] at HC
      clear hg hr hi0 hi1 hrl
      unfold ReadWR badA placedV
      simp only [if_neg (show ¬ ((20 : Int) = 0) by decide)]
      go_enter Tryz.func32, Tryz.ntmps32
      go_wp2_with fail
      refine HC.out.mono ?_
      clear HC
      rintro e' w1 ⟨k, nn, q, p, l, cap, rfl, hx, hb1⟩
      have hB1 := HB0.out.trans (hb1.mono (by omega))
      have hZ1 := (hb1.block _ (lt_of_heap HZ.out)).trans HZ.out
      have hz1 : w.heap.size < w1.heap.size := lt_of_heap hZ1
      have HB1 := Lib.hid hB1
      have HZ1 := Lib.hid hZ1
      clear hB1 hZ1 hb1 HB0 HZ hW0 hx
      go_wp2_with fail
      refine (ibadi_any _ _ _).mono ?_
      rintro e2 w2 ⟨rfl, hb2⟩
      have hZ2 := (hb2.block _ (by simp; omega)).trans ((Below.heap_alloc _ _ _ (by omega)).trans HZ1.out)
      have k0 := heap_cell hZ2 0 _ rfl
      have f0 := heap_frozen hZ2 0
      have k1 := heap_cell hZ2 1 _ rfl
      have f1 := heap_frozen hZ2 1
      have k2 := heap_cell hZ2 2 _ rfl
      have f2 := heap_frozen hZ2 2
      have k3 := heap_cell hZ2 3 _ rfl
      have f3 := heap_frozen hZ2 3
      have k4 := heap_cell hZ2 4 _ rfl
      have f4 := heap_frozen hZ2 4
      have HB := Lib.hid ((HB1.out.alloc (by omega) (.cells #[.int .i64 k, .int .i64 nn, .string q, .slice p l cap, .int .i64 g, .nilIface] 55)).trans (hb2.mono (by simp; omega)))
      clear hb2 hZ2 HB1 HZ1
      go_wp2_with fail
      refine bodyPost_ret (v := .agg #[.int .i64 0, .int .i64 0, .string ⟨#[]⟩, .slice none 0 0, .iface 94 (.agg #[.int .i64 g, .iface 75 (.agg #[.int .i64 20])])]) (by simp [results, Tryz.results32, go_sem, k0, k1, k2, k3, k4]) rfl ⟨g, rfl, ?_⟩
      exact (((((HB.out.setCell (by simp) _).setCell (by simp) _).setCell (by simp) _).setCell (by simp) _).setCell (by simp) _)

theorem wholeI_bad (s : ByteArray) (h : (wholeI s).2 ≠ 0) : (wholeI s).1 = .mk 0 0 [] [] := by
  unfold wholeI at h ⊢
  cases hr : rdAt s 0 with
  | error e => rfl
  | ok t =>
    obtain ⟨x, r, c⟩ := t
    rw [hr] at h
    simp only at h ⊢
    by_cases h0 : r.length = 0
    · rw [if_pos h0] at h; exact absurd rfl h
    · rw [if_neg h0]

set_option maxRecDepth 100000 in
set_option maxHeartbeats 4000000 in
theorem iwhole_any (s : ByteArray) (w : World) (hH : HeadOK w) (hE : EnvE w) (hs : s.size ≤ 1000000) :
    Calls Tryz.prog 17 #[.string s] w fun e' w' => ∃ (k nn : Int) (q : ByteArray) (p : Option Addr) (l cap : Nat), e' = .returned (.tuple #[.agg #[.int .i64 k, .int .i64 nn, .string q, .slice p l cap], .int .i64 (wholeI s).2]) ∧ ItV (fun b => w.heap.size ≤ b) w' (wholeI s).1 (.agg #[.int .i64 k, .int .i64 nn, .string q, .slice p l cap]) ∧ Below w.heap.size w w' := by
  have hB0 : Below w.heap.size w (w.alloc (.cells #[.int .i64 0, .int .i64 0, .string ⟨#[]⟩, .slice none 0 0] 24)) := (Below.refl _ _).alloc (Nat.le_refl _) _
  have hZ : (w.alloc (.cells #[.int .i64 0, .int .i64 0, .string ⟨#[]⟩, .slice none 0 0] 24)).heap[w.heap.size]? = some (.cells #[.int .i64 0, .int .i64 0, .string ⟨#[]⟩, .slice none 0 0] 24 (0, 0)) := World.alloc_heap_new w _
  have HC := Lib.hid (readWhole_any s _ (hH.below hB0) hs)
  have HE := Lib.hid (hE.below hB0)
  have hW0 : (w.alloc (.cells #[.int .i64 0, .int .i64 0, .string ⟨#[]⟩, .slice none 0 0] 24)).heap.size = w.heap.size + 1 := by simp
  have HB0 := Lib.hid hB0
  have HZ := Lib.hid hZ
  have hbad := wholeI_bad s
  clear hH hE hB0 hZ
  generalize wholeI s = t at *
  obtain ⟨x, e⟩ := t
  unfold ReadWR at HC
  simp only at HC hbad ⊢
  by_cases he : e = 0
  · subst he
    clear hbad
    simp only [if_true] at HC
    go_enter Tryz.func17, Tryz.ntmps17
    go_wp2_with fail
    refine HC.out.mono ?_
    clear HC
    rintro e' w1 ⟨k, nn, q, p, l, cap, rfl, hx, hb1⟩
    have hB1 := HB0.out.trans (hb1.mono (by omega))
    have hZ1 := (hb1.block _ (lt_of_heap HZ.out)).trans HZ.out
    have hz1 : w.heap.size < w1.heap.size := lt_of_heap hZ1
    have hx1 : ItV (fun b => w.heap.size + 1 ≤ b) w1 x (.agg #[.int .i64 k, .int .i64 nn, .string q, .slice p l cap]) := by rw [hW0] at hx; exact hx
    have HX := Lib.hid hx1
    have HB1 := Lib.hid hB1
    have HZ1 := Lib.hid hZ1
    clear hB1 hZ1 hb1 HB0 HZ hW0 HE hx hx1
    go_wp2_with fail
    refine (itelli_ok _ _ _ _ _ _ _).mono ?_
    rintro e' w2 ⟨rfl, hb2⟩
    have hZ2 := (hb2.block _ (by omega)).trans HZ1.out
    have k0 := heap_cell hZ2 0 _ rfl
    have f0 := heap_frozen hZ2 0
    have k1 := heap_cell hZ2 1 _ rfl
    have f1 := heap_frozen hZ2 1
    have k2 := heap_cell hZ2 2 _ rfl
    have f2 := heap_frozen hZ2 2
    have k3 := heap_cell hZ2 3 _ rfl
    have f3 := heap_frozen hZ2 3
    have HB := Lib.hid (HB1.out.trans (hb2.mono (by omega)))
    have HX2 := Lib.hid (HX.out.below hb2)
    clear hb2 hZ2 HB1 HZ1 HX
    go_wp2_with fail
    refine bodyPost_ret (v := .tuple #[.agg #[.int .i64 k, .int .i64 nn, .string q, .slice p l cap], .int .i64 0]) (by simp [results, Tryz.results17, go_sem, k0, k1, k2, k3]) rfl ⟨k, nn, q, p, l, cap, rfl, ?_, ?_⟩
    · refine ItV.keep (fun a v hb e => ⟨?_, by omega⟩) x _ HX2.out
      have hne : a.block ≠ w.heap.size := by omega
      exact ((cell_heap (Below.heap_setCell _ _ _ _ hne)).trans ((cell_heap (Below.heap_setCell _ _ _ _ hne)).trans ((cell_heap (Below.heap_setCell _ _ _ _ hne)).trans ((cell_heap (Below.heap_setCell _ _ _ _ hne)).trans e))))
    · exact ((((HB.out.setCell (by simp) _).setCell (by simp) _).setCell (by simp) _).setCell (by simp) _)
  · obtain rfl := hbad he
    simp only [if_neg he] at HC
    clear hbad
    go_enter Tryz.func17, Tryz.ntmps17
    go_wp2_with fail
    refine HC.out.mono ?_
    clear HC
    unfold badA
    rintro e' w1 ⟨p, rfl, hb1⟩
    have hB1 := HB0.out.trans (hb1.mono (by omega))
    have hZ1 := (hb1.block _ (lt_of_heap HZ.out)).trans HZ.out
    have hz1 : w.heap.size < w1.heap.size := lt_of_heap hZ1
    have HB1 := Lib.hid hB1
    have HZ1 := Lib.hid hZ1
    have HE1 := Lib.hid (HE.out.below hb1)
    clear hB1 hZ1 hb1 HB0 HZ hW0 HE he
    have hw := placedV_wrong p e
    generalize placedV p e = pv at *
    have HW := Lib.hid hw
    clear hw
    go_wp2_with fail
    refine (itelli_bad _ _ _ _ _ _ pv e _ HE1.out HW.out).mono ?_
    rintro e' w2 ⟨rfl, hb2⟩
    have hZ2 := (hb2.block _ (by omega)).trans HZ1.out
    have k0 := heap_cell hZ2 0 _ rfl
    have f0 := heap_frozen hZ2 0
    have k1 := heap_cell hZ2 1 _ rfl
    have f1 := heap_frozen hZ2 1
    have k2 := heap_cell hZ2 2 _ rfl
    have f2 := heap_frozen hZ2 2
    have k3 := heap_cell hZ2 3 _ rfl
    have f3 := heap_frozen hZ2 3
    have HB := Lib.hid (HB1.out.trans (hb2.mono (by omega)))
    clear hb2 hZ2 HB1 HZ1 HE1
    go_wp2_with fail
    refine bodyPost_ret (v := .tuple #[.agg #[.int .i64 0, .int .i64 0, .string ⟨#[]⟩, .slice none 0 0], .int .i64 e]) (by simp [results, Tryz.results17, go_sem, k0, k1, k2, k3]) rfl ⟨0, 0, ⟨#[]⟩, none, 0, 0, rfl, ItV.zero, ?_⟩
    exact ((((HB.out.setCell (by simp) _).setCell (by simp) _).setCell (by simp) _).setCell (by simp) _)
end Go.Proofs.YtljfgchmogdljaaGreatDoor
