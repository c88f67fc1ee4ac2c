/- Contracts of a reader's number, data, letters and kinds of package item. -/
import Derived.Test.YtmbmolgkccjedaaGreatDoorIText
import Derived.WideMake
set_option linter.unusedVariables false
set_option linter.unusedSimpArgs false
namespace Go.Proofs.YtmbmolgkccjedaaGreatDoor
open Go.RowKit

/-- An answer that is wrong. -/
def badA (v : Value) : Value := .agg #[.int .i64 0, .int .i64 0, .string ⟨#[]⟩, .slice none 0 0, v]

set_option maxHeartbeats 1000000 in
theorem number_item (R : Nat) (n : Int) (w : World) :
    Calls Tryz.prog 154 #[.pointer (some ⟨R, 0, none⟩), .int .i64 n] w fun e w' => e = .returned (.agg #[.int .i64 0, .int .i64 n, .string ⟨#[]⟩, .slice none 0 0, .nilIface]) ∧ Below w.heap.size w w' := by
  go_enter Tryz.func154, Tryz.ntmps154
  go_wp2_with fail
  refine (igoodi_any _ _ _ _ _ _ _).mono ?_
  rintro e w1 ⟨rfl, hb1⟩
  have k0 : w1.cell? ⟨w.heap.size, 0, none⟩ = some (.int .i64 0) := (hb1.cell (p := ⟨w.heap.size, 0, none⟩) (by simp <;> omega)).trans (by go_simp)
  have k1 : w1.cell? ⟨w.heap.size, 1, none⟩ = some (.int .i64 0) := (hb1.cell (p := ⟨w.heap.size, 1, none⟩) (by simp <;> omega)).trans (by go_simp)
  have k2 : w1.cell? ⟨w.heap.size, 2, none⟩ = some (.string ⟨#[]⟩) := (hb1.cell (p := ⟨w.heap.size, 2, none⟩) (by simp <;> omega)).trans (by go_simp)
  have k3 : w1.cell? ⟨w.heap.size, 3, none⟩ = some (.slice none 0 0) := (hb1.cell (p := ⟨w.heap.size, 3, none⟩) (by simp <;> omega)).trans (by go_simp)
  have k4 : w1.cell? ⟨w.heap.size, 4, none⟩ = some (.nilIface) := (hb1.cell (p := ⟨w.heap.size, 4, none⟩) (by simp <;> omega)).trans (by go_simp)
  have f0 : w1.frozen? ⟨w.heap.size, 0, none⟩ = false := (hb1.frozen (p := ⟨w.heap.size, 0, none⟩) (by simp <;> omega)).trans (by go_simp)
  have f1 : w1.frozen? ⟨w.heap.size, 1, none⟩ = false := (hb1.frozen (p := ⟨w.heap.size, 1, none⟩) (by simp <;> omega)).trans (by go_simp)
  have f2 : w1.frozen? ⟨w.heap.size, 2, none⟩ = false := (hb1.frozen (p := ⟨w.heap.size, 2, none⟩) (by simp <;> omega)).trans (by go_simp)
  have f3 : w1.frozen? ⟨w.heap.size, 3, none⟩ = false := (hb1.frozen (p := ⟨w.heap.size, 3, none⟩) (by simp <;> omega)).trans (by go_simp)
  have f4 : w1.frozen? ⟨w.heap.size, 4, none⟩ = false := (hb1.frozen (p := ⟨w.heap.size, 4, none⟩) (by simp <;> omega)).trans (by go_simp)
  have HB := Lib.hid (((Below.refl w.heap.size w).alloc (Nat.le_refl _) _).trans (hb1.mono (by simp)))
  clear hb1
  go_wp2_with fail
  refine bodyPost_ret (v := .agg #[.int .i64 0, .int .i64 n, .string ⟨#[]⟩, .slice none 0 0, .nilIface]) (by simp [results, Tryz.results154, go_sem, k0, k1, k2, k3, k4]) rfl ⟨rfl, ?_⟩
  exact ((((HB.out.setCell (by simp) _).setCell (by simp) _).setCell (by simp) _).setCell (by simp) _).setCell (by simp) _

theorem ins_ex (b clock : Nat) (es : Array MapEntry) (k : Int) (v : Value) (w : World) (hb : w.heap[b]? = some (.map es clock)) (hf : Instr.findNow (.int .i64) (.int .i64 k) es.toList 0 = some none) :
    ∃ w', (Instr.mapUpdate 227 (.map (some b)) (.int .i64 k) v).run Tryz.prog w = .ok () w' ∧ w'.heap[b]? = some (.map (es.push { key := .int .i64 k, val := v, born := clock }) (clock + 1)) ∧ w.grownBy w' (some b) := by
  have hlt := lt_of_heap hb
  have hc : (Instr.checkKey false 10000 3 (.int .i64 k)).run Tryz.prog w = .ok () w := MapKept.run_checkKey (k := .int .i64 k) Tryz.underlying3 (by simp [MapKept.IsKey]) false 9999
  refine ⟨_, by simp [Instr.mapUpdate, run_underlying Tryz.underlying227, MapKept.run_getObj_map hb, hc, MapKept.run_findKey Tryz.underlying3 hf, MapKept.run_setObj_map _ hb, Result.andThen]; rfl, ?_, ?_⟩
  · simp [hlt]
  · exact ⟨rfl, rfl, rfl, by simp, fun j hj hne => by
      have : j ≠ b := fun e => hne (by rw [e])
      simp [Array.getElem?_setIfInBounds, Ne.symm this]⟩
theorem look_run (b clock i : Nat) (es : Array MapEntry) (k : Int) (v : Value) (w : World) (hb : w.heap[b]? = some (.map es clock)) (hf : Instr.findNow (.int .i64) (.int .i64 k) es.toList 0 = some (some (i, v))) :
    (Instr.lookup 227 (.map (some b)) (.int .i64 k) false).run Tryz.prog w = .ok v w := by
  have hc : ∀ e, (Instr.checkKey e 10000 3 (.int .i64 k)).run Tryz.prog w = .ok () w := fun e => MapKept.run_checkKey (k := .int .i64 k) Tryz.underlying3 (by simp [MapKept.IsKey]) e 9999
  simp [Instr.lookup, run_underlying Tryz.underlying227, MapKept.run_getObj_map hb, hc, MapKept.run_findKey Tryz.underlying3 hf, Result.andThen]

/-- How each kind is read: the map's entries. -/
def kindsE (R : Nat) : Array MapEntry := #[{ key := .int .i64 0, val := .func (.func 154) #[.pointer (some ⟨R, 0, none⟩)] #[], born := 0 }, { key := .int .i64 2, val := .func (.func 155) #[.pointer (some ⟨R, 0, none⟩)] #[], born := 1 }, { key := .int .i64 3, val := .func (.func 156) #[.pointer (some ⟨R, 0, none⟩)] #[], born := 2 }, { key := .int .i64 4, val := .func (.func 157) #[.pointer (some ⟨R, 0, none⟩)] #[], born := 3 }]

set_option maxHeartbeats 1000000 in
theorem kinds_any (R : Nat) (w : World) :
    Calls Tryz.prog 140 #[.pointer (some ⟨R, 0, none⟩)] w fun e w' => e = .returned (.map (some w.heap.size)) ∧ w'.heap[w.heap.size]? = some (.map (kindsE R) 4) ∧ Below w.heap.size w w' := by
  have hmm := @run_makeMap Tryz.prog
  obtain ⟨w1, r1, h1, g1⟩ := ins_ex w.heap.size 0 #[] 0 (.func (.func 154) #[.pointer (some ⟨R, 0, none⟩)] #[]) (w.alloc (.map #[] 0)) (World.alloc_heap_new w _) rfl
  obtain ⟨w2, r2, h2, g2⟩ := ins_ex w.heap.size 1 _ 2 (.func (.func 155) #[.pointer (some ⟨R, 0, none⟩)] #[]) w1 h1 rfl
  obtain ⟨w3, r3, h3, g3⟩ := ins_ex w.heap.size 2 _ 3 (.func (.func 156) #[.pointer (some ⟨R, 0, none⟩)] #[]) w2 h2 rfl
  obtain ⟨w4, r4, h4, g4⟩ := ins_ex w.heap.size 3 _ 4 (.func (.func 157) #[.pointer (some ⟨R, 0, none⟩)] #[]) w3 h3 rfl
  have hB0 := (Below.refl w.heap.size w).alloc (Nat.le_refl _) (.map #[] 0)
  have hB1 := hB0.grown g1 hB0.size (fun g e => by cases e; exact Nat.le_refl _)
  have hB2 := hB1.grown g2 hB1.size (fun g e => by cases e; exact Nat.le_refl _)
  have hB3 := hB2.grown g3 hB2.size (fun g e => by cases e; exact Nat.le_refl _)
  have HB := Lib.hid (hB3.grown g4 hB3.size (fun g e => by cases e; exact Nat.le_refl _))
  have H4 := Lib.hid h4
  clear hB0 hB1 hB2 hB3 g1 g2 g3 g4 h1 h2 h3 h4
  go_enter Tryz.func140, Tryz.ntmps140
  go_wp2_with fail
  go_ret
  exact ⟨rfl, H4.out, HB.out⟩

/-- What an answer is, of data: what is wrong, or bytes. -/
def DataR (R : Nat) (s : ByteArray) (at0 c d : Int) (kind n : Int) (q : ByteArray) (e : Int) (w : World) (e' : Ending) (w' : World) : Prop :=
  if e = 0 then e' = .returned (.agg #[.int .i64 kind, .int .i64 0, .string q, .slice none 0 0, .nilIface]) ∧ RdS R s (at0 + n) c d w' ∧ Fr R w w' else ∃ p, e' = .returned (badA (placedV p e)) ∧ Fr R w w'

set_option maxRecDepth 100000 in
set_option maxHeartbeats 2000000 in
theorem data_great (R : Nat) (s : ByteArray) (at0 c d n : Int) (w : World) (hS : RdS R s at0 c d w) (hn : 600 < n) :
    Calls Tryz.prog 155 #[.pointer (some ⟨R, 0, none⟩), .int .i64 n] w fun e' w' => e' = .returned (badA (placedV at0 40)) ∧ Fr R w w' := by
  have b1 : decide (600 < n) = true := by simpa using hn
  have hl := hS.lt
  have hS1 := Lib.hid (hS.below ((Below.refl _ _).alloc (Nat.le_refl _) (.cells #[.int .i64 0, .int .i64 0, .string ⟨#[]⟩, .slice none 0 0, .nilIface] 173)))
  clear hS hn
  unfold badA
  go_enter Tryz.func155, Tryz.ntmps155
  go_wp2_with fail
  refine (wrong_any R s at0 c d 40 _ hS1.out).mono ?_
  rintro e' w' ⟨rfl, rfl⟩
  unfold placedV
  go_wp2_with fail
  refine (ibadi_any _ _ _).mono ?_
  rintro e w1 ⟨rfl, hb1⟩
  have k0 : w1.cell? ⟨w.heap.size, 0, none⟩ = some (.int .i64 0) := (hb1.cell (p := ⟨w.heap.size, 0, none⟩) (by simp <;> omega)).trans (by go_simp)
  have k1 : w1.cell? ⟨w.heap.size, 1, none⟩ = some (.int .i64 0) := (hb1.cell (p := ⟨w.heap.size, 1, none⟩) (by simp <;> omega)).trans (by go_simp)
  have k2 : w1.cell? ⟨w.heap.size, 2, none⟩ = some (.string ⟨#[]⟩) := (hb1.cell (p := ⟨w.heap.size, 2, none⟩) (by simp <;> omega)).trans (by go_simp)
  have k3 : w1.cell? ⟨w.heap.size, 3, none⟩ = some (.slice none 0 0) := (hb1.cell (p := ⟨w.heap.size, 3, none⟩) (by simp <;> omega)).trans (by go_simp)
  have k4 : w1.cell? ⟨w.heap.size, 4, none⟩ = some (.nilIface) := (hb1.cell (p := ⟨w.heap.size, 4, none⟩) (by simp <;> omega)).trans (by go_simp)
  have f0 : w1.frozen? ⟨w.heap.size, 0, none⟩ = false := (hb1.frozen (p := ⟨w.heap.size, 0, none⟩) (by simp <;> omega)).trans (by go_simp)
  have f1 : w1.frozen? ⟨w.heap.size, 1, none⟩ = false := (hb1.frozen (p := ⟨w.heap.size, 1, none⟩) (by simp <;> omega)).trans (by go_simp)
  have f2 : w1.frozen? ⟨w.heap.size, 2, none⟩ = false := (hb1.frozen (p := ⟨w.heap.size, 2, none⟩) (by simp <;> omega)).trans (by go_simp)
  have f3 : w1.frozen? ⟨w.heap.size, 3, none⟩ = false := (hb1.frozen (p := ⟨w.heap.size, 3, none⟩) (by simp <;> omega)).trans (by go_simp)
  have f4 : w1.frozen? ⟨w.heap.size, 4, none⟩ = false := (hb1.frozen (p := ⟨w.heap.size, 4, none⟩) (by simp <;> omega)).trans (by go_simp)
  have hB := ((Below.refl w.heap.size w).alloc (Nat.le_refl _) (.cells #[.int .i64 0, .int .i64 0, .string ⟨#[]⟩, .slice none 0 0, .nilIface] 173)).trans (hb1.mono (by simp))
  have HB := Lib.hid hB
  clear hb1 hB
  go_wp2_with fail
  refine bodyPost_ret (v := .agg #[.int .i64 0, .int .i64 0, .string ⟨#[]⟩, .slice none 0 0, .iface 247 (.agg #[.int .i64 at0, .iface 106 (.agg #[.int .i64 40])])]) (by simp [results, Tryz.results155, go_sem, k0, k1, k2, k3, k4]) rfl ⟨rfl, ?_⟩
  exact Fr.below (((((HB.out.setCell (by simp) _).setCell (by simp) _).setCell (by simp) _).setCell (by simp) _).setCell (by simp) _)

set_option maxRecDepth 100000 in
set_option maxHeartbeats 2000000 in
theorem data_any (R : Nat) (s : ByteArray) (at0 c d n : Int) (q : ByteArray) (e : Int) (w : World) (hH : HeadOK w) (hS : RdS R s at0 c d w) (hs : s.size ≤ 1000000) (hD : cutR s at0 n = (q, e)) (ha : at0 ≤ 1000000) (ha0 : 0 ≤ at0) (hn0 : 0 ≤ n) (hn : n ≤ 600) :
    Calls Tryz.prog 155 #[.pointer (some ⟨R, 0, none⟩), .int .i64 n] w (DataR R s at0 c d 2 n q e w) := by
  have b1 : decide (600 < n) = false := by simpa using hn
  have hl := hS.lt
  have hBA := (Below.refl w.heap.size w).alloc (Nat.le_refl _) (.cells #[.int .i64 0, .int .i64 0, .string ⟨#[]⟩, .slice none 0 0, .nilIface] 173)
  have HC := Lib.hid (tcut_any R s at0 c d n q e _ (hH.below hBA) (hS.below hBA) hs hD ha ha0 hn0 hn)
  clear hS hH hD
  unfold DataR badA
  by_cases he : e = 0
  · subst he
    go_enter Tryz.func155, Tryz.ntmps155
    go_wp2_with fail
    refine HC.out.mono ?_
    clear HC
    rintro e' w1 ⟨rfl, hS1, hF1⟩
    have hRne : w.heap.size ≠ R := by omega
    have k0 : w1.cell? ⟨w.heap.size, 0, none⟩ = some (.int .i64 0) := (frCell (p := ⟨w.heap.size, 0, none⟩) hF1 hRne (by simp)).trans (by go_simp)
    have k1 : w1.cell? ⟨w.heap.size, 1, none⟩ = some (.int .i64 0) := (frCell (p := ⟨w.heap.size, 1, none⟩) hF1 hRne (by simp)).trans (by go_simp)
    have k2 : w1.cell? ⟨w.heap.size, 2, none⟩ = some (.string ⟨#[]⟩) := (frCell (p := ⟨w.heap.size, 2, none⟩) hF1 hRne (by simp)).trans (by go_simp)
    have k3 : w1.cell? ⟨w.heap.size, 3, none⟩ = some (.slice none 0 0) := (frCell (p := ⟨w.heap.size, 3, none⟩) hF1 hRne (by simp)).trans (by go_simp)
    have k4 : w1.cell? ⟨w.heap.size, 4, none⟩ = some (.nilIface) := (frCell (p := ⟨w.heap.size, 4, none⟩) hF1 hRne (by simp)).trans (by go_simp)
    have f0 : w1.frozen? ⟨w.heap.size, 0, none⟩ = false := (frFrozen (p := ⟨w.heap.size, 0, none⟩) hF1 hRne (by simp)).trans (by go_simp)
    have f1 : w1.frozen? ⟨w.heap.size, 1, none⟩ = false := (frFrozen (p := ⟨w.heap.size, 1, none⟩) hF1 hRne (by simp)).trans (by go_simp)
    have f2 : w1.frozen? ⟨w.heap.size, 2, none⟩ = false := (frFrozen (p := ⟨w.heap.size, 2, none⟩) hF1 hRne (by simp)).trans (by go_simp)
    have f3 : w1.frozen? ⟨w.heap.size, 3, none⟩ = false := (frFrozen (p := ⟨w.heap.size, 3, none⟩) hF1 hRne (by simp)).trans (by go_simp)
    have f4 : w1.frozen? ⟨w.heap.size, 4, none⟩ = false := (frFrozen (p := ⟨w.heap.size, 4, none⟩) hF1 hRne (by simp)).trans (by go_simp)
    have hz1 : w.heap.size < w1.heap.size := World.block_lt_of_cell? _ _ k0
    have HF1 := Lib.hid ((Fr.below (R := R) ((Below.refl w.heap.size w).alloc (Nat.le_refl _) (.cells #[.int .i64 0, .int .i64 0, .string ⟨#[]⟩, .slice none 0 0, .nilIface] 173))).trans hF1)
    have HS1 := Lib.hid hS1
    clear hF1 hS1
    go_wp2_with fail
    refine (igoodi_any _ _ _ _ _ _ _).mono ?_
    rintro e w2 ⟨rfl, hb2⟩
    replace k0 := (hb2.cell (p := ⟨w.heap.size, 0, none⟩) hz1).trans k0
    replace k1 := (hb2.cell (p := ⟨w.heap.size, 1, none⟩) hz1).trans k1
    replace k2 := (hb2.cell (p := ⟨w.heap.size, 2, none⟩) hz1).trans k2
    replace k3 := (hb2.cell (p := ⟨w.heap.size, 3, none⟩) hz1).trans k3
    replace k4 := (hb2.cell (p := ⟨w.heap.size, 4, none⟩) hz1).trans k4
    replace f0 := (hb2.frozen (p := ⟨w.heap.size, 0, none⟩) hz1).trans f0
    replace f1 := (hb2.frozen (p := ⟨w.heap.size, 1, none⟩) hz1).trans f1
    replace f2 := (hb2.frozen (p := ⟨w.heap.size, 2, none⟩) hz1).trans f2
    replace f3 := (hb2.frozen (p := ⟨w.heap.size, 3, none⟩) hz1).trans f3
    replace f4 := (hb2.frozen (p := ⟨w.heap.size, 4, none⟩) hz1).trans f4
    have HF2 := Lib.hid (HF1.out.trans (Fr.below hb2))
    have HS2 := Lib.hid (HS1.out.below hb2)
    clear hb2
    go_wp2_with fail
    refine bodyPost_ret (v := .agg #[.int .i64 2, .int .i64 0, .string q, .slice none 0 0, .nilIface]) (by simp [results, Tryz.results155, go_sem, k0, k1, k2, k3, k4]) rfl ⟨rfl, ?_, ?_⟩
    · exact ((((HS2.out.other hRne _ _).other hRne _ _).other hRne _ _).other hRne _ _).other hRne _ _
    · exact frNew (frNew (frNew (frNew (frNew HF2.out (Nat.le_refl _) _ _) (Nat.le_refl _) _ _) (Nat.le_refl _) _ _) (Nat.le_refl _) _ _) (Nat.le_refl _) _ _
  · have b2 : (e == 0) = false := by simpa using he
    simp only [if_neg he] at HC ⊢
    have HE := Lib.hid he
    clear he
    unfold placedV at HC ⊢
    go_enter Tryz.func155, Tryz.ntmps155
    go_wp2_with fail
    refine HC.out.mono ?_
    clear HC
    rintro e' w1 ⟨rfl, hF1⟩
    have hRne : w.heap.size ≠ R := by omega
    have k0 : w1.cell? ⟨w.heap.size, 0, none⟩ = some (.int .i64 0) := (frCell (p := ⟨w.heap.size, 0, none⟩) hF1 hRne (by simp)).trans (by go_simp)
    have k1 : w1.cell? ⟨w.heap.size, 1, none⟩ = some (.int .i64 0) := (frCell (p := ⟨w.heap.size, 1, none⟩) hF1 hRne (by simp)).trans (by go_simp)
    have k2 : w1.cell? ⟨w.heap.size, 2, none⟩ = some (.string ⟨#[]⟩) := (frCell (p := ⟨w.heap.size, 2, none⟩) hF1 hRne (by simp)).trans (by go_simp)
    have k3 : w1.cell? ⟨w.heap.size, 3, none⟩ = some (.slice none 0 0) := (frCell (p := ⟨w.heap.size, 3, none⟩) hF1 hRne (by simp)).trans (by go_simp)
    have k4 : w1.cell? ⟨w.heap.size, 4, none⟩ = some (.nilIface) := (frCell (p := ⟨w.heap.size, 4, none⟩) hF1 hRne (by simp)).trans (by go_simp)
    have f0 : w1.frozen? ⟨w.heap.size, 0, none⟩ = false := (frFrozen (p := ⟨w.heap.size, 0, none⟩) hF1 hRne (by simp)).trans (by go_simp)
    have f1 : w1.frozen? ⟨w.heap.size, 1, none⟩ = false := (frFrozen (p := ⟨w.heap.size, 1, none⟩) hF1 hRne (by simp)).trans (by go_simp)
    have f2 : w1.frozen? ⟨w.heap.size, 2, none⟩ = false := (frFrozen (p := ⟨w.heap.size, 2, none⟩) hF1 hRne (by simp)).trans (by go_simp)
    have f3 : w1.frozen? ⟨w.heap.size, 3, none⟩ = false := (frFrozen (p := ⟨w.heap.size, 3, none⟩) hF1 hRne (by simp)).trans (by go_simp)
    have f4 : w1.frozen? ⟨w.heap.size, 4, none⟩ = false := (frFrozen (p := ⟨w.heap.size, 4, none⟩) hF1 hRne (by simp)).trans (by go_simp)
    have hz1 : w.heap.size < w1.heap.size := World.block_lt_of_cell? _ _ k0
    have HF1 := Lib.hid ((Fr.below (R := R) ((Below.refl w.heap.size w).alloc (Nat.le_refl _) (.cells #[.int .i64 0, .int .i64 0, .string ⟨#[]⟩, .slice none 0 0, .nilIface] 173))).trans hF1)
    clear hF1
    go_wp2_with fail
    refine (ibadi_any _ _ _).mono ?_
    rintro e w2 ⟨rfl, hb2⟩
    replace k0 := (hb2.cell (p := ⟨w.heap.size, 0, none⟩) hz1).trans k0
    replace k1 := (hb2.cell (p := ⟨w.heap.size, 1, none⟩) hz1).trans k1
    replace k2 := (hb2.cell (p := ⟨w.heap.size, 2, none⟩) hz1).trans k2
    replace k3 := (hb2.cell (p := ⟨w.heap.size, 3, none⟩) hz1).trans k3
    replace k4 := (hb2.cell (p := ⟨w.heap.size, 4, none⟩) hz1).trans k4
    replace f0 := (hb2.frozen (p := ⟨w.heap.size, 0, none⟩) hz1).trans f0
    replace f1 := (hb2.frozen (p := ⟨w.heap.size, 1, none⟩) hz1).trans f1
    replace f2 := (hb2.frozen (p := ⟨w.heap.size, 2, none⟩) hz1).trans f2
    replace f3 := (hb2.frozen (p := ⟨w.heap.size, 3, none⟩) hz1).trans f3
    replace f4 := (hb2.frozen (p := ⟨w.heap.size, 4, none⟩) hz1).trans f4
    have HF2 := Lib.hid (HF1.out.trans (Fr.below hb2))
    clear hb2
    go_wp2_with fail
    refine bodyPost_ret (v := .agg #[.int .i64 0, .int .i64 0, .string ⟨#[]⟩, .slice none 0 0, .iface 247 (.agg #[.int .i64 at0, .iface 106 (.agg #[.int .i64 e])])]) (by simp [results, Tryz.results155, go_sem, k0, k1, k2, k3, k4]) rfl ⟨at0, rfl, ?_⟩
    exact frNew (frNew (frNew (frNew (frNew HF2.out (Nat.le_refl _) _ _) (Nat.le_refl _) _ _) (Nat.le_refl _) _ _) (Nat.le_refl _) _ _) (Nat.le_refl _) _ _
end Go.Proofs.YtmbmolgkccjedaaGreatDoor

/- Contract of a reader's letters of package item. -/
set_option linter.unusedVariables false
set_option linter.unusedSimpArgs false
namespace Go.Proofs.YtmbmolgkccjedaaGreatDoor
open Go.RowKit

set_option maxRecDepth 100000 in
set_option maxHeartbeats 2000000 in
theorem letters_bad (R : Nat) (n e : Int) (w : World) (hl : R < w.heap.size)
    (hc : Calls Tryz.prog 155 #[.pointer (some ⟨R, 0, none⟩), .int .i64 n] (w.alloc (.cells #[.int .i64 0, .int .i64 0, .string ⟨#[]⟩, .slice none 0 0, .nilIface] 173)) fun e' w' => ∃ p, e' = .returned (badA (placedV p e)) ∧ Fr R (w.alloc (.cells #[.int .i64 0, .int .i64 0, .string ⟨#[]⟩, .slice none 0 0, .nilIface] 173)) w') :
    Calls Tryz.prog 156 #[.pointer (some ⟨R, 0, none⟩), .int .i64 n] w fun e' w' => ∃ p, e' = .returned (badA (placedV p e)) ∧ Fr R w w' := by
  have HC := Lib.hid hc
  clear hc
  unfold badA placedV at HC ⊢
  go_enter Tryz.func156, Tryz.ntmps156
  go_wp2_with fail
  refine HC.out.mono ?_
  clear HC
  rintro e' w1 ⟨p, rfl, hF1⟩
  have hRne : w.heap.size ≠ R := by omega
  have k0 : w1.cell? ⟨w.heap.size, 0, none⟩ = some (.int .i64 0) := (frCell (p := ⟨w.heap.size, 0, none⟩) hF1 hRne (by simp)).trans (by go_simp)
  have k1 : w1.cell? ⟨w.heap.size, 1, none⟩ = some (.int .i64 0) := (frCell (p := ⟨w.heap.size, 1, none⟩) hF1 hRne (by simp)).trans (by go_simp)
  have k2 : w1.cell? ⟨w.heap.size, 2, none⟩ = some (.string ⟨#[]⟩) := (frCell (p := ⟨w.heap.size, 2, none⟩) hF1 hRne (by simp)).trans (by go_simp)
  have k3 : w1.cell? ⟨w.heap.size, 3, none⟩ = some (.slice none 0 0) := (frCell (p := ⟨w.heap.size, 3, none⟩) hF1 hRne (by simp)).trans (by go_simp)
  have k4 : w1.cell? ⟨w.heap.size, 4, none⟩ = some (.nilIface) := (frCell (p := ⟨w.heap.size, 4, none⟩) hF1 hRne (by simp)).trans (by go_simp)
  have f0 : w1.frozen? ⟨w.heap.size, 0, none⟩ = false := (frFrozen (p := ⟨w.heap.size, 0, none⟩) hF1 hRne (by simp)).trans (by go_simp)
  have f1 : w1.frozen? ⟨w.heap.size, 1, none⟩ = false := (frFrozen (p := ⟨w.heap.size, 1, none⟩) hF1 hRne (by simp)).trans (by go_simp)
  have f2 : w1.frozen? ⟨w.heap.size, 2, none⟩ = false := (frFrozen (p := ⟨w.heap.size, 2, none⟩) hF1 hRne (by simp)).trans (by go_simp)
  have f3 : w1.frozen? ⟨w.heap.size, 3, none⟩ = false := (frFrozen (p := ⟨w.heap.size, 3, none⟩) hF1 hRne (by simp)).trans (by go_simp)
  have f4 : w1.frozen? ⟨w.heap.size, 4, none⟩ = false := (frFrozen (p := ⟨w.heap.size, 4, none⟩) hF1 hRne (by simp)).trans (by go_simp)
  have hz1 : w.heap.size < w1.heap.size := World.block_lt_of_cell? _ _ k0
  have hz1n : w.heap.size ≠ w1.heap.size := by omega
  have HF1 := Lib.hid ((Fr.below (R := R) ((Below.refl w.heap.size w).alloc (Nat.le_refl _) (.cells #[.int .i64 0, .int .i64 0, .string ⟨#[]⟩, .slice none 0 0, .nilIface] 173))).trans hF1)
  clear hF1
  go_wp2_with fail
  refine bodyPost_ret (v := .agg #[.int .i64 0, .int .i64 0, .string ⟨#[]⟩, .slice none 0 0, .iface 247 (.agg #[.int .i64 p, .iface 106 (.agg #[.int .i64 e])])]) (by simp [results, Tryz.results156, go_sem, hz1, Nat.lt_succ_of_lt hz1, Nat.ne_of_lt hz1, k0, k1, k2, k3, k4]) rfl ⟨p, rfl, ?_⟩
  exact frAlloc (frNew (frNew (frNew (frNew (frNew HF1.out (Nat.le_refl _) _ _) (Nat.le_refl _) _ _) (Nat.le_refl _) _ _) (Nat.le_refl _) _ _) (Nat.le_refl _) _ _) _

set_option maxRecDepth 100000 in
set_option maxHeartbeats 2000000 in
theorem letters_ok (R : Nat) (s : ByteArray) (at0 c d n : Int) (q : ByteArray) (w : World) (hl : R < w.heap.size) (hq : q.size ≤ maxLen)
    (hc : Calls Tryz.prog 155 #[.pointer (some ⟨R, 0, none⟩), .int .i64 n] (w.alloc (.cells #[.int .i64 0, .int .i64 0, .string ⟨#[]⟩, .slice none 0 0, .nilIface] 173)) fun e' w' => e' = .returned (.agg #[.int .i64 2, .int .i64 0, .string q, .slice none 0 0, .nilIface]) ∧ RdS R s (at0 + n) c d w' ∧ Fr R (w.alloc (.cells #[.int .i64 0, .int .i64 0, .string ⟨#[]⟩, .slice none 0 0, .nilIface] 173)) w') :
    Calls Tryz.prog 156 #[.pointer (some ⟨R, 0, none⟩), .int .i64 n] w (DataR R s at0 c d 3 n q (if txtB q.data.toList = true then 0 else 20) w) := by
  have HC := Lib.hid hc
  clear hc
  unfold DataR badA placedV
  cases ht : txtB q.data.toList with
  | true =>
    simp only [if_true]
    go_enter Tryz.func156, Tryz.ntmps156
    go_wp2_with fail
    refine HC.out.mono ?_
    clear HC
    rintro e' w1 ⟨rfl, hS1, hF1⟩
    have hRne : w.heap.size ≠ R := by omega
    have k0 : w1.cell? ⟨w.heap.size, 0, none⟩ = some (.int .i64 0) := (frCell (p := ⟨w.heap.size, 0, none⟩) hF1 hRne (by simp)).trans (by go_simp)
    have k1 : w1.cell? ⟨w.heap.size, 1, none⟩ = some (.int .i64 0) := (frCell (p := ⟨w.heap.size, 1, none⟩) hF1 hRne (by simp)).trans (by go_simp)
    have k2 : w1.cell? ⟨w.heap.size, 2, none⟩ = some (.string ⟨#[]⟩) := (frCell (p := ⟨w.heap.size, 2, none⟩) hF1 hRne (by simp)).trans (by go_simp)
    have k3 : w1.cell? ⟨w.heap.size, 3, none⟩ = some (.slice none 0 0) := (frCell (p := ⟨w.heap.size, 3, none⟩) hF1 hRne (by simp)).trans (by go_simp)
    have k4 : w1.cell? ⟨w.heap.size, 4, none⟩ = some (.nilIface) := (frCell (p := ⟨w.heap.size, 4, none⟩) hF1 hRne (by simp)).trans (by go_simp)
    have f0 : w1.frozen? ⟨w.heap.size, 0, none⟩ = false := (frFrozen (p := ⟨w.heap.size, 0, none⟩) hF1 hRne (by simp)).trans (by go_simp)
    have f1 : w1.frozen? ⟨w.heap.size, 1, none⟩ = false := (frFrozen (p := ⟨w.heap.size, 1, none⟩) hF1 hRne (by simp)).trans (by go_simp)
    have f2 : w1.frozen? ⟨w.heap.size, 2, none⟩ = false := (frFrozen (p := ⟨w.heap.size, 2, none⟩) hF1 hRne (by simp)).trans (by go_simp)
    have f3 : w1.frozen? ⟨w.heap.size, 3, none⟩ = false := (frFrozen (p := ⟨w.heap.size, 3, none⟩) hF1 hRne (by simp)).trans (by go_simp)
    have f4 : w1.frozen? ⟨w.heap.size, 4, none⟩ = false := (frFrozen (p := ⟨w.heap.size, 4, none⟩) hF1 hRne (by simp)).trans (by go_simp)
    have hz1 : w.heap.size < w1.heap.size := World.block_lt_of_cell? _ _ k0
    have hz1n : w.heap.size ≠ w1.heap.size := by omega
    have hR1 : w1.heap.size ≠ R := by omega
    have HF1 := Lib.hid ((Fr.below (R := R) ((Below.refl w.heap.size w).alloc (Nat.le_refl _) (.cells #[.int .i64 0, .int .i64 0, .string ⟨#[]⟩, .slice none 0 0, .nilIface] 173))).trans hF1)
    have HS1 := Lib.hid hS1
    clear hF1 hS1
    go_wp2_with fail
    refine (letters_any _ _ hq).mono ?_
    rintro e w' ⟨rfl, rfl⟩
    rw [ht]
    go_wp2_with fail
    refine bodyPost_ret (v := .agg #[.int .i64 3, .int .i64 0, .string q, .slice none 0 0, .nilIface]) (by simp [results, Tryz.results156, go_sem, hz1, Nat.lt_succ_of_lt hz1, Nat.ne_of_lt hz1, k0, k1, k2, k3, k4]) rfl ⟨rfl, ?_, ?_⟩
    · exact (((((HS1.out.other hRne _ _).other hRne _ _).other hRne _ _).other hRne _ _).other hRne _ _).below ((Below.refl _ _).alloc (Nat.le_refl _) _)
    · exact frAlloc (frNew (frNew (frNew (frNew (frNew HF1.out (Nat.le_refl _) _ _) (Nat.le_refl _) _ _) (Nat.le_refl _) _ _) (Nat.le_refl _) _ _) (Nat.le_refl _) _ _) _
  | false =>
    simp only [Bool.false_eq_true, if_false, show ¬ (20 : Int) = 0 by decide]
    go_enter Tryz.func156, Tryz.ntmps156
    go_wp2_with fail
    refine HC.out.mono ?_
    clear HC
    rintro e' w1 ⟨rfl, hS1, hF1⟩
    have hRne : w.heap.size ≠ R := by omega
    have k0 : w1.cell? ⟨w.heap.size, 0, none⟩ = some (.int .i64 0) := (frCell (p := ⟨w.heap.size, 0, none⟩) hF1 hRne (by simp)).trans (by go_simp)
    have k1 : w1.cell? ⟨w.heap.size, 1, none⟩ = some (.int .i64 0) := (frCell (p := ⟨w.heap.size, 1, none⟩) hF1 hRne (by simp)).trans (by go_simp)
    have k2 : w1.cell? ⟨w.heap.size, 2, none⟩ = some (.string ⟨#[]⟩) := (frCell (p := ⟨w.heap.size, 2, none⟩) hF1 hRne (by simp)).trans (by go_simp)
    have k3 : w1.cell? ⟨w.heap.size, 3, none⟩ = some (.slice none 0 0) := (frCell (p := ⟨w.heap.size, 3, none⟩) hF1 hRne (by simp)).trans (by go_simp)
    have k4 : w1.cell? ⟨w.heap.size, 4, none⟩ = some (.nilIface) := (frCell (p := ⟨w.heap.size, 4, none⟩) hF1 hRne (by simp)).trans (by go_simp)
    have f0 : w1.frozen? ⟨w.heap.size, 0, none⟩ = false := (frFrozen (p := ⟨w.heap.size, 0, none⟩) hF1 hRne (by simp)).trans (by go_simp)
    have f1 : w1.frozen? ⟨w.heap.size, 1, none⟩ = false := (frFrozen (p := ⟨w.heap.size, 1, none⟩) hF1 hRne (by simp)).trans (by go_simp)
    have f2 : w1.frozen? ⟨w.heap.size, 2, none⟩ = false := (frFrozen (p := ⟨w.heap.size, 2, none⟩) hF1 hRne (by simp)).trans (by go_simp)
    have f3 : w1.frozen? ⟨w.heap.size, 3, none⟩ = false := (frFrozen (p := ⟨w.heap.size, 3, none⟩) hF1 hRne (by simp)).trans (by go_simp)
    have f4 : w1.frozen? ⟨w.heap.size, 4, none⟩ = false := (frFrozen (p := ⟨w.heap.size, 4, none⟩) hF1 hRne (by simp)).trans (by go_simp)
    have hz1 : w.heap.size < w1.heap.size := World.block_lt_of_cell? _ _ k0
    have hz1n : w.heap.size ≠ w1.heap.size := by omega
    have hR1 : w1.heap.size ≠ R := by omega
    have HF1 := Lib.hid ((Fr.below (R := R) ((Below.refl w.heap.size w).alloc (Nat.le_refl _) (.cells #[.int .i64 0, .int .i64 0, .string ⟨#[]⟩, .slice none 0 0, .nilIface] 173))).trans hF1)
    have HS1 := Lib.hid hS1
    clear hF1 hS1
    go_wp2_with fail
    refine (letters_any _ _ hq).mono ?_
    rintro e w' ⟨rfl, rfl⟩
    rw [ht]
    go_wp2_with fail
    have HS2 := Lib.hid (HS1.out.below ((Below.refl _ _).alloc (Nat.le_refl _) (.cells #[.int .i64 2, .int .i64 0, .string q, .slice none 0 0, .nilIface] 173)))
    have HF2 := Lib.hid (frAlloc HF1.out (.cells #[.int .i64 2, .int .i64 0, .string q, .slice none 0 0, .nilIface] 173))
    refine (wrong_any R s (at0 + n) c d 20 _ HS2.out).mono ?_
    rintro e' w' ⟨rfl, rfl⟩
    unfold placedV
    go_wp2_with fail
    refine (ibadi_any _ _ _).mono ?_
    rintro e w2 ⟨rfl, hb2⟩
    replace f0 := (hb2.frozen (p := ⟨w.heap.size, 0, none⟩) (by simp; omega)).trans (frozen_alloc_l _ k0 f0)
    replace f1 := (hb2.frozen (p := ⟨w.heap.size, 1, none⟩) (by simp; omega)).trans (frozen_alloc_l _ k1 f1)
    replace f2 := (hb2.frozen (p := ⟨w.heap.size, 2, none⟩) (by simp; omega)).trans (frozen_alloc_l _ k2 f2)
    replace f3 := (hb2.frozen (p := ⟨w.heap.size, 3, none⟩) (by simp; omega)).trans (frozen_alloc_l _ k3 f3)
    replace f4 := (hb2.frozen (p := ⟨w.heap.size, 4, none⟩) (by simp; omega)).trans (frozen_alloc_l _ k4 f4)
    replace k0 := (hb2.cell (p := ⟨w.heap.size, 0, none⟩) (by simp; omega)).trans (cell_alloc_l _ k0)
    replace k1 := (hb2.cell (p := ⟨w.heap.size, 1, none⟩) (by simp; omega)).trans (cell_alloc_l _ k1)
    replace k2 := (hb2.cell (p := ⟨w.heap.size, 2, none⟩) (by simp; omega)).trans (cell_alloc_l _ k2)
    replace k3 := (hb2.cell (p := ⟨w.heap.size, 3, none⟩) (by simp; omega)).trans (cell_alloc_l _ k3)
    replace k4 := (hb2.cell (p := ⟨w.heap.size, 4, none⟩) (by simp; omega)).trans (cell_alloc_l _ k4)
    have HF3 := Lib.hid (HF2.out.trans (Fr.below hb2))
    clear hb2
    go_wp2_with fail
    refine bodyPost_ret (v := .agg #[.int .i64 0, .int .i64 0, .string ⟨#[]⟩, .slice none 0 0, .iface 247 (.agg #[.int .i64 (at0 + n), .iface 106 (.agg #[.int .i64 20])])]) (by simp [results, Tryz.results156, go_sem, k0, k1, k2, k3, k4]) rfl ⟨at0 + n, rfl, ?_⟩
    exact frNew (frNew (frNew (frNew (frNew HF3.out (Nat.le_refl _) _ _) (Nat.le_refl _) _ _) (Nat.le_refl _) _ _) (Nat.le_refl _) _ _) (Nat.le_refl _) _ _
end Go.Proofs.YtmbmolgkccjedaaGreatDoor
