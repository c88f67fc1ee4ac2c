/- Contract of read of package eid: over whatever takes the parts of the scheme that the halves may have. -/
import Derived.Test.YtmpokhdljlnllaaDoorETake
set_option linter.unusedVariables false
set_option linter.unusedSimpArgs false
namespace Go.Proofs.YtmpokhdljlnllaaDoor
open Go.RowKit

theorem Fr.belowAt {R : Nat} {w0 W W' : World} (hf : Fr R W W') (hb : Below w0.heap.size w0 W) (hR : w0.heap.size ≤ R) : Below w0.heap.size w0 W' :=
  hb.trans ⟨hf.os, hf.tape, hf.output, hf.size, fun j hj => hf.block j (Nat.lt_of_lt_of_le hj hb.size) (fun e => by cases e; omega)⟩
theorem zfacts6 {X Y : World} {B : Nat} {v0 v1 v2 v3 v4 v5 : Value} {G : Prop} (h : Hid (Below X.heap.size X Y)) (c0 : X.cell? ⟨B, 0, none⟩ = some v0) (c1 : X.cell? ⟨B, 1, none⟩ = some v1) (c2 : X.cell? ⟨B, 2, none⟩ = some v2) (c3 : X.cell? ⟨B, 3, none⟩ = some v3) (c4 : X.cell? ⟨B, 4, none⟩ = some v4) (c5 : X.cell? ⟨B, 5, none⟩ = some v5) (e0 : X.frozen? ⟨B, 0, none⟩ = false) (e1 : X.frozen? ⟨B, 1, none⟩ = false) (e2 : X.frozen? ⟨B, 2, none⟩ = false) (e3 : X.frozen? ⟨B, 3, none⟩ = false) (e4 : X.frozen? ⟨B, 4, none⟩ = false) (e5 : X.frozen? ⟨B, 5, none⟩ = false)
    (k : Y.cell? ⟨B, 0, none⟩ = some v0 → Y.cell? ⟨B, 1, none⟩ = some v1 → Y.cell? ⟨B, 2, none⟩ = some v2 → Y.cell? ⟨B, 3, none⟩ = some v3 → Y.cell? ⟨B, 4, none⟩ = some v4 → Y.cell? ⟨B, 5, none⟩ = some v5 → Y.frozen? ⟨B, 0, none⟩ = false → Y.frozen? ⟨B, 1, none⟩ = false → Y.frozen? ⟨B, 2, none⟩ = false → Y.frozen? ⟨B, 3, none⟩ = false → Y.frozen? ⟨B, 4, none⟩ = false → Y.frozen? ⟨B, 5, none⟩ = false → G) : G :=
  k (cellIn h c0) (cellIn h c1) (cellIn h c2) (cellIn h c3) (cellIn h c4) (cellIn h c5) (frozenIn h c0 e0) (frozenIn h c1 e1) (frozenIn h c2 e2) (frozenIn h c3 e3) (frozenIn h c4 e4) (frozenIn h c5 e5)

/-- What read answers of a name that was taken roughly. -/
def redB (k : Int) (nd sv : ByteArray) (a b : Int) (s t : ByteArray) : Bool := nmR (nmO k nd sv a b) && hvE (hfS (nmO k nd sv a b)) (rsS (nmO k nd sv a b)) s t
def redV (k : Int) (nd sv : ByteArray) (a b : Int) (s t : ByteArray) : Value := if redB k nd sv a b s t then nmV k nd sv a b else nmV 0 ⟨#[]⟩ ⟨#[]⟩ 0 0

set_option maxRecDepth 100000 in
set_option maxHeartbeats 8000000 in
theorem eread_go (s t : ByteArray) (k : Int) (hk : schK s t = k) (half : ByteArray) (f1 f2 f3 : Nat) (i : Nat) (hfind : Instr.findNow (.int .i64) (.int .i64 k) schE.toList 0 = some (some (i, schV half f1 f2 f3)))
    (hcf3 : ∀ args W, (callFunc f3 args).run Tryd.prog W = .ok (.enter f3 args) W) (nd sv : ByteArray) (a b : Int) (ha : I64 a) (hb : I64 b) (hn : nd.size ≤ 4000000000) (hs : sv.size ≤ 4000000000)
    (htake : ∀ R W, EnvB R W → Par R k ⟨#[]⟩ ⟨#[]⟩ 0 0 t W → Calls Tryd.prog f3 #[.pointer (some ⟨R, 0, none⟩)] W fun e w' => (∃ v, e = .returned v) ∧ (∃ l', Par R k nd sv a b l' w') ∧ Fr R W w') (w : World) (hE : EnvN w) :
    Calls Tryd.prog 27 #[.agg #[.string s, .string t]] w fun e w' => e = .returned (.tuple #[redV k nd sv a b s t, .bool (redB k nd sv a b s t)]) ∧ Below w.heap.size w w' := by
  have HSC := Lib.hid (fun W => schemeOf_any s t W)
  rw [hk] at HSC
  unfold schV at hfind
  have HFIND := Lib.hid hfind
  have HCF := Lib.hid hcf3
  have HTK := Lib.hid htake
  have HSP := Lib.hid (fun (W : World) (hE : EnvN W) => esplit_any k nd sv a b W hE ha hb)
  have HOW := Lib.hid (fun (W : World) => owned_any k nd sv a b W hn hs)
  have HE := Lib.hid hE
  have HNE := Lib.hid (fun (s' t' : ByteArray) (W : World) => hv_neq s' t' s t W)
  unfold redV redB
  generalize nmO k nd sv a b = o at *
  clear hk hfind hcf3 htake ha hb hn hs hE
  obtain ⟨r, hr⟩ : ∃ r, nmR o = r := ⟨_, rfl⟩
  obtain ⟨u, hu⟩ : ∃ u, hvE (hfS o) (rsS o) s t = u := ⟨_, rfl⟩
  have HNQ := Lib.hid (HNE.out (hfS o) (rsS o))
  rw [hu] at HNQ ⊢
  rw [hr] at HSP ⊢
  clear hu hr HNE
  generalize hfS o = hs at *
  generalize rsS o = ht at *
  go_enter Tryd.func27, Tryd.ntmps27
  go_upto_region 1 with fail
  obtain ⟨w0, hw0⟩ : ∃ w0, w0 = (w.alloc (.cells #[.string s, .string t] 41)).alloc (.cells #[.int .i64 0, .string ⟨#[]⟩, .string ⟨#[]⟩, .int .i64 0, .int .i64 0] 23) := ⟨_, rfl⟩
  have HB0 := Lib.hid (show Below w.heap.size w w0 by rw [hw0]; exact below_alloc_l (below_alloc_l (Below.refl _ _)))
  have hz0 : w.heap.size + 1 < w0.heap.size := by rw [hw0]; simp
  have hz00 : w.heap.size < w0.heap.size := by omega
  have h0 : w0.cell? ⟨w.heap.size, 0, none⟩ = some (.string s) := by rw [hw0]; go_simp
  have h1 : w0.cell? ⟨w.heap.size, 1, none⟩ = some (.string t) := by rw [hw0]; go_simp
  have r0 : w0.cell? ⟨w.heap.size + 1, 0, none⟩ = some (.int .i64 0) := by rw [hw0]; go_simp
  have r1 : w0.cell? ⟨w.heap.size + 1, 1, none⟩ = some (.string ⟨#[]⟩) := by rw [hw0]; go_simp
  have r2 : w0.cell? ⟨w.heap.size + 1, 2, none⟩ = some (.string ⟨#[]⟩) := by rw [hw0]; go_simp
  have r3 : w0.cell? ⟨w.heap.size + 1, 3, none⟩ = some (.int .i64 0) := by rw [hw0]; go_simp
  have r4 : w0.cell? ⟨w.heap.size + 1, 4, none⟩ = some (.int .i64 0) := by rw [hw0]; go_simp
  have q0 : w0.frozen? ⟨w.heap.size + 1, 0, none⟩ = false := by rw [hw0]; go_simp
  have q1 : w0.frozen? ⟨w.heap.size + 1, 1, none⟩ = false := by rw [hw0]; go_simp
  have q2 : w0.frozen? ⟨w.heap.size + 1, 2, none⟩ = false := by rw [hw0]; go_simp
  have q3 : w0.frozen? ⟨w.heap.size + 1, 3, none⟩ = false := by rw [hw0]; go_simp
  have q4 : w0.frozen? ⟨w.heap.size + 1, 4, none⟩ = false := by rw [hw0]; go_simp
  rw [← hw0]
  clear hw0
  have HH := Lib.hid (And.intro h0 h1)
  have HR := Lib.hid (And.intro r0 (And.intro r1 (And.intro r2 (And.intro r3 r4))))
  have HQ := Lib.hid (And.intro q0 (And.intro q1 (And.intro q2 (And.intro q3 q4))))
  clear r0 r1 r2 r3 r4 q0 q1 q2 q3 q4
  go_cut [4] from 7 to 12 (fun p wc => ∃ R : Nat, p = .pointer (some ⟨R, 0, none⟩) ∧ Par R k ⟨#[]⟩ ⟨#[]⟩ 0 0 t wc ∧ w0.heap.size ≤ R ∧ Below w0.heap.size w0 wc)
  case first =>
    clear HFIND HCF HTK HSP HOW HE HNQ HH HR HQ HB0
    go_region_held3 (fun w' => w'.cell? ⟨w.heap.size, 0, none⟩ = some (.string s) ∧ w'.cell? ⟨w.heap.size, 1, none⟩ = some (.string t))
      (first
        | go_keep
        | (go_simp; done))
      (first
        | ((go_at_call 36; refine (HSC.out _).mono ?_; rintro e w1 ⟨rfl, hb⟩; have HB := Lib.hid hb; clear hb; replace h0 : w1.cell? ⟨w.heap.size, 0, none⟩ = some (.string s) := (HB.out.cell (p := ⟨w.heap.size, 0, none⟩) (by simp; omega)).trans (by go_simp); replace h1 : w1.cell? ⟨w.heap.size, 1, none⟩ = some (.string t) := (HB.out.cell (p := ⟨w.heap.size, 1, none⟩) (by simp; omega)).trans (by go_simp); first | (refine zfacts6 (B := w0.heap.size) (v0 := .int .i64 0) (v1 := .string ⟨#[]⟩) (v2 := .string ⟨#[]⟩) (v3 := .int .i64 0) (v4 := .int .i64 0) (v5 := .string ⟨#[]⟩) HB ?c0 ?c1 ?c2 ?c3 ?c4 ?c5 ?e0 ?e1 ?e2 ?e3 ?e4 ?e5 ?k; (case c0 => (go_simp; done)); (case c1 => (go_simp; done)); (case c2 => (go_simp; done)); (case c3 => (go_simp; done)); (case c4 => (go_simp; done)); (case c5 => (go_simp; done)); (case e0 => (go_simp; done)); (case e1 => (go_simp; done)); (case e2 => (go_simp; done)); (case e3 => (go_simp; done)); (case e4 => (go_simp; done)); (case e5 => (go_simp; done)); intro z0 z1 z2 z3 z4 z5 g0 g1 g2 g3 g4 g5) | skip)))
    all_goals
      have hsz1 : w0.heap.size ≤ w1.heap.size := by have := HB.out.size; simp at this; omega
      clear HSC
      go_wp2_with fail
      go_meet
      case rel =>
        refine ⟨_, rfl, ⟨?_, ?_, ?_, ?_, ?_, ?_, ?_, ?_, ?_, ?_, ?_, ?_⟩, ?_, ?_⟩
        all_goals
          first
            | (go_simp; done)
            | exact below_alloc_l (belowIn HB (below_drew_l (Below.refl _ _)))
            | exact below_set_l (below_set_l (below_set_l (below_set_l (below_set_l (below_set_l (belowIn HB (below_drew_l (below_alloc_l (Below.refl _ _)))) (Nat.le_refl _)) (Nat.le_refl _)) (Nat.le_refl _)) (Nat.le_refl _)) (Nat.le_refl _)) (Nat.le_refl _)
  case rest =>
    obtain ⟨R, rfl, hP, hR0, hBc⟩ := hcut
    have hEB : EnvB R wc := by
      refine ⟨w0, HE.out.below HB0.out, hR0, hBc⟩
    have hRz : R < wc.heap.size := World.block_lt_of_cell? _ _ hP.c0
    have hl1 : ∀ (c : Nat) (w1 : World), w1.heap[c]? = some (.map schE 3) → (Instr.lookup 64 (.map (some c)) (.int .i64 k) false).run Tryd.prog w1 = .ok (.agg #[.string half, .func (.func f1) #[] #[], .func (.func f2) #[] #[], .func (.func f3) #[] #[]]) w1 := fun c w1 h => lookS _ _ _ _ _ _ _ h HFIND.out
    have HLK := Lib.hid hl1
    have HEB := Lib.hid hEB
    have HP := Lib.hid hP
    have HBC := Lib.hid hBc
    have c0 := hP.c0
    have hcf3 := HCF.out
    have hfld : ∀ W : World, (Instr.field 62 (.agg #[.string half, .func (.func f1) #[] #[], .func (.func f2) #[] #[], .func (.func f3) #[] #[]]) 3).run Tryd.prog W = .ok (.func (.func f3) #[] #[]) W := fun W => by kernel_rfl
    clear hl1 hEB hP hBc HSC HFIND HCF h0 h1
    go_wp2_with fail
    go_region_held3 (fun w' => w'.cell? ⟨R, 0, none⟩ = some (.int .i64 k))
      (first
        | go_keep
        | (go_simp; done))
      (first
        | ((go_at_call 34; refine (schemes_any _).mono ?_; rintro e w1 ⟨rfl, hm, hb⟩; have HM := Lib.hid hm; have HB1 := Lib.hid ((Below.refl wc.heap.size wc).drew.trans (hb.mono (Nat.le_refl _))); clear hm hb; replace c0 : w1.cell? ⟨R, 0, none⟩ = some (.int .i64 k) := (HB1.out.cell (p := ⟨R, 0, none⟩) hRz).trans HP.out.c0; have hl := HLK.out _ w1 HM.out; simp only [World.size_drew, World.size_alloc] at hl))
        | ((go_at_fn f3; refine (HTK.out R w1 (HEB.out.fr (Fr.below HB1.out)) (HP.out.below HB1.out)).mono ?_; rintro e w2 ⟨⟨v, rfl⟩, ⟨l', hP2⟩, hF2⟩; have HP2 := Lib.hid hP2; have HF2 := Lib.hid hF2; have d0 := hP2.c0; clear hP2 hF2)))
    have HB2 := Lib.hid (HF2.out.belowAt (HBC.out.trans (HB1.out.mono HBC.out.size)) hR0)
    have HEN2 := Lib.hid ((HEB.out.fr (Fr.below HB1.out)).fr HF2.out).ok
    have d1 := HP2.out.c1
    have d2 := HP2.out.c2
    have d3 := HP2.out.c3
    have d4 := HP2.out.c4
    have HS2 := Lib.hid (HSP.out w2 HEN2.out)
    clear HTK HE HB1 HLK HEB HP HBC HSP HF2 HEN2 hfld hcf3 hl c0
    have hne := HNQ.out
    clear HNQ
    unfold nmV at HOW
    cases r with
    | false =>
      go_wp2_with fail
      refine HS2.out.mono ?_
      rintro e w3 ⟨rfl, hb3⟩
      have HB3 := Lib.hid (HB2.out.trans (hb3.mono HB2.out.size))
      have r0 := (HB3.out.cell (p := ⟨w.heap.size + 1, 0, none⟩) hz0).trans HR.out.1
      have r1 := (HB3.out.cell (p := ⟨w.heap.size + 1, 1, none⟩) hz0).trans HR.out.2.1
      have r2 := (HB3.out.cell (p := ⟨w.heap.size + 1, 2, none⟩) hz0).trans HR.out.2.2.1
      have r3 := (HB3.out.cell (p := ⟨w.heap.size + 1, 3, none⟩) hz0).trans HR.out.2.2.2.1
      have r4 := (HB3.out.cell (p := ⟨w.heap.size + 1, 4, none⟩) hz0).trans HR.out.2.2.2.2
      have q0 := (HB3.out.frozen (p := ⟨w.heap.size + 1, 0, none⟩) hz0).trans HQ.out.1
      have q1 := (HB3.out.frozen (p := ⟨w.heap.size + 1, 1, none⟩) hz0).trans HQ.out.2.1
      have q2 := (HB3.out.frozen (p := ⟨w.heap.size + 1, 2, none⟩) hz0).trans HQ.out.2.2.1
      have q3 := (HB3.out.frozen (p := ⟨w.heap.size + 1, 3, none⟩) hz0).trans HQ.out.2.2.2.1
      have q4 := (HB3.out.frozen (p := ⟨w.heap.size + 1, 4, none⟩) hz0).trans HQ.out.2.2.2.2
      have HBW := Lib.hid (HB0.out.trans (HB3.out.mono HB0.out.size))
      have hz3 : w.heap.size + 1 < w3.heap.size := Nat.lt_of_lt_of_le hz0 HB3.out.size
      have hz3' : w.heap.size + 1 ≠ w3.heap.size := by omega
      clear hb3 HB3 HB2 HS2 HR HQ HH HOW HP2 HB0 hne d0 d1 d2 d3 d4
      go_wp2_with fail
      have k5 := set5 (v0 := .int .i64 0) (v1 := .string ⟨#[]⟩) (v2 := .string ⟨#[]⟩) (v3 := .int .i64 0) (v4 := .int .i64 0) r0 r1 r2 r3 r4
      exact bodyPost_ret (nm_res2 _ 2 3 rfl _ (.bool false) rfl rfl ⟨cell_al k5.1, cell_al k5.2.1, cell_al k5.2.2.1, cell_al k5.2.2.2.1, cell_al k5.2.2.2.2⟩) rfl ⟨rfl, below_alloc_l (below_set5 HBW.out (Nat.le_succ _))⟩
    | true =>
      cases u with
      | false =>
        go_wp2_with fail
        refine HS2.out.mono ?_
        rintro e w3 ⟨rfl, hb3⟩
        have HB3 := Lib.hid (HB2.out.trans (hb3.mono HB2.out.size))
        have r0 := (HB3.out.cell (p := ⟨w.heap.size + 1, 0, none⟩) hz0).trans HR.out.1
        have r1 := (HB3.out.cell (p := ⟨w.heap.size + 1, 1, none⟩) hz0).trans HR.out.2.1
        have r2 := (HB3.out.cell (p := ⟨w.heap.size + 1, 2, none⟩) hz0).trans HR.out.2.2.1
        have r3 := (HB3.out.cell (p := ⟨w.heap.size + 1, 3, none⟩) hz0).trans HR.out.2.2.2.1
        have r4 := (HB3.out.cell (p := ⟨w.heap.size + 1, 4, none⟩) hz0).trans HR.out.2.2.2.2
        have q0 := (HB3.out.frozen (p := ⟨w.heap.size + 1, 0, none⟩) hz0).trans HQ.out.1
        have q1 := (HB3.out.frozen (p := ⟨w.heap.size + 1, 1, none⟩) hz0).trans HQ.out.2.1
        have q2 := (HB3.out.frozen (p := ⟨w.heap.size + 1, 2, none⟩) hz0).trans HQ.out.2.2.1
        have q3 := (HB3.out.frozen (p := ⟨w.heap.size + 1, 3, none⟩) hz0).trans HQ.out.2.2.2.1
        have q4 := (HB3.out.frozen (p := ⟨w.heap.size + 1, 4, none⟩) hz0).trans HQ.out.2.2.2.2
        have h0 := (HB3.out.cell (p := ⟨w.heap.size, 0, none⟩) hz00).trans HH.out.1
        have h1 := (HB3.out.cell (p := ⟨w.heap.size, 1, none⟩) hz00).trans HH.out.2
        have HBW := Lib.hid (HB0.out.trans (HB3.out.mono HB0.out.size))
        have hz3 : w.heap.size + 1 < w3.heap.size := Nat.lt_of_lt_of_le hz0 HB3.out.size
        have hz3' : w.heap.size + 1 ≠ w3.heap.size := by omega
        have hz4 : w.heap.size < w3.heap.size := by omega
        clear hb3 HB3 HB2 HS2 HR HQ HH HOW HP2 HB0 d0 d1 d2 d3 d4
        go_wp2_with fail
        have k5 := set5 (v0 := .int .i64 0) (v1 := .string ⟨#[]⟩) (v2 := .string ⟨#[]⟩) (v3 := .int .i64 0) (v4 := .int .i64 0) r0 r1 r2 r3 r4
        exact bodyPost_ret (nm_res2 _ 2 3 rfl _ (.bool false) rfl rfl ⟨cell_al k5.1, cell_al k5.2.1, cell_al k5.2.2.1, cell_al k5.2.2.2.1, cell_al k5.2.2.2.2⟩) rfl ⟨rfl, below_alloc_l (below_set5 HBW.out (Nat.le_succ _))⟩
      | true =>
        go_wp2_with fail
        refine HS2.out.mono ?_
        rintro e w3 ⟨rfl, hb3⟩
        have HB3 := Lib.hid (HB2.out.trans (hb3.mono HB2.out.size))
        have hP3 := HP2.out.below hb3
        have d0 := hP3.c0
        have d1 := hP3.c1
        have d2 := hP3.c2
        have d3 := hP3.c3
        have d4 := hP3.c4
        have hRz3 : R < w3.heap.size := World.block_lt_of_cell? _ _ d0
        have h0 := (HB3.out.cell (p := ⟨w.heap.size, 0, none⟩) hz00).trans HH.out.1
        have h1 := (HB3.out.cell (p := ⟨w.heap.size, 1, none⟩) hz00).trans HH.out.2
        have hz3 : w.heap.size + 1 < w3.heap.size := Nat.lt_of_lt_of_le hz0 HB3.out.size
        have hz4 : w.heap.size < w3.heap.size := by omega
        clear hb3 hP3 HB2 HS2 HH HP2
        go_wp2_with fail
        refine (HOW.out _).mono ?_
        rintro e w4 ⟨rfl, hb4⟩
        have HB4 := Lib.hid ((HB3.out.alloc HB3.out.size (.cells #[.string hs, .string ht] 41)).trans (hb4.mono (by simp; have := HB3.out.size; omega)))
        have r0 := (HB4.out.cell (p := ⟨w.heap.size + 1, 0, none⟩) hz0).trans HR.out.1
        have r1 := (HB4.out.cell (p := ⟨w.heap.size + 1, 1, none⟩) hz0).trans HR.out.2.1
        have r2 := (HB4.out.cell (p := ⟨w.heap.size + 1, 2, none⟩) hz0).trans HR.out.2.2.1
        have r3 := (HB4.out.cell (p := ⟨w.heap.size + 1, 3, none⟩) hz0).trans HR.out.2.2.2.1
        have r4 := (HB4.out.cell (p := ⟨w.heap.size + 1, 4, none⟩) hz0).trans HR.out.2.2.2.2
        have q0 := (HB4.out.frozen (p := ⟨w.heap.size + 1, 0, none⟩) hz0).trans HQ.out.1
        have q1 := (HB4.out.frozen (p := ⟨w.heap.size + 1, 1, none⟩) hz0).trans HQ.out.2.1
        have q2 := (HB4.out.frozen (p := ⟨w.heap.size + 1, 2, none⟩) hz0).trans HQ.out.2.2.1
        have q3 := (HB4.out.frozen (p := ⟨w.heap.size + 1, 3, none⟩) hz0).trans HQ.out.2.2.2.1
        have q4 := (HB4.out.frozen (p := ⟨w.heap.size + 1, 4, none⟩) hz0).trans HQ.out.2.2.2.2
        have HBW := Lib.hid (HB0.out.trans (HB4.out.mono HB0.out.size))
        clear hb4 HB3 HB4 HR HQ HOW HB0 d0 d1 d2 d3 d4 h0 h1 hne
        go_wp2_with fail
        have k5 := set5 (v0 := .int .i64 k) (v1 := .string nd) (v2 := .string sv) (v3 := .int .i64 a) (v4 := .int .i64 b) r0 r1 r2 r3 r4
        exact bodyPost_ret (nm_res2 _ 2 3 rfl _ (.bool true) rfl rfl k5) rfl ⟨rfl, below_set5 HBW.out (Nat.le_succ _)⟩
end Go.Proofs.YtmpokhdljlnllaaDoor
