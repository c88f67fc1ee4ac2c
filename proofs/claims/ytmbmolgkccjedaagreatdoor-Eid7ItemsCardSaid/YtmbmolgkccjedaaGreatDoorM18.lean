/- Contract of read of package eid: over whatever takes the parts of the scheme that the halves may have. -/
import Derived.Test.YtmbmolgkccjedaaGreatDoorM16
import Derived.Test.YtmbmolgkccjedaaGreatDoorM27
set_option linter.unusedVariables false
set_option linter.unusedSimpArgs false
namespace Go.Proofs.YtmbmolgkccjedaaGreatDoor
open Go.RowKit

theorem FrE.belowAt {R : Nat} {w0 W W' : World} (hf : FrE R W W') (hb : Below w0.heap.size w0 W) (hR : w0.heap.size ≤ R) : Below w0.heap.size w0 W' :=
  hb.trans ⟨hf.os, hf.tape, hf.output, hf.size, fun j hj => hf.block j (Nat.lt_of_lt_of_le hj hb.size) (fun e => by cases e; omega)⟩
theorem zfacts6 {X Y : World} {B : Nat} {v0 v1 v2 v3 v4 v5 : Value} {G : Prop} (h : Hid (Below X.heap.size X Y)) (c0 : X.cell? ⟨B, 0, none⟩ = some v0) (c1 : X.cell? ⟨B, 1, none⟩ = some v1) (c2 : X.cell? ⟨B, 2, none⟩ = some v2) (c3 : X.cell? ⟨B, 3, none⟩ = some v3) (c4 : X.cell? ⟨B, 4, none⟩ = some v4) (c5 : X.cell? ⟨B, 5, none⟩ = some v5) (e0 : X.frozen? ⟨B, 0, none⟩ = false) (e1 : X.frozen? ⟨B, 1, none⟩ = false) (e2 : X.frozen? ⟨B, 2, none⟩ = false) (e3 : X.frozen? ⟨B, 3, none⟩ = false) (e4 : X.frozen? ⟨B, 4, none⟩ = false) (e5 : X.frozen? ⟨B, 5, none⟩ = false)
    (k : Y.cell? ⟨B, 0, none⟩ = some v0 → Y.cell? ⟨B, 1, none⟩ = some v1 → Y.cell? ⟨B, 2, none⟩ = some v2 → Y.cell? ⟨B, 3, none⟩ = some v3 → Y.cell? ⟨B, 4, none⟩ = some v4 → Y.cell? ⟨B, 5, none⟩ = some v5 → Y.frozen? ⟨B, 0, none⟩ = false → Y.frozen? ⟨B, 1, none⟩ = false → Y.frozen? ⟨B, 2, none⟩ = false → Y.frozen? ⟨B, 3, none⟩ = false → Y.frozen? ⟨B, 4, none⟩ = false → Y.frozen? ⟨B, 5, none⟩ = false → G) : G :=
  k (cellIn h c0) (cellIn h c1) (cellIn h c2) (cellIn h c3) (cellIn h c4) (cellIn h c5) (frozenIn h c0 e0) (frozenIn h c1 e1) (frozenIn h c2 e2) (frozenIn h c3 e3) (frozenIn h c4 e4) (frozenIn h c5 e5)

/-- What read answers of a name that was taken roughly. -/
def redB (k : Int) (nd sv : ByteArray) (a b : Int) (s t : ByteArray) : Bool := nmR (nmO k nd sv a b) && hvE (hfS (nmO k nd sv a b)) (rsS (nmO k nd sv a b)) s t
def redV (k : Int) (nd sv : ByteArray) (a b : Int) (s t : ByteArray) : Value := if redB k nd sv a b s t then nmV k nd sv a b else nmV 0 ⟨#[]⟩ ⟨#[]⟩ 0 0

set_option maxRecDepth 100000 in
set_option maxHeartbeats 8000000 in
theorem eread_go (s t : ByteArray) (k : Int) (hk : schK s t = k) (half : ByteArray) (f1 f2 f3 : Nat) (i : Nat) (hfind : Instr.findNow (.int .i64) (.int .i64 k) schE.toList 0 = some (some (i, schV half f1 f2 f3)))
    (hcf3 : ∀ args W, (callFunc f3 args).run Tryz.prog W = .ok (.enter f3 args) W) (nd sv : ByteArray) (a b : Int) (ha : I64 a) (hb : I64 b) (hn : nd.size ≤ 4000000000) (hs : sv.size ≤ 4000000000)
    (htake : ∀ R W, EnvB R W → Par R k ⟨#[]⟩ ⟨#[]⟩ 0 0 t W → Calls Tryz.prog f3 #[.pointer (some ⟨R, 0, none⟩)] W fun e w' => (∃ v, e = .returned v) ∧ (∃ l', Par R k nd sv a b l' w') ∧ FrE R W w') (w : World) (hE : EnvN w) :
    Calls Tryz.prog 136 #[.agg #[.string s, .string t]] w fun e w' => e = .returned (.tuple #[redV k nd sv a b s t, .bool (redB k nd sv a b s t)]) ∧ Below w.heap.size w w' := by
  have HSC := Lib.hid (fun W => schemeOf_any s t W)
  rw [hk] at HSC
  unfold schV at hfind
  have HFIND := Lib.hid hfind
  have HCF := Lib.hid hcf3
  have HTK := Lib.hid htake
  have HSP := Lib.hid (fun (W : World) (hE : EnvN W) => esplit_any k nd sv a b W hE ha hb)
  have HOW := Lib.hid (fun (W : World) => owned_any k nd sv a b W hn hs)
  have HE := Lib.hid hE
  have HNE := Lib.hid (fun (s' t' : ByteArray) (W : World) => hv_neq s' t' s t W)
  unfold redV redB
  generalize nmO k nd sv a b = o at *
  clear hk hfind hcf3 htake ha hb hn hs hE
  obtain ⟨r, hr⟩ : ∃ r, nmR o = r := ⟨_, rfl⟩
  obtain ⟨u, hu⟩ : ∃ u, hvE (hfS o) (rsS o) s t = u := ⟨_, rfl⟩
  have HNQ := Lib.hid (HNE.out (hfS o) (rsS o))
  rw [hu] at HNQ ⊢
  rw [hr] at HSP ⊢
  clear hu hr HNE
  generalize hfS o = hs at *
  generalize rsS o = ht at *
  go_enter Tryz.func136, Tryz.ntmps136
  go_upto_region 1 with fail
  obtain ⟨w0, hw0⟩ : ∃ w0, w0 = (w.alloc (.cells #[.string s, .string t] 213)).alloc (.cells #[.int .i64 0, .string ⟨#[]⟩, .string ⟨#[]⟩, .int .i64 0, .int .i64 0] 23) := ⟨_, rfl⟩
  have HB0 := Lib.hid (show Below w.heap.size w w0 by rw [hw0]; exact below_alloc_l (below_alloc_l (Below.refl _ _)))
  have hz0 : w.heap.size + 1 < w0.heap.size := by rw [hw0]; simp
  have hz00 : w.heap.size < w0.heap.size := by omega
  have h0 : w0.cell? ⟨w.heap.size, 0, none⟩ = some (.string s) := by rw [hw0]; go_simp
  have h1 : w0.cell? ⟨w.heap.size, 1, none⟩ = some (.string t) := by rw [hw0]; go_simp
  have r0 : w0.cell? ⟨w.heap.size + 1, 0, none⟩ = some (.int .i64 0) := by rw [hw0]; go_simp
  have r1 : w0.cell? ⟨w.heap.size + 1, 1, none⟩ = some (.string ⟨#[]⟩) := by rw [hw0]; go_simp
  have r2 : w0.cell? ⟨w.heap.size + 1, 2, none⟩ = some (.string ⟨#[]⟩) := by rw [hw0]; go_simp
  have r3 : w0.cell? ⟨w.heap.size + 1, 3, none⟩ = some (.int .i64 0) := by rw [hw0]; go_simp
  have r4 : w0.cell? ⟨w.heap.size + 1, 4, none⟩ = some (.int .i64 0) := by rw [hw0]; go_simp
  have q0 : w0.frozen? ⟨w.heap.size + 1, 0, none⟩ = false := by rw [hw0]; go_simp
  have q1 : w0.frozen? ⟨w.heap.size + 1, 1, none⟩ = false := by rw [hw0]; go_simp
  have q2 : w0.frozen? ⟨w.heap.size + 1, 2, none⟩ = false := by rw [hw0]; go_simp
  have q3 : w0.frozen? ⟨w.heap.size + 1, 3, none⟩ = false := by rw [hw0]; go_simp
  have q4 : w0.frozen? ⟨w.heap.size + 1, 4, none⟩ = false := by rw [hw0]; go_simp
  rw [← hw0]
  clear hw0
  have HH := Lib.hid (And.intro h0 h1)
  have HR := Lib.hid (And.intro r0 (And.intro r1 (And.intro r2 (And.intro r3 r4))))
  have HQ := Lib.hid (And.intro q0 (And.intro q1 (And.intro q2 (And.intro q3 q4))))
  clear r0 r1 r2 r3 r4 q0 q1 q2 q3 q4
  go_cut [4] from 7 to 12 (fun p wc => ∃ R : Nat, p = .pointer (some ⟨R, 0, none⟩) ∧ Par R k ⟨#[]⟩ ⟨#[]⟩ 0 0 t wc ∧ w0.heap.size ≤ R ∧ Below w0.heap.size w0 wc)
  case first =>
    clear HFIND HCF HTK HSP HOW HE HNQ HH HR HQ HB0
    go_region_held3 (fun w' => w'.cell? ⟨w.heap.size, 0, none⟩ = some (.string s) ∧ w'.cell? ⟨w.heap.size, 1, none⟩ = some (.string t))
      (first
        | go_keep
        | (go_simp; done))
      (first
        | ((go_at_call 151; refine (HSC.out _).mono ?_; rintro e w1 ⟨rfl, hb⟩; have HB := Lib.hid hb; clear hb; replace h0 : w1.cell? ⟨w.heap.size, 0, none⟩ = some (.string s) := (HB.out.cell (p := ⟨w.heap.size, 0, none⟩) (by simp; omega)).trans (by go_simp); replace h1 : w1.cell? ⟨w.heap.size, 1, none⟩ = some (.string t) := (HB.out.cell (p := ⟨w.heap.size, 1, none⟩) (by simp; omega)).trans (by go_simp); first | (refine zfacts6 (B := w0.heap.size) (v0 := .int .i64 0) (v1 := .string ⟨#[]⟩) (v2 := .string ⟨#[]⟩) (v3 := .int .i64 0) (v4 := .int .i64 0) (v5 := .string ⟨#[]⟩) HB ?c0 ?c1 ?c2 ?c3 ?c4 ?c5 ?e0 ?e1 ?e2 ?e3 ?e4 ?e5 ?k; (case c0 => (go_simp; done)); (case c1 => (go_simp; done)); (case c2 => (go_simp; done)); (case c3 => (go_simp; done)); (case c4 => (go_simp; done)); (case c5 => (go_simp; done)); (case e0 => (go_simp; done)); (case e1 => (go_simp; done)); (case e2 => (go_simp; done)); (case e3 => (go_simp; done)); (case e4 => (go_simp; done)); (case e5 => (go_simp; done)); intro z0 z1 z2 z3 z4 z5 g0 g1 g2 g3 g4 g5) | skip)))
    all_goals
      have hsz1 : w0.heap.size ≤ w1.heap.size := by have := HB.out.size; simp at this; omega
      clear HSC
      go_wp2_with fail
      go_meet
      case rel =>
        refine ⟨_, rfl, ⟨?_, ?_, ?_, ?_, ?_, ?_, ?_, ?_, ?_, ?_, ?_, ?_⟩, ?_, ?_⟩
        all_goals
          first
            | (go_simp; done)
            | exact below_alloc_l (belowIn HB (below_drew_l (Below.refl _ _)))
            | exact below_set_l (below_set_l (below_set_l (below_set_l (below_set_l (below_set_l (belowIn HB (below_drew_l (below_alloc_l (Below.refl _ _)))) (Nat.le_refl _)) (Nat.le_refl _)) (Nat.le_refl _)) (Nat.le_refl _)) (Nat.le_refl _)) (Nat.le_refl _)
  case rest =>
    obtain ⟨R, rfl, hP, hR0, hBc⟩ := hcut
    have hEB : EnvB R wc := by
      refine ⟨w0, HE.out.below HB0.out, hR0, hBc⟩
    have hRz : R < wc.heap.size := World.block_lt_of_cell? _ _ hP.c0
    have hl1 : ∀ (c : Nat) (w1 : World), w1.heap[c]? = some (.map schE 3) → (Instr.lookup 69 (.map (some c)) (.int .i64 k) false).run Tryz.prog w1 = .ok (.agg #[.string half, .func (.func f1) #[] #[], .func (.func f2) #[] #[], .func (.func f3) #[] #[]]) w1 := fun c w1 h => lookS _ _ _ _ _ _ _ h HFIND.out
    have HLK := Lib.hid hl1
    have HEB := Lib.hid hEB
    have HP := Lib.hid hP
    have HBC := Lib.hid hBc
    have c0 := hP.c0
    have hcf3 := HCF.out
    have hfld : ∀ W : World, (Instr.field 67 (.agg #[.string half, .func (.func f1) #[] #[], .func (.func f2) #[] #[], .func (.func f3) #[] #[]]) 3).run Tryz.prog W = .ok (.func (.func f3) #[] #[]) W := fun W => by kernel_rfl
    clear hl1 hEB hP hBc HSC HFIND HCF h0 h1
    go_wp2_with fail
    go_region_held3 (fun w' => w'.cell? ⟨R, 0, none⟩ = some (.int .i64 k))
      (first
        | go_keep
        | (go_simp; done))
      (first
        | ((go_at_call 40; refine (schemes_any _).mono ?_; rintro e w1 ⟨rfl, hm, hb⟩; have HM := Lib.hid hm; have HB1 := Lib.hid ((Below.refl wc.heap.size wc).drew.trans (hb.mono (Nat.le_refl _))); clear hm hb; replace c0 : w1.cell? ⟨R, 0, none⟩ = some (.int .i64 k) := (HB1.out.cell (p := ⟨R, 0, none⟩) hRz).trans HP.out.c0; have hl := HLK.out _ w1 HM.out; simp only [World.size_drew, World.size_alloc] at hl))
        | ((go_at_fn f3; refine (HTK.out R w1 (HEB.out.fr (FrE.below HB1.out)) (HP.out.below HB1.out)).mono ?_; rintro e w2 ⟨⟨v, rfl⟩, ⟨l', hP2⟩, hF2⟩; have HP2 := Lib.hid hP2; have HF2 := Lib.hid hF2; have d0 := hP2.c0; clear hP2 hF2)))
    have HB2 := Lib.hid (HF2.out.belowAt (HBC.out.trans (HB1.out.mono HBC.out.size)) hR0)
    have HEN2 := Lib.hid ((HEB.out.fr (FrE.below HB1.out)).fr HF2.out).ok
    have d1 := HP2.out.c1
    have d2 := HP2.out.c2
    have d3 := HP2.out.c3
    have d4 := HP2.out.c4
    have HS2 := Lib.hid (HSP.out w2 HEN2.out)
    clear HTK HE HB1 HLK HEB HP HBC HSP HF2 HEN2 hfld hcf3 hl c0
    have hne := HNQ.out
    clear HNQ
    unfold nmV at HOW
    cases r with
    | false =>
      go_wp2_with fail
      refine HS2.out.mono ?_
      rintro e w3 ⟨rfl, hb3⟩
      have HB3 := Lib.hid (HB2.out.trans (hb3.mono HB2.out.size))
      have r0 := (HB3.out.cell (p := ⟨w.heap.size + 1, 0, none⟩) hz0).trans HR.out.1
      have r1 := (HB3.out.cell (p := ⟨w.heap.size + 1, 1, none⟩) hz0).trans HR.out.2.1
      have r2 := (HB3.out.cell (p := ⟨w.heap.size + 1, 2, none⟩) hz0).trans HR.out.2.2.1
      have r3 := (HB3.out.cell (p := ⟨w.heap.size + 1, 3, none⟩) hz0).trans HR.out.2.2.2.1
      have r4 := (HB3.out.cell (p := ⟨w.heap.size + 1, 4, none⟩) hz0).trans HR.out.2.2.2.2
      have q0 := (HB3.out.frozen (p := ⟨w.heap.size + 1, 0, none⟩) hz0).trans HQ.out.1
      have q1 := (HB3.out.frozen (p := ⟨w.heap.size + 1, 1, none⟩) hz0).trans HQ.out.2.1
      have q2 := (HB3.out.frozen (p := ⟨w.heap.size + 1, 2, none⟩) hz0).trans HQ.out.2.2.1
      have q3 := (HB3.out.frozen (p := ⟨w.heap.size + 1, 3, none⟩) hz0).trans HQ.out.2.2.2.1
      have q4 := (HB3.out.frozen (p := ⟨w.heap.size + 1, 4, none⟩) hz0).trans HQ.out.2.2.2.2
      have HBW := Lib.hid (HB0.out.trans (HB3.out.mono HB0.out.size))
      have hz3 : w.heap.size + 1 < w3.heap.size := Nat.lt_of_lt_of_le hz0 HB3.out.size
      have hz3' : w.heap.size + 1 ≠ w3.heap.size := by omega
      clear hb3 HB3 HB2 HS2 HR HQ HH HOW HP2 HB0 hne d0 d1 d2 d3 d4
      go_wp2_with fail
      have k5 := set5 (v0 := .int .i64 0) (v1 := .string ⟨#[]⟩) (v2 := .string ⟨#[]⟩) (v3 := .int .i64 0) (v4 := .int .i64 0) r0 r1 r2 r3 r4
      exact bodyPost_ret (nm_res2 _ 2 3 rfl _ (.bool false) rfl rfl ⟨cell_al k5.1, cell_al k5.2.1, cell_al k5.2.2.1, cell_al k5.2.2.2.1, cell_al k5.2.2.2.2⟩) rfl ⟨rfl, below_alloc_l (below_set5 HBW.out (Nat.le_succ _))⟩
    | true =>
      cases u with
      | false =>
        go_wp2_with fail
        refine HS2.out.mono ?_
        rintro e w3 ⟨rfl, hb3⟩
        have HB3 := Lib.hid (HB2.out.trans (hb3.mono HB2.out.size))
        have r0 := (HB3.out.cell (p := ⟨w.heap.size + 1, 0, none⟩) hz0).trans HR.out.1
        have r1 := (HB3.out.cell (p := ⟨w.heap.size + 1, 1, none⟩) hz0).trans HR.out.2.1
        have r2 := (HB3.out.cell (p := ⟨w.heap.size + 1, 2, none⟩) hz0).trans HR.out.2.2.1
        have r3 := (HB3.out.cell (p := ⟨w.heap.size + 1, 3, none⟩) hz0).trans HR.out.2.2.2.1
        have r4 := (HB3.out.cell (p := ⟨w.heap.size + 1, 4, none⟩) hz0).trans HR.out.2.2.2.2
        have q0 := (HB3.out.frozen (p := ⟨w.heap.size + 1, 0, none⟩) hz0).trans HQ.out.1
        have q1 := (HB3.out.frozen (p := ⟨w.heap.size + 1, 1, none⟩) hz0).trans HQ.out.2.1
        have q2 := (HB3.out.frozen (p := ⟨w.heap.size + 1, 2, none⟩) hz0).trans HQ.out.2.2.1
        have q3 := (HB3.out.frozen (p := ⟨w.heap.size + 1, 3, none⟩) hz0).trans HQ.out.2.2.2.1
        have q4 := (HB3.out.frozen (p := ⟨w.heap.size + 1, 4, none⟩) hz0).trans HQ.out.2.2.2.2
        have h0 := (HB3.out.cell (p := ⟨w.heap.size, 0, none⟩) hz00).trans HH.out.1
        have h1 := (HB3.out.cell (p := ⟨w.heap.size, 1, none⟩) hz00).trans HH.out.2
        have HBW := Lib.hid (HB0.out.trans (HB3.out.mono HB0.out.size))
        have hz3 : w.heap.size + 1 < w3.heap.size := Nat.lt_of_lt_of_le hz0 HB3.out.size
        have hz3' : w.heap.size + 1 ≠ w3.heap.size := by omega
        have hz4 : w.heap.size < w3.heap.size := by omega
        clear hb3 HB3 HB2 HS2 HR HQ HH HOW HP2 HB0 d0 d1 d2 d3 d4
        go_wp2_with fail
        have k5 := set5 (v0 := .int .i64 0) (v1 := .string ⟨#[]⟩) (v2 := .string ⟨#[]⟩) (v3 := .int .i64 0) (v4 := .int .i64 0) r0 r1 r2 r3 r4
        exact bodyPost_ret (nm_res2 _ 2 3 rfl _ (.bool false) rfl rfl ⟨cell_al k5.1, cell_al k5.2.1, cell_al k5.2.2.1, cell_al k5.2.2.2.1, cell_al k5.2.2.2.2⟩) rfl ⟨rfl, below_alloc_l (below_set5 HBW.out (Nat.le_succ _))⟩
      | true =>
        go_wp2_with fail
        refine HS2.out.mono ?_
        rintro e w3 ⟨rfl, hb3⟩
        have HB3 := Lib.hid (HB2.out.trans (hb3.mono HB2.out.size))
        have hP3 := HP2.out.below hb3
        have d0 := hP3.c0
        have d1 := hP3.c1
        have d2 := hP3.c2
        have d3 := hP3.c3
        have d4 := hP3.c4
        have hRz3 : R < w3.heap.size := World.block_lt_of_cell? _ _ d0
        have h0 := (HB3.out.cell (p := ⟨w.heap.size, 0, none⟩) hz00).trans HH.out.1
        have h1 := (HB3.out.cell (p := ⟨w.heap.size, 1, none⟩) hz00).trans HH.out.2
        have hz3 : w.heap.size + 1 < w3.heap.size := Nat.lt_of_lt_of_le hz0 HB3.out.size
        have hz4 : w.heap.size < w3.heap.size := by omega
        clear hb3 hP3 HB2 HS2 HH HP2
        go_wp2_with fail
        refine (HOW.out _).mono ?_
        rintro e w4 ⟨rfl, hb4⟩
        have HB4 := Lib.hid ((HB3.out.alloc HB3.out.size (.cells #[.string hs, .string ht] 213)).trans (hb4.mono (by simp; have := HB3.out.size; omega)))
        have r0 := (HB4.out.cell (p := ⟨w.heap.size + 1, 0, none⟩) hz0).trans HR.out.1
        have r1 := (HB4.out.cell (p := ⟨w.heap.size + 1, 1, none⟩) hz0).trans HR.out.2.1
        have r2 := (HB4.out.cell (p := ⟨w.heap.size + 1, 2, none⟩) hz0).trans HR.out.2.2.1
        have r3 := (HB4.out.cell (p := ⟨w.heap.size + 1, 3, none⟩) hz0).trans HR.out.2.2.2.1
        have r4 := (HB4.out.cell (p := ⟨w.heap.size + 1, 4, none⟩) hz0).trans HR.out.2.2.2.2
        have q0 := (HB4.out.frozen (p := ⟨w.heap.size + 1, 0, none⟩) hz0).trans HQ.out.1
        have q1 := (HB4.out.frozen (p := ⟨w.heap.size + 1, 1, none⟩) hz0).trans HQ.out.2.1
        have q2 := (HB4.out.frozen (p := ⟨w.heap.size + 1, 2, none⟩) hz0).trans HQ.out.2.2.1
        have q3 := (HB4.out.frozen (p := ⟨w.heap.size + 1, 3, none⟩) hz0).trans HQ.out.2.2.2.1
        have q4 := (HB4.out.frozen (p := ⟨w.heap.size + 1, 4, none⟩) hz0).trans HQ.out.2.2.2.2
        have HBW := Lib.hid (HB0.out.trans (HB4.out.mono HB0.out.size))
        clear hb4 HB3 HB4 HR HQ HOW HB0 d0 d1 d2 d3 d4 h0 h1 hne
        go_wp2_with fail
        have k5 := set5 (v0 := .int .i64 k) (v1 := .string nd) (v2 := .string sv) (v3 := .int .i64 a) (v4 := .int .i64 b) r0 r1 r2 r3 r4
        exact bodyPost_ret (nm_res2 _ 2 3 rfl _ (.bool true) rfl rfl k5) rfl ⟨rfl, below_set5 HBW.out (Nat.le_succ _)⟩
end Go.Proofs.YtmbmolgkccjedaaGreatDoor

/- Contracts of Join and Parse of package eid: over the two halves, and over the text. -/
set_option linter.unusedVariables false
set_option linter.unusedSimpArgs false
namespace Go.Proofs.YtmbmolgkccjedaaGreatDoor
open Go.RowKit

/-- A name, or nothing, as a value; and the error's number. -/
def nmW (e : Nm) : Value := nmV e.k ⟨e.node.toArray⟩ ⟨e.serv.toArray⟩ e.a e.b
def nmX (q : Option Nm) : Value := nmW (q.getD nm0)
def erX (q : Option Nm) : Int := if q.isSome then 0 else 60

theorem ba_mk (s : ByteArray) : (⟨s.data.toList.toArray⟩ : ByteArray) = s := ba_ext (by simp)
theorem nmW_O (k : Int) (nd sv : ByteArray) (a b : Int) : nmW (nmO k nd sv a b) = nmV k nd sv a b := by
  unfold nmW nmO
  rw [ba_mk, ba_mk]
theorem hfS_eq {o : Nm} (h : nmR o = true) (s : ByteArray) : hfS o = s ↔ (hlv o).1 = s.data.toList := by
  unfold hfS
  rw [if_pos h]
  constructor
  · rintro rfl; simp
  · intro e; exact ba_ext (by simpa using e)
theorem rsS_eq {o : Nm} (h : nmR o = true) (s : ByteArray) : rsS o = s ↔ (hlv o).2 = s.data.toList := by
  unfold rsS
  rw [if_pos h]
  constructor
  · rintro rfl; simp
  · intro e; exact ba_ext (by simpa using e)
theorem redB_of {k : Int} {nd sv : ByteArray} {a b : Int} {s t : ByteArray} (h : nmO k nd sv a b = rghP s.data.toList t.data.toList) : redB k nd sv a b s t = (jnR s.data.toList t.data.toList).isSome ∧ redV k nd sv a b s t = nmX (jnR s.data.toList t.data.toList) := by
  rw [← jnP_eq]
  unfold jnP redV redB
  rw [← h]
  by_cases hc : nmR (nmO k nd sv a b) = true ∧ hlv (nmO k nd sv a b) = (s.data.toList, t.data.toList)
  · rw [if_pos hc]
    have e1 : hvE (hfS (nmO k nd sv a b)) (rsS (nmO k nd sv a b)) s t = true := by
      rw [hvE_iff]
      exact ⟨(hfS_eq hc.1 s).2 (by rw [hc.2]), (rsS_eq hc.1 t).2 (by rw [hc.2])⟩
    rw [hc.1, e1]
    exact ⟨rfl, (nmW_O k nd sv a b).symm⟩
  · rw [if_neg hc]
    have e1 : (nmR (nmO k nd sv a b) && hvE (hfS (nmO k nd sv a b)) (rsS (nmO k nd sv a b)) s t) = false := by
      rw [← Bool.not_eq_true, Bool.and_eq_true, hvE_iff]
      rintro ⟨h1, h2, h3⟩
      exact hc ⟨h1, Prod.ext ((hfS_eq h1 s).1 h2) ((rsS_eq h1 t).1 h3)⟩
    rw [e1]
    exact ⟨rfl, rfl⟩

theorem I64_zero : I64 0 := by unfold I64; omega
theorem cutA_data (s m : ByteArray) : (cutA s m).data.toList = (Lib.cut s.data.toList m.data.toList).1 := by simp [cutA]
theorem cutB_data (s m : ByteArray) : (cutB s m).data.toList = (Lib.cut s.data.toList m.data.toList).2.1 := by simp [cutB]

theorem eread_any (s t : ByteArray) (ht : t.size ≤ 4000000000) (w : World) (hE : EnvN w) :
    Calls Tryz.prog 136 #[.agg #[.string s, .string t]] w fun e w' => e = .returned (.tuple #[nmX (jnR s.data.toList t.data.toList), .bool (jnR s.data.toList t.data.toList).isSome]) ∧ Below w.heap.size w w' := by
  by_cases h1 : s.toList = [105, 112, 110]
  · have hk : schK s t = 2 := by unfold schK; rw [if_pos h1]
    have hr : nmO 2 ⟨#[]⟩ ⟨#[]⟩ (numPE (cutA t ⟨#[46]⟩).data.toList) (numPE (cutB t ⟨#[46]⟩).data.toList) = rghP s.data.toList t.data.toList := by
      rw [ByteArray.toList_eq] at h1
      unfold rghP nmO
      rw [if_pos h1, cutA_data, cutB_data]
    obtain ⟨e1, e2⟩ := redB_of hr
    rw [← e1, ← e2]
    exact eread_go s t 2 hk _ _ _ _ 2 rfl (enterFE Tryz.func65 (by kernel_rfl) rfl) _ _ _ _ (numP_bounds _) (numP_bounds _) (by decide) (by decide) (fun R W hB hP => takeIpn_any R 2 _ _ 0 0 t W hB hP ht) w hE
  · by_cases h2 : t.toList = [110, 111, 110, 101]
    · have hk : schK s t = 0 := by unfold schK; rw [if_neg h1, if_pos h2]
      have hr : nmO 0 ⟨#[]⟩ ⟨#[]⟩ 0 0 = rghP s.data.toList t.data.toList := by
        rw [ByteArray.toList_eq] at h1 h2
        unfold rghP nmO
        rw [if_neg h1, if_pos h2]
        rfl
      obtain ⟨e1, e2⟩ := redB_of hr
      rw [← e1, ← e2]
      exact eread_go s t 0 hk _ _ _ _ 0 rfl (enterFE Tryz.func59 (by kernel_rfl) rfl) _ _ _ _ I64_zero I64_zero (by decide) (by decide) (fun R W hB hP => (takeNone_any R W).mono (by
        rintro e w' ⟨h, rfl⟩
        exact ⟨h, ⟨_, hP⟩, FrE.refl _ _⟩)) w hE
    · have hk : schK s t = 1 := by unfold schK; rw [if_neg h1, if_neg h2]
      have hr : nmO 1 (cutA (cutB t ⟨#[47, 47]⟩) ⟨#[47]⟩) (cutB (cutB t ⟨#[47, 47]⟩) ⟨#[47]⟩) 0 0 = rghP s.data.toList t.data.toList := by
        rw [ByteArray.toList_eq] at h1 h2
        unfold rghP nmO
        rw [if_neg h1, if_neg h2]
        simp only [cutA_data, cutB_data]
      obtain ⟨e1, e2⟩ := redB_of hr
      rw [← e1, ← e2]
      have hl := Nat.le_trans (cutB_size t ⟨#[47, 47]⟩) ht
      exact eread_go s t 1 hk _ _ _ _ 1 rfl (enterFE Tryz.func62 (by kernel_rfl) rfl) _ _ _ _ I64_zero I64_zero (Nat.le_trans (cutA_size _ _) hl) (Nat.le_trans (cutB_size _ _) hl) (fun R W hB hP => takeDtn_any R 1 _ _ 0 0 t W hB hP ht) w hE

set_option maxRecDepth 100000 in
set_option maxHeartbeats 2000000 in
theorem join_any (s t : ByteArray) (ht : t.size ≤ 4000000000) (w : World) (hE : EnvN w) :
    Calls Tryz.prog 109 #[.string s, .string t] w fun e w' => e = .returned (.tuple #[nmX (jnR s.data.toList t.data.toList), .int .i64 (erX (jnR s.data.toList t.data.toList))]) ∧ Below w.heap.size w w' := by
  have HC := Lib.hid (eread_any s t ht _ (hE.below (below_alloc_l (o := .cells #[.int .i64 0, .string ⟨#[]⟩, .string ⟨#[]⟩, .int .i64 0, .int .i64 0] 23) (Below.refl _ _))))
  clear hE ht
  unfold nmX erX at *
  generalize jnR s.data.toList t.data.toList = q at *
  cases q with
  | none =>
    have HT := Lib.hid (fun W => tellN_bad 0 ⟨#[]⟩ ⟨#[]⟩ 0 0 W)
    simp only [Option.getD_none, Option.isSome_none, Bool.false_eq_true, if_false] at HC ⊢
    rw [show nmW nm0 = nmV 0 ⟨#[]⟩ ⟨#[]⟩ 0 0 from rfl] at HC ⊢
    unfold nmV at *
    go_enter Tryz.func109, Tryz.ntmps109
    go_wp2_with fail
    refine HC.out.mono ?_
    rintro e w1 ⟨rfl, hb1⟩
    have r0 : w1.cell? ⟨w.heap.size, 0, none⟩ = some (.int .i64 0) := (hb1.cell (p := ⟨w.heap.size, 0, none⟩) (by simp; try omega)).trans (by go_simp)
    have r1 : w1.cell? ⟨w.heap.size, 1, none⟩ = some (.string ⟨#[]⟩) := (hb1.cell (p := ⟨w.heap.size, 1, none⟩) (by simp; try omega)).trans (by go_simp)
    have r2 : w1.cell? ⟨w.heap.size, 2, none⟩ = some (.string ⟨#[]⟩) := (hb1.cell (p := ⟨w.heap.size, 2, none⟩) (by simp; try omega)).trans (by go_simp)
    have r3 : w1.cell? ⟨w.heap.size, 3, none⟩ = some (.int .i64 0) := (hb1.cell (p := ⟨w.heap.size, 3, none⟩) (by simp; try omega)).trans (by go_simp)
    have r4 : w1.cell? ⟨w.heap.size, 4, none⟩ = some (.int .i64 0) := (hb1.cell (p := ⟨w.heap.size, 4, none⟩) (by simp; try omega)).trans (by go_simp)
    have q0 : w1.frozen? ⟨w.heap.size, 0, none⟩ = false := (hb1.frozen (p := ⟨w.heap.size, 0, none⟩) (by simp; try omega)).trans (by go_simp)
    have q1 : w1.frozen? ⟨w.heap.size, 1, none⟩ = false := (hb1.frozen (p := ⟨w.heap.size, 1, none⟩) (by simp; try omega)).trans (by go_simp)
    have q2 : w1.frozen? ⟨w.heap.size, 2, none⟩ = false := (hb1.frozen (p := ⟨w.heap.size, 2, none⟩) (by simp; try omega)).trans (by go_simp)
    have q3 : w1.frozen? ⟨w.heap.size, 3, none⟩ = false := (hb1.frozen (p := ⟨w.heap.size, 3, none⟩) (by simp; try omega)).trans (by go_simp)
    have q4 : w1.frozen? ⟨w.heap.size, 4, none⟩ = false := (hb1.frozen (p := ⟨w.heap.size, 4, none⟩) (by simp; try omega)).trans (by go_simp)
    have HB := Lib.hid (show Below w.heap.size w w1 from (below_alloc_l (Below.refl _ _)).trans (hb1.mono (by simp)))
    clear hb1 HC
    go_wp2_with fail
    refine (HT.out _).mono ?_
    rintro e w2 ⟨rfl, hb2⟩
    have c : ∀ {p : Addr} {v : Value}, w1.cell? p = some v → w2.cell? p = some v := fun e => (hb2.cell (World.block_lt_of_cell? _ _ e)).trans e
    have s0 := c r0
    have s1 := c r1
    have s2 := c r2
    have s3 := c r3
    have s4 := c r4
    have p0 := (hb2.frozen (World.block_lt_of_cell? _ _ r0)).trans q0
    have p1 := (hb2.frozen (World.block_lt_of_cell? _ _ r1)).trans q1
    have p2 := (hb2.frozen (World.block_lt_of_cell? _ _ r2)).trans q2
    have p3 := (hb2.frozen (World.block_lt_of_cell? _ _ r3)).trans q3
    have p4 := (hb2.frozen (World.block_lt_of_cell? _ _ r4)).trans q4
    have HB2 := Lib.hid (HB.out.trans (hb2.mono HB.out.size))
    clear hb2 HB r0 r1 r2 r3 r4 q0 q1 q2 q3 q4 HT c
    go_wp2_with fail
    have k5 := set5 (v0 := .int .i64 0) (v1 := .string ⟨#[]⟩) (v2 := .string ⟨#[]⟩) (v3 := .int .i64 0) (v4 := .int .i64 0) s0 s1 s2 s3 s4
    exact bodyPost_ret (nm_res2 _ 4 5 rfl _ (.int .i64 60) rfl rfl k5) rfl ⟨rfl, below_set5 HB2.out (Nat.le_refl _)⟩
  | some o =>
    obtain ⟨k, nd, sv, a, b⟩ := o
    have HT := Lib.hid (fun W => tellN_ok k ⟨nd.toArray⟩ ⟨sv.toArray⟩ a b W)
    simp only [Option.getD_some, Option.isSome_some, if_true] at HC ⊢
    unfold nmW at *
    simp only at HC ⊢
    generalize (⟨nd.toArray⟩ : ByteArray) = nd at *
    generalize (⟨sv.toArray⟩ : ByteArray) = sv at *
    unfold nmV at *
    go_enter Tryz.func109, Tryz.ntmps109
    go_wp2_with fail
    refine HC.out.mono ?_
    rintro e w1 ⟨rfl, hb1⟩
    have r0 : w1.cell? ⟨w.heap.size, 0, none⟩ = some (.int .i64 0) := (hb1.cell (p := ⟨w.heap.size, 0, none⟩) (by simp; try omega)).trans (by go_simp)
    have r1 : w1.cell? ⟨w.heap.size, 1, none⟩ = some (.string ⟨#[]⟩) := (hb1.cell (p := ⟨w.heap.size, 1, none⟩) (by simp; try omega)).trans (by go_simp)
    have r2 : w1.cell? ⟨w.heap.size, 2, none⟩ = some (.string ⟨#[]⟩) := (hb1.cell (p := ⟨w.heap.size, 2, none⟩) (by simp; try omega)).trans (by go_simp)
    have r3 : w1.cell? ⟨w.heap.size, 3, none⟩ = some (.int .i64 0) := (hb1.cell (p := ⟨w.heap.size, 3, none⟩) (by simp; try omega)).trans (by go_simp)
    have r4 : w1.cell? ⟨w.heap.size, 4, none⟩ = some (.int .i64 0) := (hb1.cell (p := ⟨w.heap.size, 4, none⟩) (by simp; try omega)).trans (by go_simp)
    have q0 : w1.frozen? ⟨w.heap.size, 0, none⟩ = false := (hb1.frozen (p := ⟨w.heap.size, 0, none⟩) (by simp; try omega)).trans (by go_simp)
    have q1 : w1.frozen? ⟨w.heap.size, 1, none⟩ = false := (hb1.frozen (p := ⟨w.heap.size, 1, none⟩) (by simp; try omega)).trans (by go_simp)
    have q2 : w1.frozen? ⟨w.heap.size, 2, none⟩ = false := (hb1.frozen (p := ⟨w.heap.size, 2, none⟩) (by simp; try omega)).trans (by go_simp)
    have q3 : w1.frozen? ⟨w.heap.size, 3, none⟩ = false := (hb1.frozen (p := ⟨w.heap.size, 3, none⟩) (by simp; try omega)).trans (by go_simp)
    have q4 : w1.frozen? ⟨w.heap.size, 4, none⟩ = false := (hb1.frozen (p := ⟨w.heap.size, 4, none⟩) (by simp; try omega)).trans (by go_simp)
    have HB := Lib.hid (show Below w.heap.size w w1 from (below_alloc_l (Below.refl _ _)).trans (hb1.mono (by simp)))
    clear hb1 HC
    go_wp2_with fail
    refine (HT.out _).mono ?_
    rintro e w2 ⟨rfl, hb2⟩
    have c : ∀ {p : Addr} {v : Value}, w1.cell? p = some v → w2.cell? p = some v := fun e => (hb2.cell (World.block_lt_of_cell? _ _ e)).trans e
    have s0 := c r0
    have s1 := c r1
    have s2 := c r2
    have s3 := c r3
    have s4 := c r4
    have p0 := (hb2.frozen (World.block_lt_of_cell? _ _ r0)).trans q0
    have p1 := (hb2.frozen (World.block_lt_of_cell? _ _ r1)).trans q1
    have p2 := (hb2.frozen (World.block_lt_of_cell? _ _ r2)).trans q2
    have p3 := (hb2.frozen (World.block_lt_of_cell? _ _ r3)).trans q3
    have p4 := (hb2.frozen (World.block_lt_of_cell? _ _ r4)).trans q4
    have HB2 := Lib.hid (HB.out.trans (hb2.mono HB.out.size))
    clear hb2 HB r0 r1 r2 r3 r4 q0 q1 q2 q3 q4 HT c
    go_wp2_with fail
    have k5 := set5 (v0 := .int .i64 k) (v1 := .string nd) (v2 := .string sv) (v3 := .int .i64 a) (v4 := .int .i64 b) s0 s1 s2 s3 s4
    exact bodyPost_ret (nm_res2 _ 4 5 rfl _ (.int .i64 0) rfl rfl k5) rfl ⟨rfl, below_set5 HB2.out (Nat.le_refl _)⟩

end Go.Proofs.YtmbmolgkccjedaaGreatDoor

/- The document's Home, Join, Parse of package eid. -/
set_option linter.unusedVariables false
set_option linter.unusedSimpArgs false
namespace Go.Proofs.YtmbmolgkccjedaaGreatDoor
open Go.RowKit

/-- A name that was read roughly, by the document, and what its halves say. -/
def refB (k : Int) (nd sv : ByteArray) (a b : Int) (s t : ByteArray) : Bool := nmR (nmO k nd sv a b) && decide (hfS (nmO k nd sv a b) = s) && decide (rsS (nmO k nd sv a b) = t)
theorem refB_red {k : Int} {nd sv : ByteArray} {a b : Int} {s t : ByteArray} (h : nmO k nd sv a b = rgh s.data.toList t.data.toList) : (if refB k nd sv a b s t then nmV k nd sv a b else nmV 0 ⟨#[]⟩ ⟨#[]⟩ 0 0) = nmX (jnR s.data.toList t.data.toList) ∧ (if refB k nd sv a b s t then (0 : Int) else 60) = erX (jnR s.data.toList t.data.toList) := by
  unfold refB jnR nmX erX
  rw [← h]
  by_cases hc : nmR (nmO k nd sv a b) = true ∧ hlv (nmO k nd sv a b) = (s.data.toList, t.data.toList)
  · rw [if_pos hc]
    have e1 : (nmR (nmO k nd sv a b) && decide (hfS (nmO k nd sv a b) = s) && decide (rsS (nmO k nd sv a b) = t)) = true := by
      rw [Bool.and_eq_true, Bool.and_eq_true, decide_eq_true_eq, decide_eq_true_eq]
      exact ⟨⟨hc.1, (hfS_eq hc.1 s).2 (by rw [hc.2])⟩, (rsS_eq hc.1 t).2 (by rw [hc.2])⟩
    rw [e1]
    exact ⟨(nmW_O k nd sv a b).symm, rfl⟩
  · rw [if_neg hc]
    have e1 : (nmR (nmO k nd sv a b) && decide (hfS (nmO k nd sv a b) = s) && decide (rsS (nmO k nd sv a b) = t)) = false := by
      rw [← Bool.not_eq_true, Bool.and_eq_true, Bool.and_eq_true, decide_eq_true_eq, decide_eq_true_eq]
      rintro ⟨⟨h1, h2⟩, h3⟩
      exact hc ⟨h1, Prod.ext ((hfS_eq h1 s).1 h2) ((rsS_eq h1 t).1 h3)⟩
    rw [e1]
    exact ⟨rfl, rfl⟩
end Go.Proofs.YtmbmolgkccjedaaGreatDoor

/- The document's Join, Parse of package eid. -/
set_option linter.unusedVariables false
set_option linter.unusedSimpArgs false
namespace Go.Proofs.YtmbmolgkccjedaaGreatDoor
open Go.RowKit

theorem str_eqb (x s : ByteArray) : (x.toList == s.toList) = decide (x = s) := by
  by_cases h : x = s
  · subst h
    simp
  · have h2 : ¬ x.toList = s.toList := fun e => h (toList_inj e)
    simp [h, h2]

theorem spl_size1 (c : UInt8) (s : ByteArray) (f : Nat) : (splA c s f).size ≤ s.size := by
  unfold splA spl
  show (List.toArray _).size ≤ _
  have hl : s.data.toList.length = s.size := size_len s
  have h1 := (List.takeWhile_sublist (· != c) (l := s.data.toList.drop f)).length_le
  rw [List.length_drop] at h1
  split <;> simp <;> omega
theorem spl_size2 (c : UInt8) (s : ByteArray) (f : Nat) : (splB c s f).size ≤ s.size := by
  unfold splB spl
  show (List.toArray _).size ≤ _
  have hl : s.data.toList.length = s.size := size_len s
  have h1 := (List.dropWhile_sublist (· != c) (l := s.data.toList.drop f)).length_le
  rw [List.length_drop] at h1
  split <;> simp <;> omega
theorem splA_data (c : UInt8) (s : ByteArray) (f : Nat) : (splA c s f).data.toList = (spl c (s.data.toList.drop f)).1 := by simp [splA]
theorem splB_data (c : UInt8) (s : ByteArray) (f : Nat) : (splB c s f).data.toList = (spl c (s.data.toList.drop f)).2 := by simp [splB]

set_option maxRecDepth 100000 in
set_option maxHeartbeats 4000000 in
/-- What follows once the name was read roughly. -/
theorem rjoin_zero (s t : ByteArray) (ht : t.size ≤ 4000000000) (k : Int) (nd sv : ByteArray) (a b : Int) (hrgh : nmO k nd sv a b = rgh s.data.toList t.data.toList) (hn : nd.size ≤ 4000000000) (hsv : sv.size ≤ 4000000000) (hk : k = 0) (hnd : nd = ⟨#[]⟩) (hsv0 : sv = ⟨#[]⟩) (ha : a = 0) (hb : b = 0) (hw : (s.toList == [105, 112, 110]) = false ∧ ((t.toList == [110, 111, 110, 101]) = true ∨ (t.toList == [110, 111, 110, 101]) = false ∧ ¬ 2 < t.size)) (w : World) :
    Calls Tryz.prog 33 #[.string s, .string t] w fun e w' => e = .returned (.tuple #[nmX (jnR s.data.toList t.data.toList), .int .i64 (erX (jnR s.data.toList t.data.toList))]) ∧ Below w.heap.size w w' := by
  obtain ⟨g1, g2⟩ := refB_red hrgh
  rw [← g1, ← g2]
  clear g1 g2 hrgh
  have HC := Lib.hid (fun W => rhalves_any k nd sv a b W hn hsv)
  clear hn hsv
  unfold refB
  unfold erS at HC
  generalize nmO k nd sv a b = o at *
  have HQ1 := Lib.hid (str_eqb (hfS o) s)
  have HQ2 := Lib.hid (str_eqb (rsS o) t)
  obtain ⟨r, hr⟩ : ∃ r, nmR o = r := ⟨_, rfl⟩
  obtain ⟨u1, hu1⟩ : ∃ u, decide (hfS o = s) = u := ⟨_, rfl⟩
  obtain ⟨u2, hu2⟩ : ∃ u, decide (rsS o = t) = u := ⟨_, rfl⟩
  rw [hr] at HC
  rw [hr, hu1, hu2]
  rw [hu1] at HQ1
  rw [hu2] at HQ2
  clear hr hu1 hu2
  generalize hfS o = hs at *
  generalize rsS o = rs at *
  unfold nmV at *
  subst hk hnd hsv0 ha hb
  obtain ⟨b1, hw⟩ := hw
  have HBX := Lib.hid (show Below w.heap.size w ((w.alloc (.cells #[.int .i64 0, .string ⟨#[]⟩, .string ⟨#[]⟩, .int .i64 0, .int .i64 0] 23)).alloc (.cells #[.int .i64 0, .string ⟨#[]⟩, .string ⟨#[]⟩, .int .i64 0, .int .i64 0] 23)) from below_alloc_l (below_alloc_l (Below.refl _ _)))
  rcases hw with b2 | ⟨b2, hb3⟩
  all_goals
    go_enter Tryz.func33, Tryz.ntmps33
    go_wp2_with fail
    refine (HC.out _).mono ?_
    rintro e w4 ⟨rfl, hb4⟩
    have r0 : w4.cell? ⟨w.heap.size, 0, none⟩ = some (.int .i64 0) := (hb4.cell (p := ⟨w.heap.size, 0, none⟩) (by simp; try omega)).trans (by go_simp)
    have r1 : w4.cell? ⟨w.heap.size, 1, none⟩ = some (.string ⟨#[]⟩) := (hb4.cell (p := ⟨w.heap.size, 1, none⟩) (by simp; try omega)).trans (by go_simp)
    have r2 : w4.cell? ⟨w.heap.size, 2, none⟩ = some (.string ⟨#[]⟩) := (hb4.cell (p := ⟨w.heap.size, 2, none⟩) (by simp; try omega)).trans (by go_simp)
    have r3 : w4.cell? ⟨w.heap.size, 3, none⟩ = some (.int .i64 0) := (hb4.cell (p := ⟨w.heap.size, 3, none⟩) (by simp; try omega)).trans (by go_simp)
    have r4 : w4.cell? ⟨w.heap.size, 4, none⟩ = some (.int .i64 0) := (hb4.cell (p := ⟨w.heap.size, 4, none⟩) (by simp; try omega)).trans (by go_simp)
    have q0 : w4.frozen? ⟨w.heap.size, 0, none⟩ = false := (hb4.frozen (p := ⟨w.heap.size, 0, none⟩) (by simp; try omega)).trans (by go_simp)
    have q1 : w4.frozen? ⟨w.heap.size, 1, none⟩ = false := (hb4.frozen (p := ⟨w.heap.size, 1, none⟩) (by simp; try omega)).trans (by go_simp)
    have q2 : w4.frozen? ⟨w.heap.size, 2, none⟩ = false := (hb4.frozen (p := ⟨w.heap.size, 2, none⟩) (by simp; try omega)).trans (by go_simp)
    have q3 : w4.frozen? ⟨w.heap.size, 3, none⟩ = false := (hb4.frozen (p := ⟨w.heap.size, 3, none⟩) (by simp; try omega)).trans (by go_simp)
    have q4 : w4.frozen? ⟨w.heap.size, 4, none⟩ = false := (hb4.frozen (p := ⟨w.heap.size, 4, none⟩) (by simp; try omega)).trans (by go_simp)
    have n0 : w4.cell? ⟨w.heap.size + 1, 0, none⟩ = some (.int .i64 0) := (hb4.cell (p := ⟨w.heap.size + 1, 0, none⟩) (by simp; try omega)).trans (by go_simp)
    have n1 : w4.cell? ⟨w.heap.size + 1, 1, none⟩ = some (.string ⟨#[]⟩) := (hb4.cell (p := ⟨w.heap.size + 1, 1, none⟩) (by simp; try omega)).trans (by go_simp)
    have n2 : w4.cell? ⟨w.heap.size + 1, 2, none⟩ = some (.string ⟨#[]⟩) := (hb4.cell (p := ⟨w.heap.size + 1, 2, none⟩) (by simp; try omega)).trans (by go_simp)
    have n3 : w4.cell? ⟨w.heap.size + 1, 3, none⟩ = some (.int .i64 0) := (hb4.cell (p := ⟨w.heap.size + 1, 3, none⟩) (by simp; try omega)).trans (by go_simp)
    have n4 : w4.cell? ⟨w.heap.size + 1, 4, none⟩ = some (.int .i64 0) := (hb4.cell (p := ⟨w.heap.size + 1, 4, none⟩) (by simp; try omega)).trans (by go_simp)
    have HBW := Lib.hid (HBX.out.trans (hb4.mono HBX.out.size))
    clear hb4 HBX

    have hz5 : w.heap.size < w4.heap.size := World.block_lt_of_cell? _ _ r0
    cases r with
    | false =>
      clear HQ1 HQ2 n0 n1 n2 n3 n4
      go_wp2_with fail
      have k5 := set5 (v0 := .int .i64 0) (v1 := .string ⟨#[]⟩) (v2 := .string ⟨#[]⟩) (v3 := .int .i64 0) (v4 := .int .i64 0) r0 r1 r2 r3 r4
      exact bodyPost_ret (nm_res2 _ 4 5 rfl _ (.int .i64 60) rfl rfl k5) rfl ⟨rfl, below_set5 HBW.out (Nat.le_refl _)⟩
    | true =>
      have hq1 := HQ1.out
      have hq2 := HQ2.out
      clear HQ1 HQ2
      cases u1 with
      | false =>
        clear n0 n1 n2 n3 n4 hq2
        go_wp2_with fail
        have k5 := set5 (v0 := .int .i64 0) (v1 := .string ⟨#[]⟩) (v2 := .string ⟨#[]⟩) (v3 := .int .i64 0) (v4 := .int .i64 0) r0 r1 r2 r3 r4
        exact bodyPost_ret (nm_res2 _ 4 5 rfl _ (.int .i64 60) rfl rfl k5) rfl ⟨rfl, below_set5 HBW.out (Nat.le_refl _)⟩
      | true =>
        cases u2 with
        | false =>
          clear n0 n1 n2 n3 n4
          go_wp2_with fail
          have k5 := set5 (v0 := .int .i64 0) (v1 := .string ⟨#[]⟩) (v2 := .string ⟨#[]⟩) (v3 := .int .i64 0) (v4 := .int .i64 0) r0 r1 r2 r3 r4
          exact bodyPost_ret (nm_res2 _ 4 5 rfl _ (.int .i64 60) rfl rfl k5) rfl ⟨rfl, below_set5 HBW.out (Nat.le_refl _)⟩
        | true =>
          go_wp2_with fail
          have k5 := set5 (v0 := .int .i64 0) (v1 := .string ⟨#[]⟩) (v2 := .string ⟨#[]⟩) (v3 := .int .i64 0) (v4 := .int .i64 0) r0 r1 r2 r3 r4
          exact bodyPost_ret (nm_res2 _ 4 5 rfl _ (.int .i64 0) rfl rfl k5) rfl ⟨rfl, below_set5 HBW.out (Nat.le_refl _)⟩

end Go.Proofs.YtmbmolgkccjedaaGreatDoor
