/- Contracts of Join and Parse of package eid: over the two halves, and over the text. -/
import Derived.Test.YtmpokhdljlnllaaDoorERead
import Derived.Test.YtmpokhdljlnllaaDoorERgh
set_option linter.unusedVariables false
set_option linter.unusedSimpArgs false
namespace Go.Proofs.YtmpokhdljlnllaaDoor
open Go.RowKit

/-- A name, or nothing, as a value; and the error's number. -/
def nmW (e : Nm) : Value := nmV e.k ⟨e.node.toArray⟩ ⟨e.serv.toArray⟩ e.a e.b
def nmX (q : Option Nm) : Value := nmW (q.getD nm0)
def erX (q : Option Nm) : Int := if q.isSome then 0 else 60

theorem ba_mk (s : ByteArray) : (⟨s.data.toList.toArray⟩ : ByteArray) = s := ba_ext (by simp)
theorem nmW_O (k : Int) (nd sv : ByteArray) (a b : Int) : nmW (nmO k nd sv a b) = nmV k nd sv a b := by
  unfold nmW nmO
  rw [ba_mk, ba_mk]
theorem hfS_eq {o : Nm} (h : nmR o = true) (s : ByteArray) : hfS o = s ↔ (hlv o).1 = s.data.toList := by
  unfold hfS
  rw [if_pos h]
  constructor
  · rintro rfl; simp
  · intro e; exact ba_ext (by simpa using e)
theorem rsS_eq {o : Nm} (h : nmR o = true) (s : ByteArray) : rsS o = s ↔ (hlv o).2 = s.data.toList := by
  unfold rsS
  rw [if_pos h]
  constructor
  · rintro rfl; simp
  · intro e; exact ba_ext (by simpa using e)
theorem redB_of {k : Int} {nd sv : ByteArray} {a b : Int} {s t : ByteArray} (h : nmO k nd sv a b = rghP s.data.toList t.data.toList) : redB k nd sv a b s t = (jnR s.data.toList t.data.toList).isSome ∧ redV k nd sv a b s t = nmX (jnR s.data.toList t.data.toList) := by
  rw [← jnP_eq]
  unfold jnP redV redB
  rw [← h]
  by_cases hc : nmR (nmO k nd sv a b) = true ∧ hlv (nmO k nd sv a b) = (s.data.toList, t.data.toList)
  · rw [if_pos hc]
    have e1 : hvE (hfS (nmO k nd sv a b)) (rsS (nmO k nd sv a b)) s t = true := by
      rw [hvE_iff]
      exact ⟨(hfS_eq hc.1 s).2 (by rw [hc.2]), (rsS_eq hc.1 t).2 (by rw [hc.2])⟩
    rw [hc.1, e1]
    exact ⟨rfl, (nmW_O k nd sv a b).symm⟩
  · rw [if_neg hc]
    have e1 : (nmR (nmO k nd sv a b) && hvE (hfS (nmO k nd sv a b)) (rsS (nmO k nd sv a b)) s t) = false := by
      rw [← Bool.not_eq_true, Bool.and_eq_true, hvE_iff]
      rintro ⟨h1, h2, h3⟩
      exact hc ⟨h1, Prod.ext ((hfS_eq h1 s).1 h2) ((rsS_eq h1 t).1 h3)⟩
    rw [e1]
    exact ⟨rfl, rfl⟩

theorem I64_zero : I64 0 := by unfold I64; omega
theorem cutA_data (s m : ByteArray) : (cutA s m).data.toList = (Lib.cut s.data.toList m.data.toList).1 := by simp [cutA]
theorem cutB_data (s m : ByteArray) : (cutB s m).data.toList = (Lib.cut s.data.toList m.data.toList).2.1 := by simp [cutB]

theorem eread_any (s t : ByteArray) (ht : t.size ≤ 4000000000) (w : World) (hE : EnvN w) :
    Calls Tryd.prog 27 #[.agg #[.string s, .string t]] w fun e w' => e = .returned (.tuple #[nmX (jnR s.data.toList t.data.toList), .bool (jnR s.data.toList t.data.toList).isSome]) ∧ Below w.heap.size w w' := by
  by_cases h1 : s.toList = [105, 112, 110]
  · have hk : schK s t = 2 := by unfold schK; rw [if_pos h1]
    have hr : nmO 2 ⟨#[]⟩ ⟨#[]⟩ (numP (cutA t ⟨#[46]⟩).data.toList) (numP (cutB t ⟨#[46]⟩).data.toList) = rghP s.data.toList t.data.toList := by
      rw [ByteArray.toList_eq] at h1
      unfold rghP nmO
      rw [if_pos h1, cutA_data, cutB_data]
    obtain ⟨e1, e2⟩ := redB_of hr
    rw [← e1, ← e2]
    exact eread_go s t 2 hk _ _ _ _ 2 rfl (enterF Tryd.func47 (by kernel_rfl) rfl) _ _ _ _ (numP_bounds _) (numP_bounds _) (by decide) (by decide) (fun R W hB hP => takeIpn_any R 2 _ _ 0 0 t W hB hP ht) w hE
  · by_cases h2 : t.toList = [110, 111, 110, 101]
    · have hk : schK s t = 0 := by unfold schK; rw [if_neg h1, if_pos h2]
      have hr : nmO 0 ⟨#[]⟩ ⟨#[]⟩ 0 0 = rghP s.data.toList t.data.toList := by
        rw [ByteArray.toList_eq] at h1 h2
        unfold rghP nmO
        rw [if_neg h1, if_pos h2]
        rfl
      obtain ⟨e1, e2⟩ := redB_of hr
      rw [← e1, ← e2]
      exact eread_go s t 0 hk _ _ _ _ 0 rfl (enterF Tryd.func41 (by kernel_rfl) rfl) _ _ _ _ I64_zero I64_zero (by decide) (by decide) (fun R W hB hP => (takeNone_any R W).mono (by
        rintro e w' ⟨h, rfl⟩
        exact ⟨h, ⟨_, hP⟩, Fr.refl _ _⟩)) w hE
    · have hk : schK s t = 1 := by unfold schK; rw [if_neg h1, if_neg h2]
      have hr : nmO 1 (cutA (cutB t ⟨#[47, 47]⟩) ⟨#[47]⟩) (cutB (cutB t ⟨#[47, 47]⟩) ⟨#[47]⟩) 0 0 = rghP s.data.toList t.data.toList := by
        rw [ByteArray.toList_eq] at h1 h2
        unfold rghP nmO
        rw [if_neg h1, if_neg h2]
        simp only [cutA_data, cutB_data]
      obtain ⟨e1, e2⟩ := redB_of hr
      rw [← e1, ← e2]
      have hl := Nat.le_trans (cutB_size t ⟨#[47, 47]⟩) ht
      exact eread_go s t 1 hk _ _ _ _ 1 rfl (enterF Tryd.func44 (by kernel_rfl) rfl) _ _ _ _ I64_zero I64_zero (Nat.le_trans (cutA_size _ _) hl) (Nat.le_trans (cutB_size _ _) hl) (fun R W hB hP => takeDtn_any R 1 _ _ 0 0 t W hB hP ht) w hE

set_option maxRecDepth 100000 in
set_option maxHeartbeats 2000000 in
theorem join_any (s t : ByteArray) (ht : t.size ≤ 4000000000) (w : World) (hE : EnvN w) :
    Calls Tryd.prog 13 #[.string s, .string t] w fun e w' => e = .returned (.tuple #[nmX (jnR s.data.toList t.data.toList), .int .i64 (erX (jnR s.data.toList t.data.toList))]) ∧ Below w.heap.size w w' := by
  have HC := Lib.hid (eread_any s t ht _ (hE.below (below_alloc_l (o := .cells #[.int .i64 0, .string ⟨#[]⟩, .string ⟨#[]⟩, .int .i64 0, .int .i64 0] 23) (Below.refl _ _))))
  clear hE ht
  unfold nmX erX at *
  generalize jnR s.data.toList t.data.toList = q at *
  cases q with
  | none =>
    have HT := Lib.hid (fun W => tellN_bad 0 ⟨#[]⟩ ⟨#[]⟩ 0 0 W)
    simp only [Option.getD_none, Option.isSome_none, Bool.false_eq_true, if_false] at HC ⊢
    rw [show nmW nm0 = nmV 0 ⟨#[]⟩ ⟨#[]⟩ 0 0 from rfl] at HC ⊢
    unfold nmV at *
    go_enter Tryd.func13, Tryd.ntmps13
    go_wp2_with fail
    refine HC.out.mono ?_
    rintro e w1 ⟨rfl, hb1⟩
    have r0 : w1.cell? ⟨w.heap.size, 0, none⟩ = some (.int .i64 0) := (hb1.cell (p := ⟨w.heap.size, 0, none⟩) (by simp; try omega)).trans (by go_simp)
    have r1 : w1.cell? ⟨w.heap.size, 1, none⟩ = some (.string ⟨#[]⟩) := (hb1.cell (p := ⟨w.heap.size, 1, none⟩) (by simp; try omega)).trans (by go_simp)
    have r2 : w1.cell? ⟨w.heap.size, 2, none⟩ = some (.string ⟨#[]⟩) := (hb1.cell (p := ⟨w.heap.size, 2, none⟩) (by simp; try omega)).trans (by go_simp)
    have r3 : w1.cell? ⟨w.heap.size, 3, none⟩ = some (.int .i64 0) := (hb1.cell (p := ⟨w.heap.size, 3, none⟩) (by simp; try omega)).trans (by go_simp)
    have r4 : w1.cell? ⟨w.heap.size, 4, none⟩ = some (.int .i64 0) := (hb1.cell (p := ⟨w.heap.size, 4, none⟩) (by simp; try omega)).trans (by go_simp)
    have q0 : w1.frozen? ⟨w.heap.size, 0, none⟩ = false := (hb1.frozen (p := ⟨w.heap.size, 0, none⟩) (by simp; try omega)).trans (by go_simp)
    have q1 : w1.frozen? ⟨w.heap.size, 1, none⟩ = false := (hb1.frozen (p := ⟨w.heap.size, 1, none⟩) (by simp; try omega)).trans (by go_simp)
    have q2 : w1.frozen? ⟨w.heap.size, 2, none⟩ = false := (hb1.frozen (p := ⟨w.heap.size, 2, none⟩) (by simp; try omega)).trans (by go_simp)
    have q3 : w1.frozen? ⟨w.heap.size, 3, none⟩ = false := (hb1.frozen (p := ⟨w.heap.size, 3, none⟩) (by simp; try omega)).trans (by go_simp)
    have q4 : w1.frozen? ⟨w.heap.size, 4, none⟩ = false := (hb1.frozen (p := ⟨w.heap.size, 4, none⟩) (by simp; try omega)).trans (by go_simp)
    have HB := Lib.hid (show Below w.heap.size w w1 from (below_alloc_l (Below.refl _ _)).trans (hb1.mono (by simp)))
    clear hb1 HC
    go_wp2_with fail
    refine (HT.out _).mono ?_
    rintro e w2 ⟨rfl, hb2⟩
    have c : ∀ {p : Addr} {v : Value}, w1.cell? p = some v → w2.cell? p = some v := fun e => (hb2.cell (World.block_lt_of_cell? _ _ e)).trans e
    have s0 := c r0
    have s1 := c r1
    have s2 := c r2
    have s3 := c r3
    have s4 := c r4
    have p0 := (hb2.frozen (World.block_lt_of_cell? _ _ r0)).trans q0
    have p1 := (hb2.frozen (World.block_lt_of_cell? _ _ r1)).trans q1
    have p2 := (hb2.frozen (World.block_lt_of_cell? _ _ r2)).trans q2
    have p3 := (hb2.frozen (World.block_lt_of_cell? _ _ r3)).trans q3
    have p4 := (hb2.frozen (World.block_lt_of_cell? _ _ r4)).trans q4
    have HB2 := Lib.hid (HB.out.trans (hb2.mono HB.out.size))
    clear hb2 HB r0 r1 r2 r3 r4 q0 q1 q2 q3 q4 HT c
    go_wp2_with fail
    have k5 := set5 (v0 := .int .i64 0) (v1 := .string ⟨#[]⟩) (v2 := .string ⟨#[]⟩) (v3 := .int .i64 0) (v4 := .int .i64 0) s0 s1 s2 s3 s4
    exact bodyPost_ret (nm_res2 _ 4 5 rfl _ (.int .i64 60) rfl rfl k5) rfl ⟨rfl, below_set5 HB2.out (Nat.le_refl _)⟩
  | some o =>
    obtain ⟨k, nd, sv, a, b⟩ := o
    have HT := Lib.hid (fun W => tellN_ok k ⟨nd.toArray⟩ ⟨sv.toArray⟩ a b W)
    simp only [Option.getD_some, Option.isSome_some, if_true] at HC ⊢
    unfold nmW at *
    simp only at HC ⊢
    generalize (⟨nd.toArray⟩ : ByteArray) = nd at *
    generalize (⟨sv.toArray⟩ : ByteArray) = sv at *
    unfold nmV at *
    go_enter Tryd.func13, Tryd.ntmps13
    go_wp2_with fail
    refine HC.out.mono ?_
    rintro e w1 ⟨rfl, hb1⟩
    have r0 : w1.cell? ⟨w.heap.size, 0, none⟩ = some (.int .i64 0) := (hb1.cell (p := ⟨w.heap.size, 0, none⟩) (by simp; try omega)).trans (by go_simp)
    have r1 : w1.cell? ⟨w.heap.size, 1, none⟩ = some (.string ⟨#[]⟩) := (hb1.cell (p := ⟨w.heap.size, 1, none⟩) (by simp; try omega)).trans (by go_simp)
    have r2 : w1.cell? ⟨w.heap.size, 2, none⟩ = some (.string ⟨#[]⟩) := (hb1.cell (p := ⟨w.heap.size, 2, none⟩) (by simp; try omega)).trans (by go_simp)
    have r3 : w1.cell? ⟨w.heap.size, 3, none⟩ = some (.int .i64 0) := (hb1.cell (p := ⟨w.heap.size, 3, none⟩) (by simp; try omega)).trans (by go_simp)
    have r4 : w1.cell? ⟨w.heap.size, 4, none⟩ = some (.int .i64 0) := (hb1.cell (p := ⟨w.heap.size, 4, none⟩) (by simp; try omega)).trans (by go_simp)
    have q0 : w1.frozen? ⟨w.heap.size, 0, none⟩ = false := (hb1.frozen (p := ⟨w.heap.size, 0, none⟩) (by simp; try omega)).trans (by go_simp)
    have q1 : w1.frozen? ⟨w.heap.size, 1, none⟩ = false := (hb1.frozen (p := ⟨w.heap.size, 1, none⟩) (by simp; try omega)).trans (by go_simp)
    have q2 : w1.frozen? ⟨w.heap.size, 2, none⟩ = false := (hb1.frozen (p := ⟨w.heap.size, 2, none⟩) (by simp; try omega)).trans (by go_simp)
    have q3 : w1.frozen? ⟨w.heap.size, 3, none⟩ = false := (hb1.frozen (p := ⟨w.heap.size, 3, none⟩) (by simp; try omega)).trans (by go_simp)
    have q4 : w1.frozen? ⟨w.heap.size, 4, none⟩ = false := (hb1.frozen (p := ⟨w.heap.size, 4, none⟩) (by simp; try omega)).trans (by go_simp)
    have HB := Lib.hid (show Below w.heap.size w w1 from (below_alloc_l (Below.refl _ _)).trans (hb1.mono (by simp)))
    clear hb1 HC
    go_wp2_with fail
    refine (HT.out _).mono ?_
    rintro e w2 ⟨rfl, hb2⟩
    have c : ∀ {p : Addr} {v : Value}, w1.cell? p = some v → w2.cell? p = some v := fun e => (hb2.cell (World.block_lt_of_cell? _ _ e)).trans e
    have s0 := c r0
    have s1 := c r1
    have s2 := c r2
    have s3 := c r3
    have s4 := c r4
    have p0 := (hb2.frozen (World.block_lt_of_cell? _ _ r0)).trans q0
    have p1 := (hb2.frozen (World.block_lt_of_cell? _ _ r1)).trans q1
    have p2 := (hb2.frozen (World.block_lt_of_cell? _ _ r2)).trans q2
    have p3 := (hb2.frozen (World.block_lt_of_cell? _ _ r3)).trans q3
    have p4 := (hb2.frozen (World.block_lt_of_cell? _ _ r4)).trans q4
    have HB2 := Lib.hid (HB.out.trans (hb2.mono HB.out.size))
    clear hb2 HB r0 r1 r2 r3 r4 q0 q1 q2 q3 q4 HT c
    go_wp2_with fail
    have k5 := set5 (v0 := .int .i64 k) (v1 := .string nd) (v2 := .string sv) (v3 := .int .i64 a) (v4 := .int .i64 b) s0 s1 s2 s3 s4
    exact bodyPost_ret (nm_res2 _ 4 5 rfl _ (.int .i64 0) rfl rfl k5) rfl ⟨rfl, below_set5 HB2.out (Nat.le_refl _)⟩

set_option maxRecDepth 100000 in
set_option maxHeartbeats 2000000 in
theorem parse_any (s : ByteArray) (hs : s.size ≤ 4000000000) (w : World) (hE : EnvN w) :
    Calls Tryd.prog 17 #[.string s] w fun e w' => e = .returned (.tuple #[nmX (prsR s.data.toList), .int .i64 (erX (prsR s.data.toList))]) ∧ Below w.heap.size w w' := by
  have hEA : EnvN (w.alloc (.cells #[.int .i64 0, .string ⟨#[]⟩, .string ⟨#[]⟩, .int .i64 0, .int .i64 0] 23)) := hE.below (below_alloc_l (Below.refl _ _))
  have HC := Lib.hid (cutS_any s ⟨#[58]⟩ _ hEA hs)
  have HJ := Lib.hid (fun (W : World) (hW : Below (w.alloc (.cells #[.int .i64 0, .string ⟨#[]⟩, .string ⟨#[]⟩, .int .i64 0, .int .i64 0] 23)).heap.size (w.alloc (.cells #[.int .i64 0, .string ⟨#[]⟩, .string ⟨#[]⟩, .int .i64 0, .int .i64 0] 23)) W) => join_any (cutA s ⟨#[58]⟩) (cutB s ⟨#[58]⟩) (Nat.le_trans (cutB_size _ _) hs) W (hEA.below hW))
  have hq : ∃ (q : Option Nm) (f : Bool), prsR s.data.toList = q ∧ (Lib.cut s.data.toList (⟨#[58]⟩ : ByteArray).data.toList).2.2 = f ∧ ((f = false ∧ q = none) ∨ (f = true ∧ jnR (cutA s ⟨#[58]⟩).data.toList (cutB s ⟨#[58]⟩).data.toList = q)) := by
    refine ⟨_, _, rfl, rfl, ?_⟩
    rw [← prsP_eq]
    unfold prsP
    rw [cutA_data, cutB_data]
    cases hf : (Lib.cut s.data.toList (⟨#[58]⟩ : ByteArray).data.toList).2.2 with
    | false => exact .inl ⟨rfl, if_neg Bool.false_ne_true⟩
    | true => exact .inr ⟨rfl, (if_pos rfl).symm⟩
  obtain ⟨q, f, h1, h2, h3⟩ := hq
  change Hid (Calls _ _ _ _ fun e w' => e = .returned (.tuple #[.string (cutA s ⟨#[58]⟩), .string (cutB s ⟨#[58]⟩), .bool (Lib.cut s.data.toList (⟨#[58]⟩ : ByteArray).data.toList).2.2]) ∧ Below (w.alloc (.cells #[.int .i64 0, .string ⟨#[]⟩, .string ⟨#[]⟩, .int .i64 0, .int .i64 0] 23)).heap.size (w.alloc (.cells #[.int .i64 0, .string ⟨#[]⟩, .string ⟨#[]⟩, .int .i64 0, .int .i64 0] 23)) w') at HC
  rw [h1]
  rw [h2] at HC
  clear h1 h2 hE hEA hs
  rcases h3 with ⟨rfl, rfl⟩ | ⟨rfl, h3⟩
  · clear HJ
    generalize cutA s ⟨#[58]⟩ = s1 at HC
    generalize cutB s ⟨#[58]⟩ = s2 at HC
    go_enter Tryd.func17, Tryd.ntmps17
    go_wp2_with fail
    refine HC.out.mono ?_
    rintro e w1 ⟨rfl, hb1⟩
    have r0 : w1.cell? ⟨w.heap.size, 0, none⟩ = some (.int .i64 0) := (hb1.cell (p := ⟨w.heap.size, 0, none⟩) (by simp; try omega)).trans (by go_simp)
    have r1 : w1.cell? ⟨w.heap.size, 1, none⟩ = some (.string ⟨#[]⟩) := (hb1.cell (p := ⟨w.heap.size, 1, none⟩) (by simp; try omega)).trans (by go_simp)
    have r2 : w1.cell? ⟨w.heap.size, 2, none⟩ = some (.string ⟨#[]⟩) := (hb1.cell (p := ⟨w.heap.size, 2, none⟩) (by simp; try omega)).trans (by go_simp)
    have r3 : w1.cell? ⟨w.heap.size, 3, none⟩ = some (.int .i64 0) := (hb1.cell (p := ⟨w.heap.size, 3, none⟩) (by simp; try omega)).trans (by go_simp)
    have r4 : w1.cell? ⟨w.heap.size, 4, none⟩ = some (.int .i64 0) := (hb1.cell (p := ⟨w.heap.size, 4, none⟩) (by simp; try omega)).trans (by go_simp)
    have q0 : w1.frozen? ⟨w.heap.size, 0, none⟩ = false := (hb1.frozen (p := ⟨w.heap.size, 0, none⟩) (by simp; try omega)).trans (by go_simp)
    have q1 : w1.frozen? ⟨w.heap.size, 1, none⟩ = false := (hb1.frozen (p := ⟨w.heap.size, 1, none⟩) (by simp; try omega)).trans (by go_simp)
    have q2 : w1.frozen? ⟨w.heap.size, 2, none⟩ = false := (hb1.frozen (p := ⟨w.heap.size, 2, none⟩) (by simp; try omega)).trans (by go_simp)
    have q3 : w1.frozen? ⟨w.heap.size, 3, none⟩ = false := (hb1.frozen (p := ⟨w.heap.size, 3, none⟩) (by simp; try omega)).trans (by go_simp)
    have q4 : w1.frozen? ⟨w.heap.size, 4, none⟩ = false := (hb1.frozen (p := ⟨w.heap.size, 4, none⟩) (by simp; try omega)).trans (by go_simp)
    have HB := Lib.hid (show Below w.heap.size w w1 from (below_alloc_l (Below.refl _ _)).trans (hb1.mono (by simp)))
    clear hb1 HC
    go_wp2_with fail
    have k5 := set5 (v0 := .int .i64 0) (v1 := .string ⟨#[]⟩) (v2 := .string ⟨#[]⟩) (v3 := .int .i64 0) (v4 := .int .i64 0) r0 r1 r2 r3 r4
    exact bodyPost_ret (nm_res2 _ 2 3 rfl _ (.int .i64 60) rfl rfl k5) rfl ⟨rfl, below_set5 HB.out (Nat.le_refl _)⟩
  · rw [h3] at HJ
    clear h3
    generalize cutA s ⟨#[58]⟩ = sx at *
    generalize cutB s ⟨#[58]⟩ = sy at *
    obtain ⟨k, nd, sv, a, b, hv⟩ : ∃ k nd sv a b, nmX q = nmV k nd sv a b := ⟨_, _, _, _, _, rfl⟩
    obtain ⟨n, hn⟩ : ∃ n, erX q = n := ⟨_, rfl⟩
    rw [hv, hn] at HJ ⊢
    clear hv hn
    rw [show nmV k nd sv a b = .agg #[.int .i64 k, .string nd, .string sv, .int .i64 a, .int .i64 b] from rfl] at HJ
    go_enter Tryd.func17, Tryd.ntmps17
    go_wp2_with fail
    refine HC.out.mono ?_
    rintro e w1 ⟨rfl, hb1⟩
    have r0 : w1.cell? ⟨w.heap.size, 0, none⟩ = some (.int .i64 0) := (hb1.cell (p := ⟨w.heap.size, 0, none⟩) (by simp; try omega)).trans (by go_simp)
    have r1 : w1.cell? ⟨w.heap.size, 1, none⟩ = some (.string ⟨#[]⟩) := (hb1.cell (p := ⟨w.heap.size, 1, none⟩) (by simp; try omega)).trans (by go_simp)
    have r2 : w1.cell? ⟨w.heap.size, 2, none⟩ = some (.string ⟨#[]⟩) := (hb1.cell (p := ⟨w.heap.size, 2, none⟩) (by simp; try omega)).trans (by go_simp)
    have r3 : w1.cell? ⟨w.heap.size, 3, none⟩ = some (.int .i64 0) := (hb1.cell (p := ⟨w.heap.size, 3, none⟩) (by simp; try omega)).trans (by go_simp)
    have r4 : w1.cell? ⟨w.heap.size, 4, none⟩ = some (.int .i64 0) := (hb1.cell (p := ⟨w.heap.size, 4, none⟩) (by simp; try omega)).trans (by go_simp)
    have q0 : w1.frozen? ⟨w.heap.size, 0, none⟩ = false := (hb1.frozen (p := ⟨w.heap.size, 0, none⟩) (by simp; try omega)).trans (by go_simp)
    have q1 : w1.frozen? ⟨w.heap.size, 1, none⟩ = false := (hb1.frozen (p := ⟨w.heap.size, 1, none⟩) (by simp; try omega)).trans (by go_simp)
    have q2 : w1.frozen? ⟨w.heap.size, 2, none⟩ = false := (hb1.frozen (p := ⟨w.heap.size, 2, none⟩) (by simp; try omega)).trans (by go_simp)
    have q3 : w1.frozen? ⟨w.heap.size, 3, none⟩ = false := (hb1.frozen (p := ⟨w.heap.size, 3, none⟩) (by simp; try omega)).trans (by go_simp)
    have q4 : w1.frozen? ⟨w.heap.size, 4, none⟩ = false := (hb1.frozen (p := ⟨w.heap.size, 4, none⟩) (by simp; try omega)).trans (by go_simp)
    have HB := Lib.hid (show Below w.heap.size w w1 from (below_alloc_l (Below.refl _ _)).trans (hb1.mono (by simp)))
    have HJ1 := Lib.hid (HJ.out w1 hb1)
    clear hb1 HC HJ
    go_wp2_with fail
    refine HJ1.out.mono ?_
    rintro e w2 ⟨rfl, hb2⟩
    have c : ∀ {p : Addr} {v : Value}, w1.cell? p = some v → w2.cell? p = some v := fun e => (hb2.cell (World.block_lt_of_cell? _ _ e)).trans e
    have s0 := c r0
    have s1 := c r1
    have s2 := c r2
    have s3 := c r3
    have s4 := c r4
    have p0 := (hb2.frozen (World.block_lt_of_cell? _ _ r0)).trans q0
    have p1 := (hb2.frozen (World.block_lt_of_cell? _ _ r1)).trans q1
    have p2 := (hb2.frozen (World.block_lt_of_cell? _ _ r2)).trans q2
    have p3 := (hb2.frozen (World.block_lt_of_cell? _ _ r3)).trans q3
    have p4 := (hb2.frozen (World.block_lt_of_cell? _ _ r4)).trans q4
    have HB2 := Lib.hid (HB.out.trans (hb2.mono HB.out.size))
    clear hb2 HB r0 r1 r2 r3 r4 q0 q1 q2 q3 q4 c
    clear HJ1
    go_wp2_with fail
    have k5 := set5 (v0 := .int .i64 k) (v1 := .string nd) (v2 := .string sv) (v3 := .int .i64 a) (v4 := .int .i64 b) s0 s1 s2 s3 s4
    exact bodyPost_ret (nm_res2 _ 2 3 rfl _ (.int .i64 n) rfl rfl k5) rfl ⟨rfl, below_set5 HB2.out (Nat.le_refl _)⟩
end Go.Proofs.YtmpokhdljlnllaaDoor
