/- Contracts of Halves, laid, Print, owned, home, Home of package eid. -/
import Derived.Test.YtmpokhdljlnllaaDoorECat
set_option linter.unusedVariables false
set_option linter.unusedSimpArgs false
namespace Go.Proofs.YtmpokhdljlnllaaDoor
open Go.RowKit

/-- What a name that is not right tells. -/
def erS (o : Nm) : Int := if nmR o then 0 else 60

set_option maxRecDepth 100000 in
set_option maxHeartbeats 2000000 in
theorem halves_any (k : Int) (nd sv : ByteArray) (a b : Int) (w : World) (hE : EnvN w) (ha : I64 a) (hb : I64 b) :
    Calls Tryd.prog 11 #[nmV k nd sv a b] w fun e w' => e = .returned (.tuple #[.string (hfS (nmO k nd sv a b)), .string (rsS (nmO k nd sv a b)), .int .i64 (erS (nmO k nd sv a b))]) ∧ Below w.heap.size w w' := by
  have HC := Lib.hid (esplit_any k nd sv a b _ (hE.below (below_alloc_l (o := .cells #[.int .i64 k, .string nd, .string sv, .int .i64 a, .int .i64 b] 23) (Below.refl _ _))) ha hb)
  clear hE
  unfold erS
  generalize nmO k nd sv a b = o at *
  have hcs : nmR o = true ∨ (nmR o = false ∧ hfS o = ⟨#[]⟩ ∧ rsS o = ⟨#[]⟩) := by
    cases hr : nmR o
    · exact .inr ⟨rfl, by unfold hfS; rw [hr]; rfl, by unfold rsS; rw [hr]; rfl⟩
    · exact .inl rfl
  unfold nmV at *
  rcases hcs with hr | ⟨hr, h1, h2⟩
  · rw [hr] at HC ⊢
    generalize hfS o = s at *
    generalize rsS o = t at *
    go_enter Tryd.func11, Tryd.ntmps11
    go_wp2_with fail
    refine HC.out.mono ?_
    rintro e w1 ⟨rfl, hb1⟩
    have HB := Lib.hid ((below_alloc_l (Below.refl _ _)).trans (hb1.mono (by simp)))
    clear hb1 HC
    go_wp2_with fail
    refine (tellH_ok s t _).mono ?_
    rintro e w2 ⟨rfl, hb2⟩
    have HB2 := Lib.hid (HB.out.trans (hb2.mono HB.out.size))
    clear hb2 HB
    go_wp2_with fail
    go_quiet (fail)
    go_wp2
    go_ret3
    exact ⟨rfl, below_drewN (below_alloc_l HB2.out) _⟩
  · rw [hr, h1, h2] at HC ⊢
    go_enter Tryd.func11, Tryd.ntmps11
    go_wp2_with fail
    refine HC.out.mono ?_
    rintro e w1 ⟨rfl, hb1⟩
    have HB := Lib.hid ((below_alloc_l (Below.refl _ _)).trans (hb1.mono (by simp)))
    clear hb1 HC
    go_wp2_with fail
    refine (tellH_bad _ _ _).mono ?_
    rintro e w2 ⟨rfl, hb2⟩
    have HB2 := Lib.hid (HB.out.trans (hb2.mono HB.out.size))
    clear hb2 HB
    go_wp2_with fail
    go_quiet (fail)
    go_wp2
    go_ret3
    exact ⟨rfl, below_drewN (below_alloc_l HB2.out) _⟩

/-- A right name's text; of another one, nothing. -/
def txS (o : Nm) : ByteArray := if nmR o then hfS o ++ ⟨#[58]⟩ ++ rsS o else ⟨#[]⟩

theorem hf_size (o : Nm) : (hfS o).size ≤ 3 := by
  unfold hfS
  split
  · show (hlv o).1.toArray.size ≤ 3
    have := hlv_three o
    simp; omega
  · exact Nat.zero_le _
theorem rs_size (o : Nm) : (rsS o).size ≤ 100 := by
  unfold rsS
  split
  · rename_i hr
    show (hlv o).2.toArray.size ≤ 100
    rcases nmR_cases hr with rfl | ⟨h1, h2, h3, h4, h5, h6⟩ | ⟨A, B, rfl, hA, hA9, hB9⟩
    · decide
    · unfold partB at h3 h4
      rw [Bool.and_eq_true, decide_eq_true_eq] at h3 h4
      unfold hlv
      rw [if_pos h1]
      simp
      omega
    · have := numL_len hA9
      have := numL_len hB9
      unfold hlv
      rw [if_neg (show ¬ (2 : Int) = 1 by decide), if_pos rfl]
      simp
      omega
  · exact Nat.zero_le _

set_option maxRecDepth 100000 in
set_option maxHeartbeats 2000000 in
theorem laid_any (k : Int) (nd sv : ByteArray) (a b : Int) (w : World) (hE : EnvN w) (ha : I64 a) (hb : I64 b) :
    Calls Tryd.prog 31 #[nmV k nd sv a b] w fun e w' => e = .returned (.tuple #[.string (hfS (nmO k nd sv a b) ++ ⟨#[58]⟩ ++ rsS (nmO k nd sv a b)), .bool (nmR (nmO k nd sv a b))]) ∧ Below w.heap.size w w' := by
  have HC := Lib.hid (esplit_any k nd sv a b _ (hE.below (below_alloc_l (o := .cells #[.int .i64 k, .string nd, .string sv, .int .i64 a, .int .i64 b] 23) (Below.refl _ _))) ha hb)
  clear hE
  generalize nmO k nd sv a b = o at *
  have s1 := hf_size o
  have s2 := rs_size o
  generalize hfS o = s at *
  generalize rsS o = t at *
  generalize nmR o = r at *
  unfold nmV at *
  go_enter Tryd.func31, Tryd.ntmps31
  go_wp2_with fail
  refine HC.out.mono ?_
  rintro e w1 ⟨rfl, hb1⟩
  have HB := Lib.hid ((below_alloc_l (Below.refl _ _)).trans (hb1.mono (by simp)))
  have hov1 : ¬ 9223372036854775807 < s.size + 1 := by omega
  have hov2 : ¬ 9223372036854775807 < (s ++ ⟨#[58]⟩).size + t.size := by
    have : (s ++ ⟨#[58]⟩).size = s.size + 1 := by rw [ByteArray.size_append]; rfl
    omega
  clear hb1 HC s1 s2
  go_wp2
  go_ret2
  exact ⟨rfl, below_alloc_l HB.out⟩

set_option maxRecDepth 100000 in
set_option maxHeartbeats 2000000 in
theorem print_any (k : Int) (nd sv : ByteArray) (a b : Int) (w : World) (hE : EnvN w) (ha : I64 a) (hb : I64 b) :
    Calls Tryd.prog 15 #[nmV k nd sv a b] w fun e w' => e = .returned (.tuple #[.string (txS (nmO k nd sv a b)), .int .i64 (erS (nmO k nd sv a b))]) ∧ Below w.heap.size w w' := by
  have HC := Lib.hid (laid_any k nd sv a b _ (hE.below (below_alloc_l (o := .cells #[.int .i64 k, .string nd, .string sv, .int .i64 a, .int .i64 b] 23) (Below.refl _ _))) ha hb)
  clear hE
  unfold txS erS
  generalize nmO k nd sv a b = o at *
  generalize hfS o ++ ⟨#[58]⟩ ++ rsS o = s at *
  generalize nmR o = r at *
  unfold nmV at *
  have t1 : ∀ W : World, Calls Tryd.prog 30 #[.string s, .bool true] W fun e w' => e = .returned (.tuple #[.string s, .int .i64 0]) ∧ w' = W := fun W => tellS_any s true W
  have t2 : ∀ W : World, Calls Tryd.prog 30 #[.string s, .bool false] W fun e w' => e = .returned (.tuple #[.string ⟨#[]⟩, .int .i64 60]) ∧ w' = W := fun W => tellS_any s false W
  have HT1 := Lib.hid t1
  have HT2 := Lib.hid t2
  clear t1 t2
  cases r with
  | false =>
    go_enter Tryd.func15, Tryd.ntmps15
    go_wp2_with fail
    refine HC.out.mono ?_
    rintro e w1 ⟨rfl, hb1⟩
    have HB := Lib.hid ((below_alloc_l (Below.refl _ _)).trans (hb1.mono (by simp)))
    clear hb1 HC
    go_wp2_with fail
    refine (HT2.out _).mono ?_
    rintro e w2 ⟨rfl, rfl⟩
    go_wp2
    go_ret2
    exact ⟨rfl, HB.out⟩
  | true =>
    go_enter Tryd.func15, Tryd.ntmps15
    go_wp2_with fail
    refine HC.out.mono ?_
    rintro e w1 ⟨rfl, hb1⟩
    have HB := Lib.hid ((below_alloc_l (Below.refl _ _)).trans (hb1.mono (by simp)))
    clear hb1 HC
    go_wp2_with fail
    refine (HT1.out _).mono ?_
    rintro e w2 ⟨rfl, rfl⟩
    go_wp2
    go_ret2
    exact ⟨rfl, HB.out⟩
end Go.Proofs.YtmpokhdljlnllaaDoor
