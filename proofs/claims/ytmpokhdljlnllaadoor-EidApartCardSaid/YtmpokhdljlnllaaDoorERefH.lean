/- The document's Halves, Print, Home of package eid. -/
import Derived.Test.YtmpokhdljlnllaaDoorERefR
import Derived.Test.YtmpokhdljlnllaaDoorEHome
set_option linter.unusedVariables false
set_option linter.unusedSimpArgs false
namespace Go.Proofs.YtmpokhdljlnllaaDoor
open Go.RowKit

theorem hv_cases {k : Int} {nd sv : ByteArray} {a b : Int} (hr : nmR (nmO k nd sv a b) = true) :
    (k = 0 ∧ hfS (nmO k nd sv a b) = ⟨#[100, 116, 110]⟩ ∧ rsS (nmO k nd sv a b) = ⟨#[110, 111, 110, 101]⟩) ∨
    (k = 1 ∧ nd.size ≤ 20 ∧ sv.size ≤ 20 ∧ hfS (nmO k nd sv a b) = ⟨#[100, 116, 110]⟩ ∧ rsS (nmO k nd sv a b) = ⟨#[47, 47]⟩ ++ nd ++ ⟨#[47]⟩ ++ sv) ∨
    (k = 2 ∧ 0 ≤ a ∧ a ≤ 999999999 ∧ 0 ≤ b ∧ b ≤ 999999999 ∧ hfS (nmO k nd sv a b) = ⟨#[105, 112, 110]⟩ ∧ rsS (nmO k nd sv a b) = ⟨(numL a.toNat).toArray⟩ ++ ⟨#[46]⟩ ++ ⟨(numL b.toNat).toArray⟩) := by
  unfold hfS rsS
  rw [if_pos hr, if_pos hr]
  rcases nmR_cases hr with h | ⟨h1, h2, h3, h4, h5, h6⟩ | ⟨A, B, h, hA, hA9, hB9⟩
  · have hk : k = 0 := congrArg Nm.k h
    rw [h]
    exact .inl ⟨hk, rfl, rfl⟩
  · have hk : k = 1 := h1
    subst hk
    have hn20 : nd.size ≤ 20 := by
      have := h3
      unfold partB nmO at this
      rw [Bool.and_eq_true, decide_eq_true_eq, size_len] at this
      exact this.2
    have hs20 : sv.size ≤ 20 := by
      have := h4
      unfold partB nmO at this
      rw [Bool.and_eq_true, decide_eq_true_eq, size_len] at this
      exact this.2
    refine .inr (.inl ⟨rfl, hn20, hs20, rfl, ?_⟩)
    apply ba_ext
    simp [hlv, nmO]
  · have hk : k = 2 := congrArg Nm.k h
    have ha : a = (A : Int) := congrArg Nm.a h
    have hb : b = (B : Int) := congrArg Nm.b h
    subst hk ha hb
    refine .inr (.inr ⟨rfl, by omega, by omega, by omega, by omega, rfl, ?_⟩)
    apply ba_ext
    simp [hlv, nmO]

set_option maxRecDepth 100000 in
set_option maxHeartbeats 4000000 in
theorem rhalves_any (k : Int) (nd sv : ByteArray) (a b : Int) (w : World) (hn : nd.size ≤ 4000000000) (hs : sv.size ≤ 4000000000) :
    Calls Tryd.prog 12 #[nmV k nd sv a b] w fun e w' => e = .returned (.tuple #[.string (hfS (nmO k nd sv a b)), .string (rsS (nmO k nd sv a b)), .int .i64 (erS (nmO k nd sv a b))]) ∧ Below w.heap.size w w' := by
  have HC := Lib.hid (fun W => rright_any k nd sv a b W hn hs)
  unfold erS
  cases hr : nmR (nmO k nd sv a b) with
  | false =>
    have h1 : hfS (nmO k nd sv a b) = ⟨#[]⟩ := by unfold hfS; rw [hr]; rfl
    have h2 : rsS (nmO k nd sv a b) = ⟨#[]⟩ := by unfold rsS; rw [hr]; rfl
    rw [hr] at HC
    rw [h1, h2]
    clear h1 h2 hr hn hs
    unfold nmV at *
    go_enter Tryd.func12, Tryd.ntmps12
    go_wp2_with fail
    refine (HC.out _).mono ?_
    rintro e w1 ⟨rfl, hb1⟩
    have HB := Lib.hid ((below_alloc_l (Below.refl _ _)).trans (hb1.mono (by simp)))
    clear hb1 HC
    go_wp2
    go_ret3
    exact ⟨rfl, HB.out⟩
  | true =>
    have hcs := hv_cases hr
    rw [hr] at HC
    clear hr hn hs
    rcases hcs with ⟨rfl, h1, h2⟩ | ⟨rfl, hn20, hs20, h1, h2⟩ | ⟨rfl, ha0, ha1, hb0, hb1, h1, h2⟩
    · rw [h1, h2]
      clear h1 h2
      unfold nmV at *
      go_enter Tryd.func12, Tryd.ntmps12
      go_wp2_with fail
      refine (HC.out _).mono ?_
      rintro e w1 ⟨rfl, hb1⟩
      have n0 : w1.cell? ⟨w.heap.size, 0, none⟩ = some (.int .i64 0) := (hb1.cell (p := ⟨w.heap.size, 0, none⟩) (by simp)).trans (by go_simp)
      have HB := Lib.hid ((below_alloc_l (Below.refl _ _)).trans (hb1.mono (by simp)))
      clear hb1 HC
      go_wp2
      go_ret3
      exact ⟨rfl, HB.out⟩
    · rw [h1, h2]
      clear h1 h2
      have ho1 : ¬ 9223372036854775807 < (⟨#[47, 47]⟩ : ByteArray).size + nd.size := by show ¬ 9223372036854775807 < 2 + nd.size; omega
      have hz1 : ((⟨#[47, 47]⟩ : ByteArray) ++ nd).size = 2 + nd.size := by rw [ByteArray.size_append]; rfl
      have hz2 : ((⟨#[47, 47]⟩ : ByteArray) ++ nd ++ ⟨#[47]⟩).size = 2 + nd.size + 1 := by rw [ByteArray.size_append, hz1]; rfl
      have s1 : ∀ W : World, (Op.stringOp .add (⟨#[47, 47]⟩ : ByteArray) nd).run Tryd.prog W = .ok (.string (⟨#[47, 47]⟩ ++ nd)) W := fun W => run_string_add_sum W _ _ (by show 2 + nd.size ≤ _; omega)
      have s2 : ∀ W : World, (Op.stringOp .add ((⟨#[47, 47]⟩ : ByteArray) ++ nd) ⟨#[47]⟩).run Tryd.prog W = .ok (.string (⟨#[47, 47]⟩ ++ nd ++ ⟨#[47]⟩)) W := fun W => run_string_add_sum W _ _ (by rw [hz1]; show 2 + nd.size + 1 ≤ _; omega)
      have s3 : ∀ W : World, (Op.stringOp .add ((⟨#[47, 47]⟩ : ByteArray) ++ nd ++ ⟨#[47]⟩) sv).run Tryd.prog W = .ok (.string (⟨#[47, 47]⟩ ++ nd ++ ⟨#[47]⟩ ++ sv)) W := fun W => run_string_add_sum W _ _ (by rw [hz2]; omega)
      generalize (⟨#[47, 47]⟩ : ByteArray) ++ nd ++ ⟨#[47]⟩ ++ sv = y3 at *
      generalize (⟨#[47, 47]⟩ : ByteArray) ++ nd ++ ⟨#[47]⟩ = y2 at *
      generalize (⟨#[47, 47]⟩ : ByteArray) ++ nd = y1 at *
      clear hz1 hz2 ho1
      unfold nmV at *
      go_enter Tryd.func12, Tryd.ntmps12
      go_wp2_with fail
      refine (HC.out _).mono ?_
      rintro e w1 ⟨rfl, hb1⟩
      have n0 : w1.cell? ⟨w.heap.size, 0, none⟩ = some (.int .i64 1) := (hb1.cell (p := ⟨w.heap.size, 0, none⟩) (by simp)).trans (by go_simp)
      have n1 : w1.cell? ⟨w.heap.size, 1, none⟩ = some (.string nd) := (hb1.cell (p := ⟨w.heap.size, 1, none⟩) (by simp)).trans (by go_simp)
      have n2 : w1.cell? ⟨w.heap.size, 2, none⟩ = some (.string sv) := (hb1.cell (p := ⟨w.heap.size, 2, none⟩) (by simp)).trans (by go_simp)
      have HB := Lib.hid ((below_alloc_l (Below.refl _ _)).trans (hb1.mono (by simp)))
      clear hb1 HC
      go_wp2_with fail
      go_quiet (fail)
      go_wp2
      go_ret3
      exact ⟨rfl, below_drewN HB.out _⟩
    · rw [h1, h2]
      clear h1 h2
      have HN1 := Lib.hid (fun W => rnum_any a W ha0 ha1)
      have HN2 := Lib.hid (fun W => rnum_any b W hb0 hb1)
      have l1 := numL_len (n := a.toNat) (by omega)
      have l2 := numL_len (n := b.toNat) (by omega)
      have z1 : (⟨(numL a.toNat).toArray⟩ : ByteArray).size ≤ 9 := by show (numL a.toNat).toArray.size ≤ 9; simpa using l1
      have z2 : (⟨(numL b.toNat).toArray⟩ : ByteArray).size ≤ 9 := by show (numL b.toNat).toArray.size ≤ 9; simpa using l2
      generalize (⟨(numL a.toNat).toArray⟩ : ByteArray) = y1 at *
      generalize (⟨(numL b.toNat).toArray⟩ : ByteArray) = y2 at *
      have hz1 : (y1 ++ (⟨#[46]⟩ : ByteArray)).size = y1.size + 1 := by rw [ByteArray.size_append]; rfl
      have s1 : ∀ W : World, (Op.stringOp .add y1 (⟨#[46]⟩ : ByteArray)).run Tryd.prog W = .ok (.string (y1 ++ ⟨#[46]⟩)) W := fun W => run_string_add_sum W _ _ (by show y1.size + 1 ≤ _; omega)
      have s2 : ∀ W : World, (Op.stringOp .add (y1 ++ (⟨#[46]⟩ : ByteArray)) y2).run Tryd.prog W = .ok (.string (y1 ++ ⟨#[46]⟩ ++ y2)) W := fun W => run_string_add_sum W _ _ (by rw [hz1]; omega)
      generalize y1 ++ (⟨#[46]⟩ : ByteArray) ++ y2 = y4 at *
      generalize y1 ++ (⟨#[46]⟩ : ByteArray) = y3 at *
      clear hz1 z1 z2 l1 l2 ha0 ha1 hb0 hb1
      unfold nmV at *
      go_enter Tryd.func12, Tryd.ntmps12
      go_wp2_with fail
      refine (HC.out _).mono ?_
      rintro e w1 ⟨rfl, hb1⟩
      have n0 : w1.cell? ⟨w.heap.size, 0, none⟩ = some (.int .i64 2) := (hb1.cell (p := ⟨w.heap.size, 0, none⟩) (by simp)).trans (by go_simp)
      have n3 : w1.cell? ⟨w.heap.size, 3, none⟩ = some (.int .i64 a) := (hb1.cell (p := ⟨w.heap.size, 3, none⟩) (by simp)).trans (by go_simp)
      have n4 : w1.cell? ⟨w.heap.size, 4, none⟩ = some (.int .i64 b) := (hb1.cell (p := ⟨w.heap.size, 4, none⟩) (by simp)).trans (by go_simp)
      have hz : w.heap.size < w1.heap.size := World.block_lt_of_cell? _ _ n0
      have HB := Lib.hid ((below_alloc_l (Below.refl _ _)).trans (hb1.mono (by simp)))
      have HN34 := Lib.hid (And.intro n3 n4)
      have hcum := Lib.hid (Below.refl w1.heap.size w1).drew
      clear hb1 HC
      go_wp2_with fail
      go_region_held3 (fun w' => w'.cell? ⟨w.heap.size, 3, none⟩ = some (.int .i64 a) ∧ w'.cell? ⟨w.heap.size, 4, none⟩ = some (.int .i64 b))
        (first
          | go_keep
          | (go_simp; done))
        (first
          | ((go_at_call 25; go_fit (HN1.out _); rintro e w2 ⟨rfl, hb⟩; have hcum2 := Lib.hid (hcum.out.trans (hb.mono hcum.out.size)); clear hb hcum; have hcum := hcum2; clear hcum2; have m3 := (hcum.out.cell (p := ⟨w.heap.size, 3, none⟩) hz).trans HN34.out.1; have m4 := (hcum.out.cell (p := ⟨w.heap.size, 4, none⟩) hz).trans HN34.out.2))
          | ((go_at_call 25; go_fit (HN2.out _); rintro e w2 ⟨rfl, hb⟩; have hcum2 := Lib.hid (hcum.out.trans (hb.mono hcum.out.size)); clear hb hcum; have hcum := hcum2; clear hcum2; have m3 := (hcum.out.cell (p := ⟨w.heap.size, 3, none⟩) hz).trans HN34.out.1; have m4 := (hcum.out.cell (p := ⟨w.heap.size, 4, none⟩) hz).trans HN34.out.2)))
      all_goals
        have HBB := Lib.hid (HB.out.trans (hcum.out.mono HB.out.size))
        clear hcum HB HN34 HN1 HN2
        go_wp2
        go_ret3
        exact ⟨rfl, HBB.out⟩

set_option maxRecDepth 100000 in
set_option maxHeartbeats 2000000 in
theorem rprint_any (k : Int) (nd sv : ByteArray) (a b : Int) (w : World) (hn : nd.size ≤ 4000000000) (hs : sv.size ≤ 4000000000) :
    Calls Tryd.prog 16 #[nmV k nd sv a b] w fun e w' => e = .returned (.tuple #[.string (txS (nmO k nd sv a b)), .int .i64 (erS (nmO k nd sv a b))]) ∧ Below w.heap.size w w' := by
  have HC := Lib.hid (fun W => rhalves_any k nd sv a b W hn hs)
  clear hn hs
  unfold txS
  unfold erS at *
  generalize nmO k nd sv a b = o at *
  have s1 := hf_size o
  have s2 := rs_size o
  generalize hfS o = s at *
  generalize rsS o = t at *
  have hov1 : ¬ 9223372036854775807 < s.size + 1 := by omega
  have hov2 : ¬ 9223372036854775807 < (s ++ ⟨#[58]⟩).size + t.size := by
    have : (s ++ ⟨#[58]⟩).size = s.size + 1 := by rw [ByteArray.size_append]; rfl
    omega
  clear s1 s2
  unfold nmV at *
  generalize nmR o = r at *
  cases r with
  | false =>
    simp only [Bool.false_eq_true, if_false] at HC ⊢
    go_enter Tryd.func16, Tryd.ntmps16
    go_wp2_with fail
    refine (HC.out _).mono ?_
    rintro e w1 ⟨rfl, hb1⟩
    have HB := Lib.hid ((below_alloc_l (Below.refl _ _)).trans (hb1.mono (by simp)))
    clear hb1 HC
    go_wp2
    go_ret2
    exact ⟨rfl, HB.out⟩
  | true =>
    simp only [if_true] at HC ⊢
    go_enter Tryd.func16, Tryd.ntmps16
    go_wp2_with fail
    refine (HC.out _).mono ?_
    rintro e w1 ⟨rfl, hb1⟩
    have HB := Lib.hid ((below_alloc_l (Below.refl _ _)).trans (hb1.mono (by simp)))
    clear hb1 HC
    go_wp2
    go_ret2
    exact ⟨rfl, HB.out⟩
end Go.Proofs.YtmpokhdljlnllaaDoor
