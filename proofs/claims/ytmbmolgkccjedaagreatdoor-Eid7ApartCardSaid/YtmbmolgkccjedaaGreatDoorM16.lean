/- Contract of split of package eid, at every name. -/
import Derived.Test.YtmbmolgkccjedaaGreatDoorM9
import Derived.Lib.ItoaNum
import Derived.Lib.ItoaLen
import Derived.Lib.IndexMore
import Derived.Lib.AtoiAll
set_option linter.unusedVariables false
set_option linter.unusedSimpArgs false
namespace Go.Proofs.YtmbmolgkccjedaaGreatDoor
open Go.RowKit

theorem num_dec : ∀ (f n : Nat), n < 10 ^ f → 1 ≤ f → numF f n = Lib.decDigits n
  | 0, n, h, h1 => by omega
  | f + 1, n, h, _ => by
    rw [numF, Lib.decDigits]
    by_cases h10 : n < 10
    · rw [if_pos h10, dif_pos h10]
      rfl
    · rw [if_neg h10, dif_neg h10]
      have hf : 1 ≤ f := by
        cases f with
        | zero => simp at h; omega
        | succ f => omega
      rw [num_dec f (n / 10) (by rw [Nat.pow_succ] at h; omega) hf]
      rfl
theorem itoa_num {n : Int} (h0 : 0 ≤ n) (h1 : n ≤ 999999999) : Lib.itoa n = numL n.toNat := by
  unfold Lib.itoa numL
  rw [if_neg (by omega), num_dec 20 n.toNat (Nat.lt_of_le_of_lt (show n.toNat ≤ 999999999 by omega) (by decide)) (by decide)]

theorem ba_ext {s t : ByteArray} (h : s.data.toList = t.data.toList) : s = t := by
  apply ByteArray.ext
  exact Array.toList_inj.1 h
theorem ba_app (s t : ByteArray) : (s ++ t).data.toList = s.data.toList ++ t.data.toList := by simp
theorem catN : catP psN = ⟨#[110, 111, 110, 101]⟩ := by
  apply ba_ext
  simp [catP, psN]
theorem catD (nd sv : ByteArray) : (catP (psD nd sv)).data.toList = [47, 47] ++ (nd.data.toList ++ ([47] ++ sv.data.toList)) := by
  simp [catP, psD, ba_app]
theorem catIE (a b : Int) : (catP (psI a b)).data.toList = Lib.itoa a ++ ([46] ++ Lib.itoa b) := by
  simp [catP, psI, ba_app]

/-- The halves of a right name; of another one, nothing. -/
def hfS (o : Nm) : ByteArray := if nmR o then ⟨(hlv o).1.toArray⟩ else ⟨#[]⟩
def rsS (o : Nm) : ByteArray := if nmR o then ⟨(hlv o).2.toArray⟩ else ⟨#[]⟩

theorem esplit_any (k : Int) (nd sv : ByteArray) (a b : Int) (w : World) (hE : EnvN w) (ha : I64 a) (hb : I64 b) :
    Calls Tryz.prog 134 #[nmV k nd sv a b] w fun e w' => e = .returned (.tuple #[.agg #[.string (hfS (nmO k nd sv a b)), .string (rsS (nmO k nd sv a b))], .bool (nmR (nmO k nd sv a b))]) ∧ Below w.heap.size w w' := by
  cases hr : nmR (nmO k nd sv a b) with
  | false =>
    have := esplit_no k nd sv a b w hE ha hb hr
    unfold hfS rsS
    simp only [hr, Bool.false_eq_true, if_false]
    exact this
  | true =>
    rcases nmR_cases hr with h | ⟨h1, h2, h3, h4, h5, h6⟩ | ⟨A, B, h, hA, hA9, hB9⟩
    · unfold nmO nm0 at h
      simp only [Nm.mk.injEq] at h
      obtain ⟨rfl, h2, h3, rfl, rfl⟩ := h
      have e1 : hfS (nmO 0 nd sv 0 0) = ⟨#[100, 116, 110]⟩ := by unfold hfS; rw [hr]; rfl
      have e2 : rsS (nmO 0 nd sv 0 0) = catP psN := by unfold rsS; rw [hr, catN]; rfl
      rw [e1, e2]
      exact esplit_go 0 nd sv 0 0 _ _ _ _ 0 rfl (enterFE Tryz.func58 (by kernel_rfl) rfl) psN (by decide) (by intro x hx; simp [psN] at hx; subst hx; decide) w (fun W _ => noneParts_any 0 nd sv 0 0 W) hE ha hb hr
    · have hk : k = 1 := h1
      have hA : a = 0 := h5
      have hB : b = 0 := h6
      subst hk hA hB
      have hn20 : nd.size ≤ 20 := by
        have := h3
        unfold partB nmO at this
        rw [Bool.and_eq_true, decide_eq_true_eq, size_len] at this
        exact this.2
      have hs20 : sv.size ≤ 20 := by
        have := h4
        unfold partB nmO at this
        rw [Bool.and_eq_true, decide_eq_true_eq, size_len] at this
        exact this.2
      have e1 : hfS (nmO 1 nd sv 0 0) = ⟨#[100, 116, 110]⟩ := by unfold hfS; rw [hr]; rfl
      have e2 : rsS (nmO 1 nd sv 0 0) = catP (psD nd sv) := by
        unfold rsS; rw [hr]
        apply ba_ext
        rw [catD]
        rfl
      rw [e1, e2]
      exact esplit_go 1 nd sv 0 0 _ _ _ _ 1 rfl (enterFE Tryz.func61 (by kernel_rfl) rfl) (psD nd sv) (by show 4 ≤ 1000; decide) (by
        intro x hx
        simp only [psD, List.mem_cons, List.not_mem_nil, or_false] at hx
        rcases hx with rfl | rfl | rfl | rfl
        · show (2 : Nat) ≤ 100; decide
        · show nd.size ≤ 100; omega
        · show (1 : Nat) ≤ 100; decide
        · show sv.size ≤ 100; omega) w (fun W _ => dtnParts_any 1 nd sv 0 0 W) hE ha hb hr
    · unfold nmO at h
      simp only [Nm.mk.injEq] at h
      obtain ⟨rfl, h2, h3, rfl, rfl⟩ := h
      have i1 : Lib.itoa (A : Int) = numL A := itoa_num (by omega) (by omega)
      have i2 : Lib.itoa (B : Int) = numL B := itoa_num (by omega) (by omega)
      have e1 : hfS (nmO 2 nd sv A B) = ⟨#[105, 112, 110]⟩ := by unfold hfS; rw [hr]; rfl
      have e2 : rsS (nmO 2 nd sv A B) = catP (psI A B) := by
        unfold rsS; rw [hr]
        apply ba_ext
        rw [catIE, i1, i2]
        rfl
      rw [e1, e2]
      exact esplit_go 2 nd sv A B _ _ _ _ 2 rfl (enterFE Tryz.func64 (by kernel_rfl) rfl) (psI A B) (by show 3 ≤ 1000; decide) (by
        intro x hx
        simp only [psI, List.mem_cons, List.not_mem_nil, or_false] at hx
        rcases hx with rfl | rfl | rfl
        · show (⟨(Lib.itoa (A : Int)).toArray⟩ : ByteArray).size ≤ 100
          have := numL_len hA9
          rw [i1]
          show (numL A).toArray.size ≤ 100
          simp; omega
        · show (1 : Nat) ≤ 100; decide
        · show (⟨(Lib.itoa (B : Int)).toArray⟩ : ByteArray).size ≤ 100
          have := numL_len hB9
          rw [i2]
          show (numL B).toArray.size ≤ 100
          simp; omega) w (fun W hW => ipnParts_any 2 nd sv A B W (hE.below hW) ha.1 ha.2 hb.1 hb.2) hE ha hb hr
end Go.Proofs.YtmbmolgkccjedaaGreatDoor

/- Contracts of Halves, laid, Print, owned, home, Home of package eid. -/
set_option linter.unusedVariables false
set_option linter.unusedSimpArgs false
namespace Go.Proofs.YtmbmolgkccjedaaGreatDoor
open Go.RowKit

/-- What a name that is not right tells. -/
def erS (o : Nm) : Int := if nmR o then 0 else 60

set_option maxRecDepth 100000 in
set_option maxHeartbeats 2000000 in
theorem halves_any (k : Int) (nd sv : ByteArray) (a b : Int) (w : World) (hE : EnvN w) (ha : I64 a) (hb : I64 b) :
    Calls Tryz.prog 107 #[nmV k nd sv a b] w fun e w' => e = .returned (.tuple #[.string (hfS (nmO k nd sv a b)), .string (rsS (nmO k nd sv a b)), .int .i64 (erS (nmO k nd sv a b))]) ∧ Below w.heap.size w w' := by
  have HC := Lib.hid (esplit_any k nd sv a b _ (hE.below (below_alloc_l (o := .cells #[.int .i64 k, .string nd, .string sv, .int .i64 a, .int .i64 b] 23) (Below.refl _ _))) ha hb)
  clear hE
  unfold erS
  generalize nmO k nd sv a b = o at *
  have hcs : nmR o = true ∨ (nmR o = false ∧ hfS o = ⟨#[]⟩ ∧ rsS o = ⟨#[]⟩) := by
    cases hr : nmR o
    · exact .inr ⟨rfl, by unfold hfS; rw [hr]; rfl, by unfold rsS; rw [hr]; rfl⟩
    · exact .inl rfl
  unfold nmV at *
  rcases hcs with hr | ⟨hr, h1, h2⟩
  · rw [hr] at HC ⊢
    generalize hfS o = s at *
    generalize rsS o = t at *
    go_enter Tryz.func107, Tryz.ntmps107
    go_wp2_with fail
    refine HC.out.mono ?_
    rintro e w1 ⟨rfl, hb1⟩
    have HB := Lib.hid ((below_alloc_l (Below.refl _ _)).trans (hb1.mono (by simp)))
    clear hb1 HC
    go_wp2_with fail
    refine (tellH_ok s t _).mono ?_
    rintro e w2 ⟨rfl, hb2⟩
    have HB2 := Lib.hid (HB.out.trans (hb2.mono HB.out.size))
    clear hb2 HB
    go_wp2_with fail
    go_quiet (fail)
    go_wp2
    go_ret3
    exact ⟨rfl, below_drewN (below_alloc_l HB2.out) _⟩
  · rw [hr, h1, h2] at HC ⊢
    go_enter Tryz.func107, Tryz.ntmps107
    go_wp2_with fail
    refine HC.out.mono ?_
    rintro e w1 ⟨rfl, hb1⟩
    have HB := Lib.hid ((below_alloc_l (Below.refl _ _)).trans (hb1.mono (by simp)))
    clear hb1 HC
    go_wp2_with fail
    refine (tellH_bad _ _ _).mono ?_
    rintro e w2 ⟨rfl, hb2⟩
    have HB2 := Lib.hid (HB.out.trans (hb2.mono HB.out.size))
    clear hb2 HB
    go_wp2_with fail
    go_quiet (fail)
    go_wp2
    go_ret3
    exact ⟨rfl, below_drewN (below_alloc_l HB2.out) _⟩

/-- A right name's text; of another one, nothing. -/
def txS (o : Nm) : ByteArray := if nmR o then hfS o ++ ⟨#[58]⟩ ++ rsS o else ⟨#[]⟩

theorem hf_size (o : Nm) : (hfS o).size ≤ 3 := by
  unfold hfS
  split
  · show (hlv o).1.toArray.size ≤ 3
    have := hlv_three o
    simp; omega
  · exact Nat.zero_le _
theorem rs_size (o : Nm) : (rsS o).size ≤ 100 := by
  unfold rsS
  split
  · rename_i hr
    show (hlv o).2.toArray.size ≤ 100
    rcases nmR_cases hr with rfl | ⟨h1, h2, h3, h4, h5, h6⟩ | ⟨A, B, rfl, hA, hA9, hB9⟩
    · decide
    · unfold partB at h3 h4
      rw [Bool.and_eq_true, decide_eq_true_eq] at h3 h4
      unfold hlv
      rw [if_pos h1]
      simp
      omega
    · have := numL_len hA9
      have := numL_len hB9
      unfold hlv
      rw [if_neg (show ¬ (2 : Int) = 1 by decide), if_pos rfl]
      simp
      omega
  · exact Nat.zero_le _

end Go.Proofs.YtmbmolgkccjedaaGreatDoor

/- Contracts of owned, home, Home of package eid. -/
set_option linter.unusedVariables false
set_option linter.unusedSimpArgs false
namespace Go.Proofs.YtmbmolgkccjedaaGreatDoor
open Go.RowKit

theorem set5 {W : World} {R : Nat} {x0 x1 x2 x3 x4 v0 v1 v2 v3 v4 : Value} (c0 : W.cell? ⟨R, 0, none⟩ = some x0) (c1 : W.cell? ⟨R, 1, none⟩ = some x1) (c2 : W.cell? ⟨R, 2, none⟩ = some x2) (c3 : W.cell? ⟨R, 3, none⟩ = some x3) (c4 : W.cell? ⟨R, 4, none⟩ = some x4) :
    (((((W.setCell ⟨R, 0, none⟩ v0).setCell ⟨R, 1, none⟩ v1).setCell ⟨R, 2, none⟩ v2).setCell ⟨R, 3, none⟩ v3).setCell ⟨R, 4, none⟩ v4).cell? ⟨R, 0, none⟩ = some v0 ∧ (((((W.setCell ⟨R, 0, none⟩ v0).setCell ⟨R, 1, none⟩ v1).setCell ⟨R, 2, none⟩ v2).setCell ⟨R, 3, none⟩ v3).setCell ⟨R, 4, none⟩ v4).cell? ⟨R, 1, none⟩ = some v1 ∧ (((((W.setCell ⟨R, 0, none⟩ v0).setCell ⟨R, 1, none⟩ v1).setCell ⟨R, 2, none⟩ v2).setCell ⟨R, 3, none⟩ v3).setCell ⟨R, 4, none⟩ v4).cell? ⟨R, 2, none⟩ = some v2 ∧ (((((W.setCell ⟨R, 0, none⟩ v0).setCell ⟨R, 1, none⟩ v1).setCell ⟨R, 2, none⟩ v2).setCell ⟨R, 3, none⟩ v3).setCell ⟨R, 4, none⟩ v4).cell? ⟨R, 3, none⟩ = some v3 ∧ (((((W.setCell ⟨R, 0, none⟩ v0).setCell ⟨R, 1, none⟩ v1).setCell ⟨R, 2, none⟩ v2).setCell ⟨R, 3, none⟩ v3).setCell ⟨R, 4, none⟩ v4).cell? ⟨R, 4, none⟩ = some v4 := by
  refine ⟨?_, ?_, ?_, ?_, ?_⟩ <;> go_simp
theorem below_set5 {w W : World} {R : Nat} {v0 v1 v2 v3 v4 : Value} (h : Below w.heap.size w W) (hR : w.heap.size ≤ R) : Below w.heap.size w (((((W.setCell ⟨R, 0, none⟩ v0).setCell ⟨R, 1, none⟩ v1).setCell ⟨R, 2, none⟩ v2).setCell ⟨R, 3, none⟩ v3).setCell ⟨R, 4, none⟩ v4) :=
  below_set_l (below_set_l (below_set_l (below_set_l (below_set_l h hR) hR) hR) hR) hR
theorem nm_res1 {W : World} {R : Nat} {k : Int} {nd sv : ByteArray} {a b : Int} (fn : Func) (hres : fn.results = #[.cell 2 23]) (tmps : Array Value) (h2 : tmps[2]?.getD undef = .pointer (some ⟨R, 0, none⟩))
    (c : W.cell? ⟨R, 0, none⟩ = some (.int .i64 k) ∧ W.cell? ⟨R, 1, none⟩ = some (.string nd) ∧ W.cell? ⟨R, 2, none⟩ = some (.string sv) ∧ W.cell? ⟨R, 3, none⟩ = some (.int .i64 a) ∧ W.cell? ⟨R, 4, none⟩ = some (.int .i64 b)) :
    (results fn tmps).run Tryz.prog W = .ok (nmV k nd sv a b) W := by
  obtain ⟨c0, c1, c2, c3, c4⟩ := c
  unfold nmV
  simp [results, hres, go_sem, h2, c0, c1, c2, c3, c4]
theorem nm_res2 {W : World} {R : Nat} {k : Int} {nd sv : ByteArray} {a b : Int} (fn : Func) (j s : Nat) (hres : fn.results = #[.cell j 23, .tmp s]) (tmps : Array Value) (v : Value) (h2 : tmps[j]?.getD undef = .pointer (some ⟨R, 0, none⟩)) (h3 : tmps[s]?.getD undef = v)
    (c : W.cell? ⟨R, 0, none⟩ = some (.int .i64 k) ∧ W.cell? ⟨R, 1, none⟩ = some (.string nd) ∧ W.cell? ⟨R, 2, none⟩ = some (.string sv) ∧ W.cell? ⟨R, 3, none⟩ = some (.int .i64 a) ∧ W.cell? ⟨R, 4, none⟩ = some (.int .i64 b)) :
    (results fn tmps).run Tryz.prog W = .ok (.tuple #[nmV k nd sv a b, v]) W := by
  obtain ⟨c0, c1, c2, c3, c4⟩ := c
  unfold nmV
  simp [results, hres, go_sem, h2, h3, c0, c1, c2, c3, c4]

set_option maxRecDepth 100000 in
set_option maxHeartbeats 4000000 in
theorem owned_any (k : Int) (nd sv : ByteArray) (a b : Int) (w : World) (hn : nd.size ≤ 4000000000) (hs : sv.size ≤ 4000000000) :
    Calls Tryz.prog 152 #[nmV k nd sv a b] w fun e w' => e = .returned (nmV k nd sv a b) ∧ Below w.heap.size w w' := by
  have HC1 := Lib.hid (fun W => clone_anyE nd W hn)
  have HC2 := Lib.hid (fun W => clone_anyE sv W hs)
  clear hn hs
  rw [show nmV k nd sv a b = .agg #[.int .i64 k, .string nd, .string sv, .int .i64 a, .int .i64 b] from rfl]
  go_enter Tryz.func152, Tryz.ntmps152
  go_wp2_with fail
  obtain ⟨w0, hw0⟩ : ∃ w0, w0 = (w.alloc (.cells #[.int .i64 k, .string nd, .string sv, .int .i64 a, .int .i64 b] 23)).alloc (.cells #[.int .i64 0, .string ⟨#[]⟩, .string ⟨#[]⟩, .int .i64 0, .int .i64 0] 23) := ⟨_, rfl⟩
  have HB0 := Lib.hid (show Below w.heap.size w w0 by rw [hw0]; exact below_alloc_l (below_alloc_l (Below.refl _ _)))
  have hz0 : w0.heap.size = w.heap.size + 1 + 1 := by rw [hw0]; simp
  have n0 : w0.cell? ⟨w.heap.size, 0, none⟩ = some (.int .i64 k) := by rw [hw0]; go_simp
  have n1 : w0.cell? ⟨w.heap.size, 1, none⟩ = some (.string nd) := by rw [hw0]; go_simp
  have n2 : w0.cell? ⟨w.heap.size, 2, none⟩ = some (.string sv) := by rw [hw0]; go_simp
  have n3 : w0.cell? ⟨w.heap.size, 3, none⟩ = some (.int .i64 a) := by rw [hw0]; go_simp
  have n4 : w0.cell? ⟨w.heap.size, 4, none⟩ = some (.int .i64 b) := by rw [hw0]; go_simp
  have r0 : w0.cell? ⟨w.heap.size + 1, 0, none⟩ = some (.int .i64 0) := by rw [hw0]; go_simp
  have r1 : w0.cell? ⟨w.heap.size + 1, 1, none⟩ = some (.string ⟨#[]⟩) := by rw [hw0]; go_simp
  have r2 : w0.cell? ⟨w.heap.size + 1, 2, none⟩ = some (.string ⟨#[]⟩) := by rw [hw0]; go_simp
  have r3 : w0.cell? ⟨w.heap.size + 1, 3, none⟩ = some (.int .i64 0) := by rw [hw0]; go_simp
  have r4 : w0.cell? ⟨w.heap.size + 1, 4, none⟩ = some (.int .i64 0) := by rw [hw0]; go_simp
  have f0 : w0.frozen? ⟨w.heap.size, 0, none⟩ = false := by rw [hw0]; go_simp
  have f1 : w0.frozen? ⟨w.heap.size, 1, none⟩ = false := by rw [hw0]; go_simp
  have f2 : w0.frozen? ⟨w.heap.size, 2, none⟩ = false := by rw [hw0]; go_simp
  have f3 : w0.frozen? ⟨w.heap.size, 3, none⟩ = false := by rw [hw0]; go_simp
  have f4 : w0.frozen? ⟨w.heap.size, 4, none⟩ = false := by rw [hw0]; go_simp
  have q0 : w0.frozen? ⟨w.heap.size + 1, 0, none⟩ = false := by rw [hw0]; go_simp
  have q1 : w0.frozen? ⟨w.heap.size + 1, 1, none⟩ = false := by rw [hw0]; go_simp
  have q2 : w0.frozen? ⟨w.heap.size + 1, 2, none⟩ = false := by rw [hw0]; go_simp
  have q3 : w0.frozen? ⟨w.heap.size + 1, 3, none⟩ = false := by rw [hw0]; go_simp
  have q4 : w0.frozen? ⟨w.heap.size + 1, 4, none⟩ = false := by rw [hw0]; go_simp
  rw [← hw0]
  clear hw0
  have HN := Lib.hid (And.intro n0 (And.intro n3 n4))
  have HN12 := Lib.hid (And.intro n1 n2)
  have HR := Lib.hid (And.intro r0 (And.intro r1 (And.intro r2 (And.intro r3 r4))))
  have HF := Lib.hid (And.intro f1 f2)
  have HQ := Lib.hid (And.intro q0 (And.intro q1 (And.intro q2 (And.intro q3 q4))))
  have hcum := Lib.hid (Below.refl w0.heap.size w0).drew
  clear n0 n3 n4 r0 r1 r2 r3 r4 f0 f1 f2 f3 f4 q0 q1 q2 q3 q4
  go_region_held3 (fun w' => w'.cell? ⟨w.heap.size, 1, none⟩ = some (.string nd) ∧ w'.cell? ⟨w.heap.size, 2, none⟩ = some (.string sv))
    (first
      | go_keep
      | (go_simp; done))
    (first
      | ((go_at_call 175; go_fit (HC1.out _); rintro e w1 ⟨rfl, hb1⟩; have HB1 := Lib.hid hb1; clear hb1; have hcum2 := Lib.hid (hcum.out.trans (HB1.out.mono hcum.out.size)); clear hcum; have hcum := hcum2; clear hcum2; have m1 := (hcum.out.cell (p := ⟨w.heap.size, 1, none⟩) (by simp; omega)).trans HN12.out.1; have m2 := (hcum.out.cell (p := ⟨w.heap.size, 2, none⟩) (by simp; omega)).trans HN12.out.2; have f1 := (hcum.out.frozen (p := ⟨w.heap.size, 1, none⟩) (by simp; omega)).trans HF.out.1; have f2 := (hcum.out.frozen (p := ⟨w.heap.size, 2, none⟩) (by simp; omega)).trans HF.out.2))
      | ((go_at_call 175; go_fit (HC2.out _); rintro e w1 ⟨rfl, hb1⟩; have HB1 := Lib.hid hb1; clear hb1; have hcum2 := Lib.hid (hcum.out.trans (HB1.out.mono hcum.out.size)); clear hcum; have hcum := hcum2; clear hcum2; have m1 := (hcum.out.cell (p := ⟨w.heap.size, 1, none⟩) (by simp; omega)).trans HN12.out.1; have m2 := (hcum.out.cell (p := ⟨w.heap.size, 2, none⟩) (by simp; omega)).trans HN12.out.2; have f1 := (hcum.out.frozen (p := ⟨w.heap.size, 1, none⟩) (by simp; omega)).trans HF.out.1; have f2 := (hcum.out.frozen (p := ⟨w.heap.size, 2, none⟩) (by simp; omega)).trans HF.out.2)))
  all_goals
    have hz1 : w0.heap.size ≤ w1.heap.size := hcum.out.size
    have c : ∀ {p : Addr} {v : Value}, w0.cell? p = some v → w1.cell? p = some v := fun e => (hcum.out.cell (World.block_lt_of_cell? _ _ e)).trans e
    have n0 := c HN.out.1
    have n3 := c HN.out.2.1
    have n4 := c HN.out.2.2
    have r0 := c HR.out.1
    have r1 := c HR.out.2.1
    have r2 := c HR.out.2.2.1
    have r3 := c HR.out.2.2.2.1
    have r4 := c HR.out.2.2.2.2
    have q0 := (hcum.out.frozen (World.block_lt_of_cell? _ _ HR.out.1)).trans HQ.out.1
    have q1 := (hcum.out.frozen (World.block_lt_of_cell? _ _ HR.out.2.1)).trans HQ.out.2.1
    have q2 := (hcum.out.frozen (World.block_lt_of_cell? _ _ HR.out.2.2.1)).trans HQ.out.2.2.1
    have q3 := (hcum.out.frozen (World.block_lt_of_cell? _ _ HR.out.2.2.2.1)).trans HQ.out.2.2.2.1
    have q4 := (hcum.out.frozen (World.block_lt_of_cell? _ _ HR.out.2.2.2.2)).trans HQ.out.2.2.2.2
    have HBW := Lib.hid (HB0.out.trans (hcum.out.mono HB0.out.size))
    clear c hcum HN HR HF HQ HB0 HB1 HN12 HC1 HC2 n1 n2
    go_wp2_with fail
    have k5 := set5 (x0 := .int .i64 0) (x1 := .string ⟨#[]⟩) (x2 := .string ⟨#[]⟩) (x3 := .int .i64 0) (x4 := .int .i64 0) (v0 := .int .i64 k) (v1 := .string nd) (v2 := .string sv) (v3 := .int .i64 a) (v4 := .int .i64 b) (W := (w1.setCell ⟨w.heap.size, 1, none⟩ (.string nd)).setCell ⟨w.heap.size, 2, none⟩ (.string sv)) (R := w.heap.size + 1) (by go_simp) (by go_simp) (by go_simp) (by go_simp) (by go_simp)
    exact bodyPost_ret (nm_res1 _ rfl _ rfl k5) rfl ⟨rfl, below_set5 (below_set_l (below_set_l HBW.out (Nat.le_refl _)) (Nat.le_refl _)) (Nat.le_succ _)⟩

/-- The name of a name's node, or nothing. -/
def homV (k : Int) (nd sv : ByteArray) (a b : Int) : Value := if nmR (nmO k nd sv a b) then nmV k nd ⟨#[]⟩ a 0 else nmV 0 ⟨#[]⟩ ⟨#[]⟩ 0 0

end Go.Proofs.YtmbmolgkccjedaaGreatDoor

/- Contracts of a parser's upTo and of what takes the parts of each scheme, of package eid. -/
set_option linter.unusedVariables false
set_option linter.unusedSimpArgs false
namespace Go.Proofs.YtmbmolgkccjedaaGreatDoor
open Go.RowKit

abbrev FrE (R : Nat) (W W' : World) : Prop := W.grownBy W' (some R)
theorem FrE.below {R : Nat} {W W' : World} (hb : Below W.heap.size W W') : FrE R W W' := ⟨hb.os, hb.tape, hb.output, hb.size, fun k hk _ => hb.block k hk⟩
theorem FrE.set (R o : Nat) (W : World) (v : Value) : FrE R W (W.setCell ⟨R, o, none⟩ v) := ⟨rfl, rfl, rfl, by simp, fun k _ hk => Below.heap_setCell _ _ _ k (fun e => hk (by rw [e]))⟩
theorem FrE.trans {R : Nat} {A B C : World} (h : FrE R A B) (k : FrE R B C) : FrE R A C :=
  ⟨k.os.trans h.os, k.tape.trans h.tape, k.output.trans h.output, Nat.le_trans h.size k.size, fun i hi hne => (k.block i (Nat.lt_of_lt_of_le hi h.size) hne).trans (h.block i hi hne)⟩
theorem FrE.refl (R : Nat) (W : World) : FrE R W W := FrE.below (Below.refl _ _)
theorem FrE.toBelow {R : Nat} {W W' : World} (h : FrE R W W') (hR : R ≤ W.heap.size) : Below R W W' := ⟨h.os, h.tape, h.output, h.size, fun k hk => by
  by_cases hl : k < W.heap.size
  · exact h.block k hl (by intro e; cases e; omega)
  · omega⟩

theorem cell_heapE {W W' : World} {p : Addr} (e : W'.heap[p.block]? = W.heap[p.block]?) : W'.cell? p = W.cell? p := by unfold World.cell?; rw [e]
theorem frozen_heapE {W W' : World} {p : Addr} (e : W'.heap[p.block]? = W.heap[p.block]?) : W'.frozen? p = W.frozen? p := by unfold World.frozen?; rw [e]
theorem frCellE {R : Nat} {W W' : World} {p : Addr} (h : FrE R W W') (hne : p.block ≠ R) (hl : p.block < W.heap.size) : W'.cell? p = W.cell? p := cell_heapE (h.block _ hl (fun e => hne (by cases e; rfl)))
theorem frFrozenE {R : Nat} {W W' : World} {p : Addr} (h : FrE R W W') (hne : p.block ≠ R) (hl : p.block < W.heap.size) : W'.frozen? p = W.frozen? p := frozen_heapE (h.block _ hl (fun e => hne (by cases e; rfl)))
/-- A store into a block that is new. -/
theorem frNewE {R : Nat} {w A : World} (h : FrE R w A) {b : Nat} (hb : w.heap.size ≤ b) (o : Nat) (v : Value) : FrE R w (A.setCell ⟨b, o, none⟩ v) :=
  ⟨h.os, h.tape, h.output, by have := h.size; simpa using this, fun k hk hne => (Below.heap_setCell _ _ _ k (by show k ≠ b; omega)).trans (h.block k hk hne)⟩
theorem frAllocE {R : Nat} {w A : World} (h : FrE R w A) (o : Obj) : FrE R w (A.alloc o) := h.trans (FrE.below ((Below.refl _ _).alloc (Nat.le_refl _) _))

/-- A parser lies at R: its name, and what is left. -/
structure Par (R : Nat) (k : Int) (nd sv : ByteArray) (a b : Int) (l : ByteArray) (W : World) : Prop where
  c0 : W.cell? ⟨R, 0, none⟩ = some (.int .i64 k)
  c1 : W.cell? ⟨R, 1, none⟩ = some (.string nd)
  c2 : W.cell? ⟨R, 2, none⟩ = some (.string sv)
  c3 : W.cell? ⟨R, 3, none⟩ = some (.int .i64 a)
  c4 : W.cell? ⟨R, 4, none⟩ = some (.int .i64 b)
  c5 : W.cell? ⟨R, 5, none⟩ = some (.string l)
  f0 : W.frozen? ⟨R, 0, none⟩ = false
  f1 : W.frozen? ⟨R, 1, none⟩ = false
  f2 : W.frozen? ⟨R, 2, none⟩ = false
  f3 : W.frozen? ⟨R, 3, none⟩ = false
  f4 : W.frozen? ⟨R, 4, none⟩ = false
  f5 : W.frozen? ⟨R, 5, none⟩ = false
theorem Par.below {R : Nat} {k : Int} {nd sv : ByteArray} {a b : Int} {l : ByteArray} {W W' : World} (h : Par R k nd sv a b l W) (hb : Below W.heap.size W W') : Par R k nd sv a b l W' := by
  have c : ∀ {p : Addr} {v : Value}, W.cell? p = some v → W'.cell? p = some v := fun e => (hb.cell (World.block_lt_of_cell? _ _ e)).trans e
  have f : ∀ {p : Addr} {v : Value}, W.cell? p = some v → W.frozen? p = false → W'.frozen? p = false := fun e z => (hb.frozen (World.block_lt_of_cell? _ _ e)).trans z
  exact ⟨c h.c0, c h.c1, c h.c2, c h.c3, c h.c4, c h.c5, f h.c0 h.f0, f h.c1 h.f1, f h.c2 h.f2, f h.c3 h.f3, f h.c4 h.f4, f h.c5 h.f5⟩
theorem Par.setNd {R : Nat} {k : Int} {nd sv : ByteArray} {a b : Int} {l : ByteArray} {W : World} (h : Par R k nd sv a b l W) (x : ByteArray) : Par R k x sv a b l (W.setCell ⟨R, 1, none⟩ (.string x)) :=
  ⟨(by have := h.c0; go_simp), World.cell?_setCell_same' _ _ _ (by rw [h.c1]; rfl), (by have := h.c2; go_simp), (by have := h.c3; go_simp), (by have := h.c4; go_simp), (by have := h.c5; go_simp), (by rw [World.frozen?_setCell]; exact h.f0), (by rw [World.frozen?_setCell]; exact h.f1), (by rw [World.frozen?_setCell]; exact h.f2), (by rw [World.frozen?_setCell]; exact h.f3), (by rw [World.frozen?_setCell]; exact h.f4), (by rw [World.frozen?_setCell]; exact h.f5)⟩
theorem Par.setSv {R : Nat} {k : Int} {nd sv : ByteArray} {a b : Int} {l : ByteArray} {W : World} (h : Par R k nd sv a b l W) (x : ByteArray) : Par R k nd x a b l (W.setCell ⟨R, 2, none⟩ (.string x)) :=
  ⟨(by have := h.c0; go_simp), (by have := h.c1; go_simp), World.cell?_setCell_same' _ _ _ (by rw [h.c2]; rfl), (by have := h.c3; go_simp), (by have := h.c4; go_simp), (by have := h.c5; go_simp), (by rw [World.frozen?_setCell]; exact h.f0), (by rw [World.frozen?_setCell]; exact h.f1), (by rw [World.frozen?_setCell]; exact h.f2), (by rw [World.frozen?_setCell]; exact h.f3), (by rw [World.frozen?_setCell]; exact h.f4), (by rw [World.frozen?_setCell]; exact h.f5)⟩
theorem Par.setA {R : Nat} {k : Int} {nd sv : ByteArray} {a b : Int} {l : ByteArray} {W : World} (h : Par R k nd sv a b l W) (x : Int) : Par R k nd sv x b l (W.setCell ⟨R, 3, none⟩ (.int .i64 x)) :=
  ⟨(by have := h.c0; go_simp), (by have := h.c1; go_simp), (by have := h.c2; go_simp), World.cell?_setCell_same' _ _ _ (by rw [h.c3]; rfl), (by have := h.c4; go_simp), (by have := h.c5; go_simp), (by rw [World.frozen?_setCell]; exact h.f0), (by rw [World.frozen?_setCell]; exact h.f1), (by rw [World.frozen?_setCell]; exact h.f2), (by rw [World.frozen?_setCell]; exact h.f3), (by rw [World.frozen?_setCell]; exact h.f4), (by rw [World.frozen?_setCell]; exact h.f5)⟩
theorem Par.setB {R : Nat} {k : Int} {nd sv : ByteArray} {a b : Int} {l : ByteArray} {W : World} (h : Par R k nd sv a b l W) (x : Int) : Par R k nd sv a x l (W.setCell ⟨R, 4, none⟩ (.int .i64 x)) :=
  ⟨(by have := h.c0; go_simp), (by have := h.c1; go_simp), (by have := h.c2; go_simp), (by have := h.c3; go_simp), World.cell?_setCell_same' _ _ _ (by rw [h.c4]; rfl), (by have := h.c5; go_simp), (by rw [World.frozen?_setCell]; exact h.f0), (by rw [World.frozen?_setCell]; exact h.f1), (by rw [World.frozen?_setCell]; exact h.f2), (by rw [World.frozen?_setCell]; exact h.f3), (by rw [World.frozen?_setCell]; exact h.f4), (by rw [World.frozen?_setCell]; exact h.f5)⟩
theorem Par.setL {R : Nat} {k : Int} {nd sv : ByteArray} {a b : Int} {l : ByteArray} {W : World} (h : Par R k nd sv a b l W) (x : ByteArray) : Par R k nd sv a b x (W.setCell ⟨R, 5, none⟩ (.string x)) :=
  ⟨(by have := h.c0; go_simp), (by have := h.c1; go_simp), (by have := h.c2; go_simp), (by have := h.c3; go_simp), (by have := h.c4; go_simp), World.cell?_setCell_same' _ _ _ (by rw [h.c5]; rfl), (by rw [World.frozen?_setCell]; exact h.f0), (by rw [World.frozen?_setCell]; exact h.f1), (by rw [World.frozen?_setCell]; exact h.f2), (by rw [World.frozen?_setCell]; exact h.f3), (by rw [World.frozen?_setCell]; exact h.f4), (by rw [World.frozen?_setCell]; exact h.f5)⟩

/-- The library's variables, where block R is written. -/
def EnvB (R : Nat) (w : World) : Prop := ∃ w0 : World, EnvN w0 ∧ w0.heap.size ≤ R ∧ Below w0.heap.size w0 w
theorem EnvB.ok {R : Nat} {w : World} (h : EnvB R w) : EnvN w := by
  obtain ⟨w0, hE, _, hb⟩ := h
  exact hE.below hb
theorem EnvB.fr {R : Nat} {w w' : World} (h : EnvB R w) (hf : FrE R w w') : EnvB R w' := by
  obtain ⟨w0, hE, hR, hb⟩ := h
  refine ⟨w0, hE, hR, hb.trans ⟨hf.os, hf.tape, hf.output, hf.size, fun j hj => hf.block j (Nat.lt_of_lt_of_le hj hb.size) (fun e => by cases e; omega)⟩⟩

/-- What stands ahead of a mark, and behind it. -/
def cutA (s m : ByteArray) : ByteArray := ⟨(Lib.cut s.data.toList m.data.toList).1.toArray⟩
def cutB (s m : ByteArray) : ByteArray := ⟨(Lib.cut s.data.toList m.data.toList).2.1.toArray⟩
theorem cutB_size (s m : ByteArray) : (cutB s m).size ≤ s.size := by
  unfold cutB Lib.cut
  show (List.toArray _).size ≤ _
  split
  · simp
  · simp
theorem cutA_size (s m : ByteArray) : (cutA s m).size ≤ s.size := by
  unfold cutA Lib.cut
  show (List.toArray _).size ≤ _
  split
  · simp; omega
  · simp

set_option maxRecDepth 100000 in
set_option maxHeartbeats 2000000 in
theorem upTo_any (R : Nat) (k : Int) (nd sv : ByteArray) (a b : Int) (l m : ByteArray) (w : World) (hE : EnvB R w) (hP : Par R k nd sv a b l w) (hl : l.size ≤ 4000000000) :
    Calls Tryz.prog 95 #[.pointer (some ⟨R, 0, none⟩), .string m] w fun e w' => e = .returned (.string (cutA l m)) ∧ Par R k nd sv a b (cutB l m) w' ∧ FrE R w w' := by
  have HC := Lib.hid (cutS_any l m w hE.ok hl)
  have HP := Lib.hid hP
  have c5 := hP.c5
  change Hid (Calls _ _ _ _ fun e w' => e = .returned (.tuple #[.string (cutA l m), .string (cutB l m), .bool (Lib.cut l.data.toList m.data.toList).2.2]) ∧ Below w.heap.size w w') at HC
  generalize (Lib.cut l.data.toList m.data.toList).2.2 = fnd at HC
  generalize cutA l m = ca at *
  generalize cutB l m = cb at *
  clear hE hP
  go_enter Tryz.func95, Tryz.ntmps95
  go_wp2_with fail
  refine HC.out.mono ?_
  rintro e w1 ⟨rfl, hb1⟩
  have HP1 := Lib.hid (HP.out.below hb1)
  have HF1 := Lib.hid (FrE.below (R := R) hb1)
  have d5 := HP1.out.c5
  have e5 := HP1.out.f5
  clear hb1 HC HP c5
  go_wp2
  go_ret
  exact ⟨rfl, HP1.out.setL cb, HF1.out.trans (FrE.set R 5 _ _)⟩

set_option maxHeartbeats 1000000 in
theorem takeNone_any (R : Nat) (w : World) :
    Calls Tryz.prog 59 #[.pointer (some ⟨R, 0, none⟩)] w fun e w' => (∃ v, e = .returned v) ∧ w' = w := by
  go_enter Tryz.func59, Tryz.ntmps59
  go_wp2
  go_end0
  exact ⟨⟨_, rfl⟩, rfl⟩

set_option maxRecDepth 100000 in
set_option maxHeartbeats 4000000 in
theorem takeDtn_any (R : Nat) (k : Int) (nd sv : ByteArray) (a b : Int) (l : ByteArray) (w : World) (hE : EnvB R w) (hP : Par R k nd sv a b l w) (hl : l.size ≤ 4000000000) :
    Calls Tryz.prog 62 #[.pointer (some ⟨R, 0, none⟩)] w fun e w' => (∃ v, e = .returned v) ∧ (∃ l', Par R k (cutA (cutB l ⟨#[47, 47]⟩) ⟨#[47]⟩) (cutB (cutB l ⟨#[47, 47]⟩) ⟨#[47]⟩) a b l' w') ∧ FrE R w w' := by
  have H1 := Lib.hid (upTo_any R k nd sv a b l ⟨#[47, 47]⟩ w hE hP hl)
  have hl2 := Nat.le_trans (cutB_size l ⟨#[47, 47]⟩) hl
  generalize cutB l ⟨#[47, 47]⟩ = l1 at *
  generalize cutA l ⟨#[47, 47]⟩ = x1 at *
  have H2 := Lib.hid (fun (W : World) (hE : EnvB R W) (hP : Par R k nd sv a b l1 W) => upTo_any R k nd sv a b l1 ⟨#[47]⟩ W hE hP hl2)
  generalize cutB l1 ⟨#[47]⟩ = l2 at *
  generalize cutA l1 ⟨#[47]⟩ = x2 at *
  have HE := Lib.hid hE
  clear hE hP hl hl2
  go_enter Tryz.func62, Tryz.ntmps62
  go_wp2_with fail
  refine H1.out.mono ?_
  rintro e w1 ⟨rfl, hP1, hF1⟩
  have H3 := Lib.hid (H2.out w1 (HE.out.fr hF1) hP1)
  have HF1 := Lib.hid hF1
  clear hP1 hF1 H1 H2 HE
  go_wp2_with fail
  refine H3.out.mono ?_
  rintro e w2 ⟨rfl, hP2, hF2⟩
  have HF2 := Lib.hid (HF1.out.trans hF2)
  have HP2 := Lib.hid ((hP2.setNd x2).setSv l2)
  have c1 := hP2.c1
  have g1 := hP2.f1
  have c2 := hP2.c2
  have g2 := hP2.f2
  have c5 := hP2.c5
  clear hP2 hF2 HF1 H3
  go_wp2_with fail
  go_end0
  exact ⟨⟨_, rfl⟩, ⟨_, HP2.out⟩, (HF2.out.trans (FrE.set R 1 _ _)).trans (FrE.set R 2 _ _)⟩

set_option maxRecDepth 100000 in
set_option maxHeartbeats 4000000 in
theorem takeIpn_any (R : Nat) (k : Int) (nd sv : ByteArray) (a b : Int) (l : ByteArray) (w : World) (hE : EnvB R w) (hP : Par R k nd sv a b l w) (hl : l.size ≤ 4000000000) :
    Calls Tryz.prog 65 #[.pointer (some ⟨R, 0, none⟩)] w fun e w' => (∃ v, e = .returned v) ∧ (∃ l', Par R k nd sv (numPE (cutA l ⟨#[46]⟩).data.toList) (numPE (cutB l ⟨#[46]⟩).data.toList) l' w') ∧ FrE R w w' := by
  have H1 := Lib.hid (upTo_any R k nd sv a b l ⟨#[46]⟩ w hE hP hl)
  have hlA := Nat.le_trans (cutA_size l ⟨#[46]⟩) hl
  have hlB := Nat.le_trans (cutB_size l ⟨#[46]⟩) hl
  generalize cutB l ⟨#[46]⟩ = l1 at *
  generalize cutA l ⟨#[46]⟩ = x1 at *
  have H2 := Lib.hid (fun (W : World) (hE : EnvB R W) => enumber_any x1 W hE.ok hlA)
  have H3 := Lib.hid (fun (W : World) (hE : EnvB R W) => enumber_any l1 W hE.ok hlB)
  generalize numPE x1.data.toList = n1 at *
  generalize numPE l1.data.toList = n2 at *
  have HE := Lib.hid hE
  clear hE hP hl hlA hlB
  go_enter Tryz.func65, Tryz.ntmps65
  go_wp2_with fail
  refine H1.out.mono ?_
  rintro e w1 ⟨rfl, hP1, hF1⟩
  have H2a := Lib.hid (H2.out w1 (HE.out.fr hF1))
  have HF1 := Lib.hid hF1
  have HP1 := Lib.hid hP1
  clear hP1 hF1 H1 H2
  go_wp2_with fail
  refine H2a.out.mono ?_
  rintro e w2 ⟨rfl, hb2⟩
  have HF2 := Lib.hid ((HF1.out.trans (FrE.below hb2)).trans (FrE.set R 3 _ (.int .i64 n1)))
  have hP2 := HP1.out.below hb2
  have HP2 := Lib.hid (hP2.setA n1)
  have c3 := hP2.c3
  have g3 := hP2.f3
  have H3a := Lib.hid (H3.out _ (HE.out.fr HF2.out))
  have c5 := hP2.c5
  clear hP2 hb2 HF1 HP1 H2a H3
  go_wp2_with fail
  refine H3a.out.mono ?_
  rintro e w3 ⟨rfl, hb3⟩
  have HF3 := Lib.hid ((HF2.out.trans (FrE.below hb3)).trans (FrE.set R 4 _ (.int .i64 n2)))
  have hP3 := HP2.out.below hb3
  have HP3 := Lib.hid (hP3.setB n2)
  have c4 := hP3.c4
  have g4 := hP3.f4
  clear hP3 hb3 HF2 HP2 H3a c3 g3 c5
  go_wp2_with fail
  go_end0
  exact ⟨⟨_, rfl⟩, ⟨_, HP3.out⟩, HF3.out⟩
end Go.Proofs.YtmbmolgkccjedaaGreatDoor

/- What read of package eid takes roughly of two halves, and that it is the name of these halves, if there is one. -/
set_option linter.unusedVariables false
set_option linter.unusedSimpArgs false
namespace Go.Proofs.YtmbmolgkccjedaaGreatDoor
open Go.RowKit

theorem index_at (c : UInt8) (q : List UInt8) : ∀ (p : List UInt8), c ∉ p → Lib.index (p ++ c :: q) [c] = (p.length : Int)
  | [], _ => by simp [Lib.index]
  | b :: r, h => by
    have hb : b ≠ c := fun e => h (by rw [e]; exact List.mem_cons_self)
    have ih := index_at c q r (fun hm => h (List.mem_cons_of_mem _ hm))
    rw [List.cons_append, Lib.index, ih]
    have hp : (List.isPrefixOf [c] (b :: (r ++ c :: q))) = false := by
      simp [List.isPrefixOf, Ne.symm hb]
    rw [hp]
    have hn : (((r.length : Nat) : Int) == -1) = false := by simp
    rw [hn]
    simp
theorem index_no (c : UInt8) : ∀ (p : List UInt8), c ∉ p → Lib.index p [c] = -1
  | [], _ => by simp [Lib.index]
  | b :: r, h => by
    have hb : b ≠ c := fun e => h (by rw [e]; exact List.mem_cons_self)
    have ih := index_no c r (fun hm => h (List.mem_cons_of_mem _ hm))
    rw [Lib.index, ih]
    have hp : (List.isPrefixOf [c] (b :: r)) = false := by
      simp [List.isPrefixOf, Ne.symm hb]
    rw [hp]
    simp
theorem cut_at {c : UInt8} {p q : List UInt8} (h : c ∉ p) : Lib.cut (p ++ c :: q) [c] = (p, q, true) := by
  unfold Lib.cut
  rw [index_at c q p h, if_pos (by omega)]
  simp
theorem cut_no {c : UInt8} {p : List UInt8} (h : c ∉ p) : Lib.cut p [c] = (p, [], false) := by
  unfold Lib.cut
  rw [index_no c p h, if_neg (by omega)]
theorem cut_two (q : List UInt8) : Lib.cut (47 :: 47 :: q) [47, 47] = ([], q, true) := by
  have h : Lib.index (47 :: 47 :: q) [47, 47] = 0 := by simp [Lib.index, List.isPrefixOf]
  unfold Lib.cut
  rw [h, if_pos (by omega)]
  simp

/-- Digits are read as the number that they tell. -/
theorem dec_val : ∀ (l : List UInt8) (acc : Nat), (∀ c ∈ l, 48 ≤ c.toNat ∧ c.toNat ≤ 57) → (∀ k, k ≤ l.length → (l.take k).foldl valN acc < 1000000000) → acc < 1000000000 → Lib.parseUint10 acc l = .ok (l.foldl valN acc)
  | [], acc, _, _, _ => rfl
  | c :: r, acc, h, hb, ha => by
    have hc := h c List.mem_cons_self
    have h1 := hb 1 (by simp)
    simp only [List.take_succ_cons, List.take_zero, List.foldl_cons, List.foldl_nil] at h1
    have hv : valN acc c = acc * 10 + (c.toNat - 48) := by
      unfold valN at h1 ⊢
      omega
    rw [Lib.parseUint10, if_pos hc, if_neg (by omega), if_neg (by omega), List.foldl_cons, hv]
    refine dec_val r _ (fun x hx => h x (List.mem_cons_of_mem _ hx)) (fun k hk => ?_) (by omega)
    have := hb (k + 1) (by simpa using hk)
    rw [List.take_succ_cons, List.foldl_cons, hv] at this
    exact this
theorem val_mono : ∀ (l : List UInt8) (acc : Nat), acc ≤ 1000000000 → l.foldl valN acc < 1000000000 → (∀ k, (l.take k).foldl valN acc < 1000000000)
  | [], acc, _, h, k => by simpa using h
  | c :: r, acc, ha, h, k => by
    cases k with
    | zero =>
      simp only [List.take_zero, List.foldl_nil]
      rcases Nat.lt_or_ge acc 1000000000 with hl | hl
      · exact hl
      · exfalso
        have e : acc = 1000000000 := by omega
        have hall : ∀ (l : List UInt8), l.foldl valN 1000000000 = 1000000000 := by
          intro l
          induction l with
          | nil => rfl
          | cons d s ih =>
            rw [List.foldl_cons, show valN 1000000000 d = 1000000000 by unfold valN; omega]
            exact ih
        rw [e, hall] at h
        omega
    | succ k =>
      rw [List.take_succ_cons, List.foldl_cons]
      rw [List.foldl_cons] at h
      exact val_mono r _ (by unfold valN; omega) h k
theorem numP_num {n : Nat} (h : n ≤ 999999999) : numPE (numL n) = (n : Int) := by
  have hd := numF_digits 20 n
  have hp := numF_pos 20 n (by decide)
  have hv := valD_numL h
  have hl : ∃ c r, numL n = c :: r := by
    unfold numL
    cases hq : numF 20 n with
    | nil => rw [hq] at hp; simp at hp
    | cons c r => exact ⟨c, r, rfl⟩
  obtain ⟨c, r, hcr⟩ := hl
  have hc := hd c (by have : c ∈ numL n := by rw [hcr]; exact List.mem_cons_self
                      exact this)
  have hm : Lib.parseMag (numL n) = .ok n := by
    unfold Lib.parseMag
    rw [if_neg (by rw [hcr]; simp)]
    have := dec_val (numL n) 0 hd (fun k _ => val_mono (numL n) 0 (by omega) (by unfold valD at hv; omega) k) (by omega)
    rw [this]
    unfold valD at hv
    rw [hv]
  unfold numPE Lib.atoiAll
  rw [hcr] at hm ⊢
  simp only [show ¬ c.toNat = 43 by omega, show ¬ c.toNat = 45 by omega, or_self, if_false, not_false_eq_true, true_and, false_and]
  rw [hm]
  simp only
  rw [if_neg (show ¬ 9223372036854775808 ≤ n by omega)]

/-- The name that is taken of halves as if they were right ones. -/
def rghP (s t : List UInt8) : Nm :=
  if s = [105, 112, 110] then ⟨2, [], [], numPE (Lib.cut t [46]).1, numPE (Lib.cut t [46]).2.1⟩
  else if t = [110, 111, 110, 101] then nm0
  else ⟨1, (Lib.cut (Lib.cut t [47, 47]).2.1 [47]).1, (Lib.cut (Lib.cut t [47, 47]).2.1 [47]).2.1, 0, 0⟩
theorem rghP_hlv {e : Nm} (h : nmR e = true) : rghP (hlv e).1 (hlv e).2 = e := by
  rcases nmR_cases h with rfl | ⟨h1, h2, h3, h4, h5, h6⟩ | ⟨A, B, rfl, hA, hA9, hB9⟩
  · decide
  · obtain ⟨k, nd, sv, a, b⟩ := e
    simp only at h1 h2 h3 h4 h5 h6
    subst h1 h5 h6
    unfold hlv rghP
    simp only [if_true]
    rw [if_neg (by decide), if_neg (by intro e; simp at e)]
    have e : ([47, 47] ++ (nd ++ ([47] ++ sv)) : List UInt8) = 47 :: 47 :: (nd ++ 47 :: sv) := by simp
    rw [e, cut_two]
    simp only
    rw [cut_at (part_noslash h3)]
  · have e2 : hlv ⟨2, [], [], A, B⟩ = ([105, 112, 110], numL A ++ 46 :: numL B) := by
      unfold hlv
      rw [if_neg (by show ¬ ((2 : Int) = 1); decide), if_pos rfl]
      simp
    rw [e2]
    unfold rghP
    rw [if_pos rfl, cut_at (num_nodot A)]
    simp only
    rw [numP_num hA9, numP_num hB9]
/-- The name of halves, as read takes it. -/
def jnP (s t : List UInt8) : Option Nm := if nmR (rghP s t) = true ∧ hlv (rghP s t) = (s, t) then some (rghP s t) else none
theorem jnP_eq (s t : List UInt8) : jnP s t = jnR s t := by
  unfold jnP
  split
  · rename_i hc
    have := jnR_hlv hc.1
    rw [hc.2] at this
    exact this.symm
  · rename_i hc
    cases hj : jnR s t with
    | none => rfl
    | some e =>
      exfalso
      obtain ⟨h1, h2⟩ := jnR_back hj
      apply hc
      have := rghP_hlv h1
      rw [h2] at this
      rw [this]
      exact ⟨h1, h2⟩
/-- The name of a text, as Parse takes it. -/
def prsP (s : List UInt8) : Option Nm := if (Lib.cut s [58]).2.2 = true then jnR (Lib.cut s [58]).1 (Lib.cut s [58]).2.1 else none
theorem hlv_nocolon (e : Nm) : (58 : UInt8) ∉ (hlv e).1 := by
  unfold hlv
  by_cases h1 : e.k = 1
  · rw [if_pos h1]; simp
  · rw [if_neg h1]
    by_cases h2 : e.k = 2
    · rw [if_pos h2]; simp
    · rw [if_neg h2]; simp
theorem first_in (c : UInt8) : ∀ (s : List UInt8), c ∈ s → ∃ p q, s = p ++ c :: q ∧ c ∉ p
  | b :: r, h => by
    by_cases e : b = c
    · subst e
      exact ⟨[], r, rfl, by simp⟩
    · obtain ⟨p, q, rfl, hp⟩ := first_in c r ((List.mem_cons.1 h).resolve_left (Ne.symm e))
      exact ⟨b :: p, q, rfl, fun hm => by
        rcases List.mem_cons.1 hm with h1 | h1
        · exact e h1.symm
        · exact hp h1⟩
theorem prsP_eq (s : List UInt8) : prsP s = prsR s := by
  cases hp : prsR s with
  | some e =>
    obtain ⟨h1, h2⟩ := prsR_back hp
    unfold prsP
    rw [← h2]
    unfold txtN
    rw [cut_at (hlv_nocolon e)]
    simp only [if_true]
    exact jnR_hlv h1
  | none =>
    cases hq : prsP s with
    | none => rfl
    | some e =>
      exfalso
      unfold prsP at hq
      split at hq
      · rename_i hc
        obtain ⟨h1, h2⟩ := jnR_back hq
        by_cases hm : (58 : UInt8) ∈ s
        · obtain ⟨p, q, rfl, hpq⟩ := first_in 58 s hm
          rw [cut_at hpq] at h2 hq
          have := prsR_txt h1
          unfold txtN at this
          rw [h2] at this
          rw [this] at hp
          cases hp
        · rw [cut_no hm] at hc
          cases hc
      · cases hq
end Go.Proofs.YtmbmolgkccjedaaGreatDoor
