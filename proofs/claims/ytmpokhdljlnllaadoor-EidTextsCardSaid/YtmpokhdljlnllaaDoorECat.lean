/- Contract of split of package eid, at every name. -/
import Derived.Test.YtmpokhdljlnllaaDoorESplit
import Derived.Lib.ItoaNum
import Derived.Lib.ItoaLen
set_option linter.unusedVariables false
set_option linter.unusedSimpArgs false
namespace Go.Proofs.YtmpokhdljlnllaaDoor
open Go.RowKit

theorem num_dec : ∀ (f n : Nat), n < 10 ^ f → 1 ≤ f → numF f n = Lib.decDigits n
  | 0, n, h, h1 => by omega
  | f + 1, n, h, _ => by
    rw [numF, Lib.decDigits]
    by_cases h10 : n < 10
    · rw [if_pos h10, dif_pos h10]
      rfl
    · rw [if_neg h10, dif_neg h10]
      have hf : 1 ≤ f := by
        cases f with
        | zero => simp at h; omega
        | succ f => omega
      rw [num_dec f (n / 10) (by rw [Nat.pow_succ] at h; omega) hf]
      rfl
theorem itoa_num {n : Int} (h0 : 0 ≤ n) (h1 : n ≤ 999999999) : Lib.itoa n = numL n.toNat := by
  unfold Lib.itoa numL
  rw [if_neg (by omega), num_dec 20 n.toNat (Nat.lt_of_le_of_lt (show n.toNat ≤ 999999999 by omega) (by decide)) (by decide)]

theorem ba_ext {s t : ByteArray} (h : s.data.toList = t.data.toList) : s = t := by
  apply ByteArray.ext
  exact Array.toList_inj.1 h
theorem ba_app (s t : ByteArray) : (s ++ t).data.toList = s.data.toList ++ t.data.toList := by simp
theorem catN : catP psN = ⟨#[110, 111, 110, 101]⟩ := by
  apply ba_ext
  simp [catP, psN]
theorem catD (nd sv : ByteArray) : (catP (psD nd sv)).data.toList = [47, 47] ++ (nd.data.toList ++ ([47] ++ sv.data.toList)) := by
  simp [catP, psD, ba_app]
theorem catI (a b : Int) : (catP (psI a b)).data.toList = Lib.itoa a ++ ([46] ++ Lib.itoa b) := by
  simp [catP, psI, ba_app]

/-- The halves of a right name; of another one, nothing. -/
def hfS (o : Nm) : ByteArray := if nmR o then ⟨(hlv o).1.toArray⟩ else ⟨#[]⟩
def rsS (o : Nm) : ByteArray := if nmR o then ⟨(hlv o).2.toArray⟩ else ⟨#[]⟩

theorem esplit_any (k : Int) (nd sv : ByteArray) (a b : Int) (w : World) (hE : EnvN w) (ha : I64 a) (hb : I64 b) :
    Calls Tryd.prog 24 #[nmV k nd sv a b] w fun e w' => e = .returned (.tuple #[.agg #[.string (hfS (nmO k nd sv a b)), .string (rsS (nmO k nd sv a b))], .bool (nmR (nmO k nd sv a b))]) ∧ Below w.heap.size w w' := by
  cases hr : nmR (nmO k nd sv a b) with
  | false =>
    have := esplit_no k nd sv a b w hE ha hb hr
    unfold hfS rsS
    simp only [hr, Bool.false_eq_true, if_false]
    exact this
  | true =>
    rcases nmR_cases hr with h | ⟨h1, h2, h3, h4, h5, h6⟩ | ⟨A, B, h, hA, hA9, hB9⟩
    · unfold nmO nm0 at h
      simp only [Nm.mk.injEq] at h
      obtain ⟨rfl, h2, h3, rfl, rfl⟩ := h
      have e1 : hfS (nmO 0 nd sv 0 0) = ⟨#[100, 116, 110]⟩ := by unfold hfS; rw [hr]; rfl
      have e2 : rsS (nmO 0 nd sv 0 0) = catP psN := by unfold rsS; rw [hr, catN]; rfl
      rw [e1, e2]
      exact esplit_go 0 nd sv 0 0 _ _ _ _ 0 rfl (enterF Tryd.func40 (by kernel_rfl) rfl) psN (by decide) (by intro x hx; simp [psN] at hx; subst hx; decide) w (fun W _ => noneParts_any 0 nd sv 0 0 W) hE ha hb hr
    · have hk : k = 1 := h1
      have hA : a = 0 := h5
      have hB : b = 0 := h6
      subst hk hA hB
      have hn20 : nd.size ≤ 20 := by
        have := h3
        unfold partB nmO at this
        rw [Bool.and_eq_true, decide_eq_true_eq, size_len] at this
        exact this.2
      have hs20 : sv.size ≤ 20 := by
        have := h4
        unfold partB nmO at this
        rw [Bool.and_eq_true, decide_eq_true_eq, size_len] at this
        exact this.2
      have e1 : hfS (nmO 1 nd sv 0 0) = ⟨#[100, 116, 110]⟩ := by unfold hfS; rw [hr]; rfl
      have e2 : rsS (nmO 1 nd sv 0 0) = catP (psD nd sv) := by
        unfold rsS; rw [hr]
        apply ba_ext
        rw [catD]
        rfl
      rw [e1, e2]
      exact esplit_go 1 nd sv 0 0 _ _ _ _ 1 rfl (enterF Tryd.func43 (by kernel_rfl) rfl) (psD nd sv) (by show 4 ≤ 1000; decide) (by
        intro x hx
        simp only [psD, List.mem_cons, List.not_mem_nil, or_false] at hx
        rcases hx with rfl | rfl | rfl | rfl
        · show (2 : Nat) ≤ 100; decide
        · show nd.size ≤ 100; omega
        · show (1 : Nat) ≤ 100; decide
        · show sv.size ≤ 100; omega) w (fun W _ => dtnParts_any 1 nd sv 0 0 W) hE ha hb hr
    · unfold nmO at h
      simp only [Nm.mk.injEq] at h
      obtain ⟨rfl, h2, h3, rfl, rfl⟩ := h
      have i1 : Lib.itoa (A : Int) = numL A := itoa_num (by omega) (by omega)
      have i2 : Lib.itoa (B : Int) = numL B := itoa_num (by omega) (by omega)
      have e1 : hfS (nmO 2 nd sv A B) = ⟨#[105, 112, 110]⟩ := by unfold hfS; rw [hr]; rfl
      have e2 : rsS (nmO 2 nd sv A B) = catP (psI A B) := by
        unfold rsS; rw [hr]
        apply ba_ext
        rw [catI, i1, i2]
        rfl
      rw [e1, e2]
      exact esplit_go 2 nd sv A B _ _ _ _ 2 rfl (enterF Tryd.func46 (by kernel_rfl) rfl) (psI A B) (by show 3 ≤ 1000; decide) (by
        intro x hx
        simp only [psI, List.mem_cons, List.not_mem_nil, or_false] at hx
        rcases hx with rfl | rfl | rfl
        · show (⟨(Lib.itoa (A : Int)).toArray⟩ : ByteArray).size ≤ 100
          have := numL_len hA9
          rw [i1]
          show (numL A).toArray.size ≤ 100
          simp; omega
        · show (1 : Nat) ≤ 100; decide
        · show (⟨(Lib.itoa (B : Int)).toArray⟩ : ByteArray).size ≤ 100
          have := numL_len hB9
          rw [i2]
          show (numL B).toArray.size ≤ 100
          simp; omega) w (fun W hW => ipnParts_any 2 nd sv A B W (hE.below hW) ha.1 ha.2 hb.1 hb.2) hE ha hb hr
end Go.Proofs.YtmpokhdljlnllaaDoor
