/- The walk of EidHomes, whole. -/
import Derived.Test.YtmpokhdljlnllaaDoorEHomes
set_option linter.unusedVariables false
set_option linter.unusedSimpArgs false
namespace Go.Proofs.YtmpokhdljlnllaaDoor
open Go.RowKit

theorem hom_yes (k : Int) (nd sv : ByteArray) (a b : Int) (ha : I64 a) (hb : I64 b) (hn : nd.size ≤ 21) (hr : nmR (nmO k nd sv a b) = true) (W : World) (hW : EnvN W) :
    Calls Tryd.prog 19 #[nmV k nd sv a b] W fun e w' => e = .returned (.tuple #[nmV k nd ⟨#[]⟩ a 0, .int .i64 0]) ∧ Below W.heap.size W w' := by
  have h := homeE_any k nd sv a b W hW ha hb (by omega)
  unfold homV erS at h
  rw [hr] at h
  simp only [if_true] at h
  exact h
theorem hom_no (k : Int) (nd sv : ByteArray) (a b : Int) (ha : I64 a) (hb : I64 b) (hn : nd.size ≤ 21) (hr : nmR (nmO k nd sv a b) = false) (W : World) (hW : EnvN W) :
    Calls Tryd.prog 19 #[nmV k nd sv a b] W fun e w' => e = .returned (.tuple #[nmV 0 ⟨#[]⟩ ⟨#[]⟩ 0 0, .int .i64 60]) ∧ Below W.heap.size W w' := by
  have h := homeE_any k nd sv a b W hW ha hb (by omega)
  unfold homV erS at h
  rw [hr] at h
  simp only [Bool.false_eq_true, if_false] at h
  exact h

theorem homes_walk (k : Int) (nd sv t : ByteArray) (a b : Int) (w : World) (hE : EnvN w) (ha : I64 a) (hb : I64 b) (hn : nd.size ≤ maxLen) (hs : sv.size ≤ maxLen) (ht : t.size ≤ maxLen) :
    Calls Tryd.prog 6 #[nmV k nd sv a b, .string t] w fun e w' => e = .returned (.bool true) ∧ Below w.heap.size w w' := by
  have hx1 := c21_le nd
  have HCUT := Lib.hid (fun W => lCut_any k nd sv a b W hn hs)
  cases hr : nmR (nmO k (c21 nd) (c21 sv) a b) with
  | false =>
    refine homes_no k nd sv t (c21 nd) (c21 sv) a b w (Lib.hid hE) HCUT (Lib.hid (fun W hW => hom_no k (c21 nd) (c21 sv) a b ha hb hx1 hr W hW)) (Lib.hid (fun W hW => ?_))
    have h := eright_any k (c21 nd) (c21 sv) a b W hW ha hb
    rw [hr] at h
    exact h
  | true =>
    have hr2 : nmR (nmO k (c21 nd) ⟨#[]⟩ a 0) = true := hom_right hr
    have HH1 := Lib.hid (fun W hW => hom_yes k (c21 nd) (c21 sv) a b ha hb hx1 hr W hW)
    have HH2 := Lib.hid (fun W hW => hom_yes k (c21 nd) ⟨#[]⟩ a 0 ha I64_zero hx1 hr2 W hW)
    have HR := Lib.hid (fun W hW => eright_any k (c21 nd) ⟨#[]⟩ a 0 W hW ha I64_zero)
    rw [hr2] at HR
    by_cases hk : k = 1
    · have hk1 : (k == 1) = true := by rw [hk]; rfl
      cases hy : nmR (nmO k (c21 nd) (c21 t) a b) with
      | false => exact homes_dtn k nd sv t (c21 nd) (c21 sv) (c21 t) a b 60 w hk1 ht rfl (Lib.hid hE) 0 0 0 ⟨#[]⟩ ⟨#[]⟩ true HCUT HH1 HH2 HR (.inl rfl) (Lib.hid (fun W hW => hom_no k (c21 nd) (c21 t) a b ha hb hx1 hy W hW))
      | true => exact homes_dtn k nd sv t (c21 nd) (c21 sv) (c21 t) a b 0 w hk1 ht rfl (Lib.hid hE) k a 0 (c21 nd) ⟨#[]⟩ true HCUT HH1 HH2 HR (.inr ⟨rfl, rfl, rfl, rfl, rfl, rfl⟩) (Lib.hid (fun W hW => hom_yes k (c21 nd) (c21 t) a b ha hb hx1 hy W hW))
    · have hk1 : (k == 1) = false := by simpa using hk
      exact homes_oth k nd sv t (c21 nd) (c21 sv) (c21 t) a b 0 w hk1 ht rfl (Lib.hid hE) k a 0 (c21 nd) ⟨#[]⟩ true HCUT HH1 HH2 HR (.inr ⟨rfl, rfl, rfl, rfl, rfl, rfl⟩) HH1
end Go.Proofs.YtmpokhdljlnllaaDoor
