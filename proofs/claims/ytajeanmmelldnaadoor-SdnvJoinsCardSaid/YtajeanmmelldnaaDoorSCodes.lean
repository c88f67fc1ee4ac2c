/- Groups of numbers, numbers of groups are the document's: the walk of SdnvCodes. -/
import Derived.Test.YtajeanmmelldnaaDoorSShown
set_option linter.unusedVariables false
set_option linter.unusedSimpArgs false
namespace Go.Proofs.YtajeanmmelldnaaDoor
open Go.RowKit

theorem cut_le (s : ByteArray) : (s.extract 0 (min s.size 100)).size ≤ 100 := by
  rw [ByteArray.size_extract]; omega

theorem allL_err : ∀ {l : List UInt8} {k : Int}, allL l = .error k → (k == 0) = false := by
  have key : ∀ (m : Nat) (l : List UInt8), l.length ≤ m → ∀ k, allL l = .error k → (k == 0) = false := by
    intro m
    induction m with
    | zero =>
      intro l hl k h
      have : l = [] := List.eq_nil_of_length_eq_zero (by omega)
      subst this
      rw [allL_nil] at h
      cases h
    | succ m ih =>
      intro l hl k h
      by_cases hn : l = []
      · subst hn; rw [allL_nil] at h; cases h
      · cases hd : decL l with
        | error e =>
          rw [allL_error hd hn] at h
          obtain rfl : e = k := by injection h
          rcases decL_err hd with rfl | rfl | rfl <;> rfl
        | ok p =>
          obtain ⟨n, t⟩ := p
          have ht := decL_len hd
          rw [allL_ok hd] at h
          cases ha : allL t with
          | error e =>
            rw [ha] at h
            obtain rfl : e = k := by simpa [consE] using h
            exact ih t (by omega) _ ha
          | ok ms => rw [ha] at h; cases h
  exact fun {l k} h => key _ l (Nat.le_refl _) k h

set_option maxRecDepth 100000 in
set_option maxHeartbeats 2000000 in
theorem codes_walk (n : Int) (s : ByteArray) (at0 : Int) (w : World) (hG : EnvE w) (_ : (Lit.int .i64 n).wf = true) (hs : s.size ≤ maxLen) (_ : (Lit.int .i64 at0).wf = true) :
    Calls Tryd.prog 3 #[.int .i64 n, .string s, .int .i64 at0] w fun e w' => e = .returned (.bool true) ∧ Below w.heap.size w w' := by
  have hql := cut_le s
  generalize hq : s.extract 0 (min s.size 100) = q at *
  generalize hR : encR n = R at *
  generalize hS : decR q at0 = S at *
  obtain ⟨x, c⟩ := R
  obtain ⟨y, z, d⟩ := S
  have Q := Lib.hid hq
  have HR := Lib.hid hR
  have HS := Lib.hid hS
  clear hq hR hS
  go_enter Tryd.func3, Tryd.ntmps3
  go_wp2_with fail
  refine (shown_any _ hG).mono ?_
  rintro e w1 ⟨rfl, hb1⟩
  have hG1 := hG.below hb1
  go_wp2_with fail
  refine (lawCut_any s _ hs).mono ?_
  rintro e w' ⟨rfl, rfl⟩
  rw [Q.out]
  go_wp2_with fail
  refine (encode_any _ _ hG1).mono ?_
  rintro e w2 ⟨rfl, hb2⟩
  have hG2 := hG1.below hb2
  replace hb2 := hb1.trans (hb2.mono hb1.size)
  rw [HR.out]
  go_wp2_with fail
  refine (refEncode_any _ _).mono ?_
  rintro e w3 ⟨rfl, hb3⟩
  have hG3 := hG2.below hb3
  replace hb3 := hb2.trans (hb3.mono hb2.size)
  rw [HR.out]
  go_wp2_with fail
  refine (size_any _ _ hG3).mono ?_
  rintro e w4 ⟨rfl, hb4⟩
  have hG4 := hG3.below hb4
  replace hb4 := hb3.trans (hb4.mono hb3.size)
  rw [HR.out]
  go_wp2_with fail
  refine (refSize_any _ _).mono ?_
  rintro e w5 ⟨rfl, hb5⟩
  have hG5 := hG4.below hb5
  replace hb5 := hb4.trans (hb5.mono hb4.size)
  rw [HR.out]
  go_wp2_with fail
  refine (decode_any _ _ _ hG5 (by omega)).mono ?_
  rintro e w6 ⟨rfl, hb6⟩
  replace hb6 := hb5.trans (hb6.mono hb5.size)
  rw [HS.out]
  go_wp2_with fail
  refine (refDecode_any _ _ _ (by omega)).mono ?_
  rintro e w' ⟨rfl, rfl⟩
  rw [HS.out]
  have HB := Lib.hid hb6
  clear hb1 hb2 hb3 hb4 hb5 hb6 hG1 hG2 hG3 hG4 hG5
  go_wp2
  go_ret
  exact ⟨by simp, HB.out⟩
end Go.Proofs.YtajeanmmelldnaaDoor
