/- What is decoded has a major, a number, and a place behind that is at most nine bytes further: the walk of HeadReads. -/
import Derived.Test.YtnmdbmmkmbdiaaaDoorHLP
set_option linter.unusedVariables false
set_option linter.unusedSimpArgs false
namespace Go.Proofs.YtnmdbmmkmbdiaaaDoor
open Go.RowKit

set_option maxRecDepth 100000 in
set_option maxHeartbeats 2000000 in
theorem reads_of (s q : ByteArray) (at0 m n to0 e k f : Int) (w : World) (hH : HeadOK w) (hs : s.size ≤ maxLen) (hq : s.extract 0 (min s.size 100) = q) (hql : q.size ≤ 100) (hD : hdecR q at0 = (m, n, to0, e)) (hS : hsizeR n = (k, f))
    (h : (e = 11 ∨ e = 20 ∨ e = 10) ∨ ((e != 0) = false ∧ (f == 0) = true ∧ 0 ≤ at0 ∧ at0 ≤ 100 ∧ 0 ≤ k ∧ k ≤ 9 ∧ (to0 == at0 + k) = true ∧ (m = 0 ∨ m = 2 ∨ m = 3 ∨ m = 4))) :
    Calls Tryd.prog 9 #[.string s, .int .i64 at0] w fun e w' => e = .returned (.bool true) ∧ Below w.heap.size w w' := by
  have Q := Lib.hid hq
  have HD := Lib.hid hD
  have HS := Lib.hid hS
  clear hq hD hS
  rcases h with (rfl | rfl | rfl) | ⟨h1, h2, h3, h4, h5, h6, h7, rfl | rfl | rfl | rfl⟩
  all_goals
    go_enter Tryd.func9, Tryd.ntmps9
    go_wp2_with fail
    refine (shown_any _ hH).mono ?_
    rintro e w1 ⟨rfl, hb1⟩
    go_wp2_with fail
    refine (lawCut_any s _ hs).mono ?_
    rintro e w' ⟨rfl, rfl⟩
    rw [Q.out]
    go_wp2_with fail
    refine (hdecode_any _ _ _ (hH.below hb1) (by omega)).mono ?_
    rintro e w2 ⟨rfl, hb2⟩
    replace hb2 := hb1.trans (hb2.mono hb1.size)
    rw [HD.out]
  all_goals
    clear hb1
    go_wp2_with (go_at_call 16; refine (hsize_any _ _ (hH.below hb2)).mono ?_; rintro e w3 ⟨rfl, hb3⟩; replace hb3 := hb2.trans (hb3.mono hb2.size); rw [HS.out])
    go_ret
    first | exact ⟨rfl, hb2⟩ | exact ⟨rfl, hb3⟩

theorem reads_walk (s : ByteArray) (at0 : Int) (w : World) (hH : HeadOK w) (hs : s.size ≤ maxLen) (_ : (Lit.int .i64 at0).wf = true) :
    Calls Tryd.prog 9 #[.string s, .int .i64 at0] w fun e w' => e = .returned (.bool true) ∧ Below w.heap.size w w' := by
  have hql := cut_le s
  generalize hq : s.extract 0 (min s.size 100) = q at *
  rcases hdecR_cases q at0 with ⟨e, h, he⟩ | ⟨i, M, N, k, rfl, hi, hd, h⟩
  · exact reads_of s q at0 0 0 0 e _ _ w hH hs hq hql h rfl (.inl he)
  · obtain ⟨hM, hN, hk, hkl, _⟩ := hdL_back hd
    rw [headL_length] at hk
    subst hk
    have hw := wid_le N
    refine reads_of s q i M N _ 0 _ _ w hH hs hq hql h (hsizeR_of hN) (.inr ⟨rfl, rfl, by omega, by omega, by omega, by omega, by simp, ?_⟩)
    unfold Maj at hM
    omega
end Go.Proofs.YtnmdbmmkmbdiaaaDoor
