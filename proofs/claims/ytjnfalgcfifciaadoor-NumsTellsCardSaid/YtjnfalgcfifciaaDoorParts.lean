/- A text is what is cut from it up to a place, and its rest: the walk of NumsParts; and pieces and rests are the document's: the walk of NumsCuts. -/
import Derived.Test.YtjnfalgcfifciaaDoorPure
import Derived.Test.YtjnfalgcfifciaaDoorShown
import Derived.OpenShut
set_option linter.unusedVariables false
set_option linter.unusedSimpArgs false
namespace Go.Proofs.YtjnfalgcfifciaaDoor
open Go.RowKit

theorem cut_le (s : ByteArray) : (s.extract 0 (min s.size 100)).size ≤ 100 := by rw [ByteArray.size_extract]; omega

set_option maxRecDepth 100000 in
set_option maxHeartbeats 1000000 in
theorem parts_of (a0 a1 a2 : Addr) (s q x y : ByteArray) (at0 c d : Int) (w : World) (hE : Env a0 a1 a2 w) (hs : s.size ≤ maxLen) (hq : s.extract 0 (min s.size 100) = q) (hql : q.size ≤ 100) (hat : at0 ≤ 9223372036854775807)
    (hR : cutR q 0 at0 = (x, c)) (hS : restR q at0 = (y, d)) (hxl : x.size ≤ 100) (hyl : y.size ≤ 100)
    (h : ((c != 0) = true ∧ (d == 11) = true ∧ x = ⟨#[]⟩ ∧ y = ⟨#[]⟩) ∨ ((c != 0) = false ∧ (d == 0) = true ∧ ((x.size : Int) == at0) = true ∧ ((x ++ y).toList == q.toList) = true)) :
    Calls Tryd.prog 8 #[.string s, .int .i64 at0] w fun e w' => e = .returned (.bool true) ∧ Below w.heap.size w w' := by
  have Q := Lib.hid hq
  have R := Lib.hid hR
  have S := Lib.hid hS
  clear hq hR hS
  rcases h with ⟨h1, h2, rfl, rfl⟩ | ⟨h1, h2, h3, h4⟩
  all_goals
    go_enter Tryd.func8, Tryd.ntmps8
    go_wp2_with fail
    refine (shown_any a0 a1 a2 _ hE).mono ?_
    rintro e w1 ⟨rfl, hb1⟩
    have hE1 := hE.below hb1
    go_wp2_with fail
    refine (lawCut_any s _ hs).mono ?_
    rintro e w' ⟨rfl, rfl⟩
    rw [Q.out]
    go_wp2_with fail
    refine (cut_any a0 a1 a2 q _ _ _ hE1 (by omega)).mono ?_
    rintro e w2 ⟨rfl, hb2⟩
    have hE2 := hE1.below hb2
    rw [R.out]
    go_wp2_with fail
    refine (rest_any a0 a1 a2 q _ _ hE2 (by omega) hat).mono ?_
    rintro e w3 ⟨rfl, hb3⟩
    rw [S.out]
    have hB : Below w.heap.size w w3 := (hb1.trans (hb2.mono hb1.size)).trans (hb3.mono (Nat.le_trans hb1.size hb2.size))
    clear hb1 hb2 hb3 hE1 hE2
    go_wp2
    go_ret
    exact ⟨rfl, hB⟩

theorem parts_walk (a0 a1 a2 : Addr) (s : ByteArray) (at0 : Int) (w : World) (hE : Env a0 a1 a2 w) (hs : s.size ≤ maxLen) (hw : (Lit.int .i64 at0).wf = true) :
    Calls Tryd.prog 8 #[.string s, .int .i64 at0] w fun e w' => e = .returned (.bool true) ∧ Below w.heap.size w w' := by
  have hql := cut_le s
  have hat := (bounds_i64 hw).2
  generalize hq : s.extract 0 (min s.size 100) = q at *
  by_cases h : 0 ≤ at0 ∧ at0 ≤ q.size
  · obtain ⟨j, rfl⟩ := Int.eq_ofNat_of_zero_le h.1
    have hj : j ≤ q.size := by omega
    have e1 : cutR q 0 (j : Int) = (q.extract 0 j, 0) := by rw [cutR_ok ⟨by omega, by omega, by omega⟩]; simp
    have e2 : restR q (j : Int) = (q.extract j q.size, 0) := by unfold restR; rw [cutR_ok ⟨by omega, by omega, by omega⟩]; congr 2; omega
    refine parts_of a0 a1 a2 s q _ _ _ 0 0 w hE hs hq hql hat e1 e2 (by rw [ByteArray.size_extract]; omega) (by rw [ByteArray.size_extract]; omega) (.inr ⟨rfl, rfl, ?_, ?_⟩)
    · rw [ByteArray.size_extract]; simp; omega
    · rw [beq_iff_eq]
      congr 1
      have : q.extract 0 j ++ q.extract j q.size = q := by
        rw [ByteArray.extract_append_extract]
        simp
      exact this
  · have e1 : cutR q 0 at0 = (⟨#[]⟩, 11) := cutR_bad (fun hf => h ⟨hf.2.1, by have := hf.2.2; omega⟩)
    have e2 : restR q at0 = (⟨#[]⟩, 11) := cutR_bad (fun hf => h ⟨hf.1, by have := hf.2.1; omega⟩)
    exact parts_of a0 a1 a2 s q _ _ _ 11 11 w hE hs hq hql hat e1 e2 (by decide) (by decide) (.inl ⟨rfl, rfl, rfl, rfl⟩)

set_option maxRecDepth 100000 in
set_option maxHeartbeats 1000000 in
theorem cuts_walk (a0 a1 a2 : Addr) (s : ByteArray) (at0 n : Int) (w : World) (hE : Env a0 a1 a2 w) (hs : s.size ≤ maxLen) (hw : (Lit.int .i64 at0).wf = true) (_ : (Lit.int .i64 n).wf = true) :
    Calls Tryd.prog 4 #[.string s, .int .i64 at0, .int .i64 n] w fun e w' => e = .returned (.bool true) ∧ Below w.heap.size w w' := by
  have hql := cut_le s
  have hat := (bounds_i64 hw).2
  clear hw
  generalize hq : s.extract 0 (min s.size 100) = q at *
  generalize hR : cutR q at0 n = R at *
  generalize hS : restR q at0 = S at *
  obtain ⟨x, c⟩ := R
  obtain ⟨y, d⟩ := S
  have Q := Lib.hid hq
  have HR := Lib.hid hR
  have HS := Lib.hid hS
  clear hq hR hS
  go_enter Tryd.func4, Tryd.ntmps4
  go_wp2_with fail
  refine (shown_any a0 a1 a2 _ hE).mono ?_
  rintro e w1 ⟨rfl, hb1⟩
  have hE1 := hE.below hb1
  go_wp2_with fail
  refine (lawCut_any s _ hs).mono ?_
  rintro e w' ⟨rfl, rfl⟩
  rw [Q.out]
  go_wp2_with fail
  refine (cut_any a0 a1 a2 q _ _ _ hE1 (by omega)).mono ?_
  rintro e w2 ⟨rfl, hb2⟩
  have hE2 := hE1.below hb2
  rw [HR.out]
  go_wp2_with fail
  refine (refCut_any q _ _ _ (by omega) hat).mono ?_
  rintro e w' ⟨rfl, rfl⟩
  rw [HR.out]
  go_wp2_with fail
  refine (rest_any a0 a1 a2 q _ _ hE2 (by omega) hat).mono ?_
  rintro e w3 ⟨rfl, hb3⟩
  rw [HS.out]
  go_wp2_with fail
  refine (refRest_any q _ _ (by omega) hat).mono ?_
  rintro e w' ⟨rfl, rfl⟩
  rw [HS.out]
  have hB : Below w.heap.size w w3 := (hb1.trans (hb2.mono hb1.size)).trans (hb3.mono (Nat.le_trans hb1.size hb2.size))
  clear hb1 hb2 hb3 hE1 hE2
  go_wp2
  go_ret
  exact ⟨by simp, hB⟩
end Go.Proofs.YtjnfalgcfifciaaDoor
