/- A text is the groups of one number just if decoding ends at its end: the walk of SdnvOne. -/
import Derived.Test.YtajeanmmelldnaaDoorSCodes
set_option linter.unusedVariables false
set_option linter.unusedSimpArgs false
namespace Go.Proofs.YtajeanmmelldnaaDoor
open Go.RowKit

set_option maxRecDepth 100000 in
set_option maxHeartbeats 2000000 in
theorem one_of (s q : ByteArray) (n at0 e : Int) (w : World) (hG : EnvE w) (hs : s.size ≤ maxLen) (hq : s.extract 0 (min s.size 100) = q) (hql : q.size ≤ 100) (hD : decR q 0 = (n, at0, e))
    (h : (∃ k, allL q.data.toList = .error k ∧ (k == 0) = false ∧ ((e == 0) = false ∨ (e == 0) = true ∧ (at0 == (q.size : Int)) = false)) ∨
      ∃ ns, allL q.data.toList = .ok ns ∧ ns.length ≤ 100 ∧ ((((ns.length : Int) == 1) = false ∧ ((e == 0) = false ∨ (e == 0) = true ∧ (at0 == (q.size : Int)) = false)) ∨ (ns.length = 1 ∧ (e == 0) = true ∧ (at0 == (q.size : Int)) = true ∧ intsB (ns.map fun n : Nat => (n : Int)) [n] = true))) :
    Calls Tryd.prog 10 #[.string s] w fun e w' => e = .returned (.bool true) ∧ Below w.heap.size w w' := by
  have Q := Lib.hid hq
  have HD := Lib.hid hD
  clear hq hD
  rcases h with ⟨k, ha, hk, h⟩ | ⟨ns, ha, hl, ⟨h1, h⟩ | ⟨h1, h2, h3, h4⟩⟩
  · have HA := Lib.hid ha
    clear ha
    rcases h with h | ⟨h, h'⟩
    all_goals
      go_enter Tryd.func10, Tryd.ntmps10
      go_wp2_with fail
      refine (shown_any _ hG).mono ?_
      rintro e w1 ⟨rfl, hb1⟩
      have hG1 := hG.below hb1
      go_wp2_with fail
      refine (lawCut_any s _ hs).mono ?_
      rintro e w' ⟨rfl, rfl⟩
      rw [Q.out]
      go_wp2_with fail
      refine (decode_any _ _ _ hG1 (by omega)).mono ?_
      rintro e w2 ⟨rfl, hb2⟩
      have hG2 := hG1.below hb2
      replace hb2 := hb1.trans (hb2.mono hb1.size)
      rw [HD.out]
      go_wp2_with fail
      refine (all_any _ _ hG2 (by omega)).mono ?_
      rintro e w3 ⟨⟨k', ha, rfl⟩ | ⟨ns, A, ha, _, _⟩, hb3⟩
      case inr => rw [HA.out] at ha; cases ha
      obtain rfl : k = k' := by rw [HA.out] at ha; injection ha
      replace hb3 := hb2.trans (hb3.mono hb2.size)
      have HB := Lib.hid hb3
      clear ha hb1 hb2 hb3 hG1 hG2
      go_wp2
      all_goals
        go_ret
        exact ⟨rfl, HB.out⟩
  · have HA := Lib.hid ha
    clear ha
    rcases h with h | ⟨h, h'⟩
    all_goals
      go_enter Tryd.func10, Tryd.ntmps10
      go_wp2_with fail
      refine (shown_any _ hG).mono ?_
      rintro e w1 ⟨rfl, hb1⟩
      have hG1 := hG.below hb1
      go_wp2_with fail
      refine (lawCut_any s _ hs).mono ?_
      rintro e w' ⟨rfl, rfl⟩
      rw [Q.out]
      go_wp2_with fail
      refine (decode_any _ _ _ hG1 (by omega)).mono ?_
      rintro e w2 ⟨rfl, hb2⟩
      have hG2 := hG1.below hb2
      replace hb2 := hb1.trans (hb2.mono hb1.size)
      rw [HD.out]
      go_wp2_with fail
      refine (all_any _ _ hG2 (by omega)).mono ?_
      rintro e w3 ⟨⟨k', ha, _⟩ | ⟨ns', A, ha, hr, rfl⟩, hb3⟩
      case inl => rw [HA.out] at ha; cases ha
      obtain rfl : ns = ns' := by rw [HA.out] at ha; injection ha
      replace hb3 := hb2.trans (hb3.mono hb2.size)
      have HB := Lib.hid hb3
      clear ha hr hb1 hb2 hb3 hG1 hG2
      go_wp2
      all_goals
        go_ret
        exact ⟨rfl, HB.out⟩
  · have HA := Lib.hid ha
    have HI := Lib.hid h4
    have HL := Lib.hid h1
    clear ha h4
    rw [h1] at hl
    clear h1
    go_enter Tryd.func10, Tryd.ntmps10
    go_wp2_with fail
    refine (shown_any _ hG).mono ?_
    rintro e w1 ⟨rfl, hb1⟩
    have hG1 := hG.below hb1
    go_wp2_with fail
    refine (lawCut_any s _ hs).mono ?_
    rintro e w' ⟨rfl, rfl⟩
    rw [Q.out]
    go_wp2_with fail
    refine (decode_any _ _ _ hG1 (by omega)).mono ?_
    rintro e w2 ⟨rfl, hb2⟩
    have hG2 := hG1.below hb2
    replace hb2 := hb1.trans (hb2.mono hb1.size)
    rw [HD.out]
    go_wp2_with fail
    refine (all_any _ _ hG2 (by omega)).mono ?_
    rintro e w3 ⟨⟨k', ha, _⟩ | ⟨ns', A, ha, hr, rfl⟩, hb3⟩
    case inl => rw [HA.out] at ha; cases ha
    obtain rfl : ns = ns' := by rw [HA.out] at ha; injection ha
    replace hb3 := hb2.trans (hb3.mono hb2.size)
    have HB := Lib.hid hb3
    have HR := Lib.hid hr
    rw [HL.out]
    clear ha hr hb1 hb2 hb3 hG1 hG2
    go_wp2_with fail
    have hi := ints_any (ns.map fun n : Nat => (n : Int)) [n] A (some ⟨w3.heap.size, 0, none⟩) 1 1 (w3.alloc (.cells #[.int .i64 n] 3)) (by simp [HL.out]) (by simp) (HR.out.below ((Below.refl _ _).alloc (Nat.le_refl _) _)) (IntsRd.new w3 [n] _ rfl _)
    rw [List.length_map, HL.out] at hi
    refine hi.mono ?_
    rintro e w6 ⟨rfl, hb6⟩
    rw [HI.out]
    have HB6 := Lib.hid hb6
    clear hb6 hi
    go_wp2
    go_ret
    exact ⟨rfl, HB.out.trans (((Below.refl _ _).alloc (Nat.le_refl _) _).trans (HB6.out.mono (by simp)) |>.mono HB.out.size)⟩

/-- The two ways of Decode at the beginning. -/
theorem decR_cases (q : ByteArray) : (∃ k, decL q.data.toList = .error k ∧ decR q 0 = (0, 0, k) ∧ (k == 0) = false ∧ (k != 0) = true) ∨ ∃ n t, decL q.data.toList = .ok (n, t) ∧ decR q 0 = ((n : Int), (q.size : Int) - (t.length : Int), 0) := by
  cases h : decL q.data.toList with
  | error k =>
    refine .inl ⟨k, rfl, decR_bad (by rw [dropB_zero]; exact h), ?_⟩
    rcases decL_err h with rfl | rfl | rfl <;> exact ⟨rfl, rfl⟩
  | ok p => exact .inr ⟨p.1, p.2, rfl, decR_ok (by rw [dropB_zero]; exact h)⟩

theorem one_walk (s : ByteArray) (w : World) (hG : EnvE w) (hs : s.size ≤ maxLen) :
    Calls Tryd.prog 10 #[.string s] w fun e w' => e = .returned (.bool true) ∧ Below w.heap.size w w' := by
  have hql := cut_le s
  generalize hq : s.extract 0 (min s.size 100) = q at *
  refine one_of s q (decR q 0).1 (decR q 0).2.1 (decR q 0).2.2 w hG hs hq hql rfl ?_
  have hlen : q.data.toList.length = q.size := by simp
  rcases decR_cases q with ⟨k, hd, hR, hk, _⟩ | ⟨n, t, hd, hR⟩
  · rw [hR]
    by_cases he : q.data.toList = []
    · refine .inr ⟨[], by rw [he]; rfl, by simp, .inl ⟨rfl, .inl hk⟩⟩
    · exact .inl ⟨k, allL_error hd he, hk, .inl hk⟩
  · rw [hR]
    obtain ⟨e, hn⟩ := decL_back hd
    have hg := grpL_length hn
    have hl := congrArg List.length e
    rw [List.length_append, hlen] at hl
    by_cases ht : t = []
    · subst ht
      refine .inr ⟨[n], by rw [allL_ok hd]; rfl, by simp, .inr ⟨rfl, rfl, by simp, ?_⟩⟩
      exact intsB_self [(n : Int)]
    · have htl : 0 < t.length := List.length_pos_iff.2 ht
      have hne : (((q.size : Int) - (t.length : Int)) == (q.size : Int)) = false := by simp; omega
      cases ha : allL t with
      | error k =>
        refine .inl ⟨k, by rw [allL_ok hd, ha]; rfl, allL_err ha, .inr ⟨rfl, hne⟩⟩
      | ok ms =>
        have hb := allL_back _ t (Nat.le_refl _) ms ha
        refine .inr ⟨n :: ms, by rw [allL_ok hd, ha]; rfl, by simp; omega, .inl ⟨?_, .inr ⟨rfl, hne⟩⟩⟩
        have : ms ≠ [] := by
          rintro rfl
          exact ht hb.1
        have : 0 < ms.length := List.length_pos_iff.2 this
        simp
        omega
end Go.Proofs.YtajeanmmelldnaaDoor
