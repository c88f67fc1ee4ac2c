/- A number is decoded from its groups, whatever stands ahead and behind, and groups are those of the number that they tell: the walk of SdnvBack. -/
import Derived.Test.YtajeanmmelldnaaDoorSOne
import Derived.Test.YtajeanmmelldnaaDoorSApart
set_option linter.unusedVariables false
set_option linter.unusedSimpArgs false
namespace Go.Proofs.YtajeanmmelldnaaDoor
open Go.RowKit

set_option maxRecDepth 100000 in
set_option maxHeartbeats 4000000 in
theorem back_of (n : Int) (s t q r a d : ByteArray) (e b at0 f c to g h : Int) (w : World) (hG : EnvE w) (hs : s.size ≤ maxLen) (ht : t.size ≤ maxLen) (hq : s.extract 0 (min s.size 100) = q) (hql : q.size ≤ 100) (hr : t.extract 0 (min t.size 100) = r) (hrl : r.size ≤ 100)
    (hA : encR n = (a, e)) (hal : a.size ≤ 7) (hT : decR (q ++ a ++ r) q.size = (b, at0, f)) (hC : decR r 0 = (c, to, g)) (hD : encR c = (d, h))
    (h1 : (e == 0) = false ∨ (e == 0) = true ∧ (f != 0) = false ∧ (b != n) = false ∧ (at0 != ((q.size : Int) + (a.size : Int))) = false)
    (h2 : ((g != 0) = true ∧ (c == 0) = true ∧ (to == 0) = true) ∨ ∃ j : Nat, to = j ∧ (g != 0) = false ∧ (g == 0) = true ∧ (h == 0) = true ∧ j ≤ r.size ∧ 1 ≤ j ∧ ((r.extract 0 j).toList == d.toList) = true) :
    Calls Tryd.prog 5 #[.int .i64 n, .string s, .string t] w fun e w' => e = .returned (.bool true) ∧ Below w.heap.size w w' := by
  have Q := Lib.hid hq
  have HRR := Lib.hid hr
  have HA := Lib.hid hA
  have HT := Lib.hid hT
  have HC := Lib.hid hC
  have HD := Lib.hid hD
  clear hq hr hA hT hC hD
  rcases h1 with h1 | ⟨h1, h1a, h1b, h1c⟩ <;> rcases h2 with ⟨h2, h2a, h2b⟩ | ⟨j, rfl, h2, h2a, h2b, h2c, h2d, h2e⟩
  all_goals
    go_enter Tryd.func5, Tryd.ntmps5
    go_wp2_with fail
    refine (shown_any _ hG).mono ?_
    rintro e w1 ⟨rfl, hb1⟩
    have hG1 := hG.below hb1
    go_wp2_with fail
    refine (lawCut_any s _ hs).mono ?_
    rintro e w' ⟨rfl, rfl⟩
    rw [Q.out]
    go_wp2_with fail
    refine (lawCut_any t _ ht).mono ?_
    rintro e w' ⟨rfl, rfl⟩
    rw [HRR.out]
    go_wp2_with fail
    refine (encode_any _ _ hG1).mono ?_
    rintro e w2 ⟨rfl, hb2⟩
    have hG2 := hG1.below hb2
    replace hb2 := hb1.trans (hb2.mono hb1.size)
    rw [HA.out]
    go_wp2_with fail
    refine (decode_any _ _ _ hG2 (by simp only [ByteArray.size_append]; omega)).mono ?_
    rintro e w3 ⟨rfl, hb3⟩
    have hG3 := hG2.below hb3
    replace hb3 := hb2.trans (hb3.mono hb2.size)
    rw [HT.out]
    go_wp2_with fail
    refine (decode_any _ _ _ hG3 (by omega)).mono ?_
    rintro e w4 ⟨rfl, hb4⟩
    have hG4 := hG3.below hb4
    replace hb4 := hb3.trans (hb4.mono hb3.size)
    rw [HC.out]
    go_wp2_with fail
    refine (encode_any _ _ hG4).mono ?_
    rintro e w5 ⟨rfl, hb5⟩
    replace hb5 := hb4.trans (hb5.mono hb4.size)
    rw [HD.out]
    have HB := Lib.hid hb5
    clear hb1 hb2 hb3 hb4 hb5 hG1 hG2 hG3 hG4
    go_wp2
    all_goals
      go_ret
      first | exact ⟨rfl, HB.out⟩ | exact ⟨by simp, HB.out⟩

theorem extract_toList (r : ByteArray) (j : Nat) : (r.extract 0 j).toList = r.data.toList.take j := by
  rw [ByteArray.toList_eq]
  show (r.extract 0 j).data.toList = _
  rw [ByteArray.data_extract]
  simp [Array.toList_extract, List.extract]
theorem dropB_app (q : ByteArray) (l : List UInt8) (r : ByteArray) : dropB (q ++ ⟨l.toArray⟩ ++ r) (q.size : Int) = l ++ r.data.toList := by
  rw [dropB_nat, ByteArray.data_append, ByteArray.data_append]
  simp

theorem back_walk (n : Int) (s t : ByteArray) (w : World) (hG : EnvE w) (_ : (Lit.int .i64 n).wf = true) (hs : s.size ≤ maxLen) (ht : t.size ≤ maxLen) :
    Calls Tryd.prog 5 #[.int .i64 n, .string s, .string t] w fun e w' => e = .returned (.bool true) ∧ Below w.heap.size w w' := by
  have hql := cut_le s
  have hrl := cut_le t
  generalize hq : s.extract 0 (min s.size 100) = q at *
  generalize hr : t.extract 0 (min t.size 100) = r at *
  refine back_of n s t q r (encR n).1 (encR (decR r 0).1).1 (encR n).2 (decR (q ++ (encR n).1 ++ r) q.size).1 (decR (q ++ (encR n).1 ++ r) q.size).2.1 (decR (q ++ (encR n).1 ++ r) q.size).2.2 (decR r 0).1 (decR r 0).2.1 (decR r 0).2.2 (encR (decR r 0).1).2 w hG hs ht hq hql hr hrl rfl (encR_size n) rfl rfl rfl ?_ ?_
  · rcases encR_cases n with ⟨_, h⟩ | ⟨m, rfl, hm, h⟩
    · rw [h]; exact .inl rfl
    · have hd : decR (q ++ ⟨(grpL m).toArray⟩ ++ r) (q.size : Int) = ((m : Int), ((q ++ ⟨(grpL m).toArray⟩ ++ r).size : Int) - (r.data.toList.length : Int), 0) := decR_ok (by rw [dropB_app]; exact decL_grp m _ hm)
      rw [h, hd]
      refine .inr ⟨rfl, rfl, by simp, ?_⟩
      have e1 : (q ++ ⟨(grpL m).toArray⟩ ++ r).size = q.size + (⟨(grpL m).toArray⟩ : ByteArray).size + r.size := by simp only [ByteArray.size_append]
      have e2 : r.data.toList.length = r.size := by simp
      show ((((q ++ ⟨(grpL m).toArray⟩ ++ r).size : Int) - (r.data.toList.length : Int)) != ((q.size : Int) + ((⟨(grpL m).toArray⟩ : ByteArray).size : Int))) = false
      rw [e1, e2]
      simp
  · rcases decR_cases r with ⟨k, hd, hR, hk, hk'⟩ | ⟨c, t', hd, hR⟩
    · rw [hR]; exact .inl ⟨hk', rfl, rfl⟩
    · obtain ⟨e, hc⟩ := decL_back hd
      have hg := grpL_length hc
      have hl := congrArg List.length e
      rw [List.length_append] at hl
      have e2 : r.data.toList.length = r.size := by simp
      rw [e2] at hl
      have hE : encR (c : Int) = (⟨(grpL c).toArray⟩, 0) := encR_ok ⟨by omega, by omega⟩
      rw [hR, hE]
      refine .inr ⟨(grpL c).length, ?_, rfl, rfl, rfl, by omega, by omega, ?_⟩
      · show (r.size : Int) - (t'.length : Int) = _
        omega
      · show ((r.extract 0 (grpL c).length).toList == (⟨(grpL c).toArray⟩ : ByteArray).toList) = true
        rw [extract_toList, e, bytes_list (grpL c)]
        simp
end Go.Proofs.YtajeanmmelldnaaDoor
