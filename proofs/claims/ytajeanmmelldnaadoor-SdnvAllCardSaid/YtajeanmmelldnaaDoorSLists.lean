/- Groups of many numbers, all numbers of a text are the document's: the walk of SdnvLists. -/
import Derived.Test.YtajeanmmelldnaaDoorSCodes
set_option linter.unusedVariables false
set_option linter.unusedSimpArgs false
namespace Go.Proofs.YtajeanmmelldnaaDoor
open Go.RowKit

/-- The first thirty, and how they lie. -/
theorem few_len (xs : List Int) : (xs.take 30).length = min xs.length 30 := by rw [List.length_take]; omega

set_option maxRecDepth 100000 in
set_option maxHeartbeats 4000000 in
theorem lists_walk (xs : List Int) (A : Option Addr) (c : Nat) (s : ByteArray) (w : World) (hG : EnvE w) (hr : IntsRd w A xs) (hl : xs.length ≤ c) (hc : c ≤ maxLen) (hs : s.size ≤ maxLen) :
    Calls Tryd.prog 4 #[.slice A xs.length c, .string s] w fun e w' => e = .returned (.bool true) ∧ Below w.heap.size w w' := by
  have hql := cut_le s
  generalize hq : s.extract 0 (min s.size 100) = q at *
  have HF := Lib.hid (few_len xs)
  have HT := Lib.hid (hr.take 30)
  have hfl : (xs.take 30).length ≤ 30 := List.length_take_le _ _
  generalize xs.take 30 = ys at *
  generalize hR : listR ys = R
  obtain ⟨x, z⟩ := R
  have HR := Lib.hid hR
  have Q := Lib.hid hq
  clear hq hr hR
  go_enter Tryd.func4, Tryd.ntmps4
  go_wp2_with fail
  refine (shown_any _ hG).mono ?_
  rintro e w1 ⟨rfl, hb1⟩
  have hG1 := hG.below hb1
  go_wp2_with fail
  refine (lawFew_any A _ c _ hl hc).mono ?_
  rintro e w' ⟨rfl, rfl⟩
  rw [← HF.out]
  go_wp2_with fail
  refine (lawCut_any s _ hs).mono ?_
  rintro e w' ⟨rfl, rfl⟩
  rw [Q.out]
  go_wp2_with fail
  refine (list_any ys A c _ hG1 (by omega) (HT.out.below hb1)).mono ?_
  rintro e w2 ⟨rfl, hb2⟩
  have hG2 := hG1.below hb2
  replace hb2 := hb1.trans (hb2.mono hb1.size)
  rw [HR.out]
  go_wp2_with fail
  refine (refList_any ys A c _ (by omega) (HT.out.below hb2)).mono ?_
  rintro e w3 ⟨rfl, hb3⟩
  have hG3 := hG2.below hb3
  replace hb3 := hb2.trans (hb3.mono hb2.size)
  rw [HR.out]
  go_wp2_with fail
  refine (all_any _ _ hG3 (by omega)).mono ?_
  rintro e w4 ⟨⟨k, ha, rfl⟩ | ⟨ns, B, ha, hB, rfl⟩, hb4⟩
  · replace hb4 := hb3.trans (hb4.mono hb3.size)
    go_wp2_with fail
    refine (refAll_any _ _ (by omega)).mono ?_
    rintro e w5 ⟨⟨k', ha', rfl⟩ | ⟨ns', B', c', ha', hB', rfl⟩, hb5⟩
    · obtain rfl : k = k' := by rw [ha] at ha'; injection ha'
      replace hb5 := hb4.trans (hb5.mono hb4.size)
      have HB := Lib.hid hb5
      have HI := Lib.hid (intsB_self [])
      clear ha ha' hb1 hb2 hb3 hb4 hb5 hG1 hG2 hG3
      go_wp2_with fail
      refine (ints_any [] [] none none 0 0 _ (by simp) (by simp) (IntsRd.nil _ _) (IntsRd.nil _ _)).mono ?_
      rintro e w6 ⟨rfl, hb6⟩
      rw [HI.out]
      have HB6 := Lib.hid hb6
      clear hb6
      go_wp2
      go_ret
      exact ⟨by simp, HB.out.trans (HB6.out.mono HB.out.size)⟩
    · rw [ha] at ha'; cases ha'
  · replace hb4 := hb3.trans (hb4.mono hb3.size)
    have HB4 := Lib.hid hB
    clear hB
    go_wp2_with fail
    refine (refAll_any _ _ (by omega)).mono ?_
    rintro e w5 ⟨⟨k', ha', rfl⟩ | ⟨ns', B', c', ha', hB', rfl⟩, hb5⟩
    · rw [ha] at ha'; cases ha'
    · obtain rfl : ns = ns' := by rw [ha] at ha'; injection ha'
      have hnl := (allL_back _ _ (Nat.le_refl _) ns ha).2.2
      have hll : ns.length ≤ 100 := by simp at hnl; omega
      have HB5 := Lib.hid hB'
      have HBC := Lib.hid (HB4.out.below hb5)
      replace hb5 := hb4.trans (hb5.mono hb4.size)
      have HB := Lib.hid hb5
      have HI := Lib.hid (intsB_self (ns.map fun n : Nat => (n : Int)))
      have hi := ints_any (ns.map fun n : Nat => (n : Int)) (ns.map fun n : Nat => (n : Int)) B B' ns.length c' w5 (by simp; omega) (by simp; omega) HBC.out HB5.out
      rw [List.length_map] at hi
      have HIN := Lib.hid hi
      clear ha ha' hb1 hb2 hb3 hb4 hb5 hG1 hG2 hG3 hB' hi hnl
      go_wp2_with fail
      refine HIN.out.mono ?_
      rintro e w6 ⟨rfl, hb6⟩
      rw [HI.out]
      have HB6 := Lib.hid hb6
      clear hb6
      go_wp2
      go_ret
      exact ⟨by simp, HB.out.trans (HB6.out.mono HB.out.size)⟩
end Go.Proofs.YtajeanmmelldnaaDoor
