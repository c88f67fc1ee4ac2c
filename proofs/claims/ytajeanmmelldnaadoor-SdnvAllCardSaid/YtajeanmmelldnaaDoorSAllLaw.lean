/- Numbers are all that is told of their groups, and a text is the groups of all that it tells: the walk of SdnvAll. -/
import Derived.Test.YtajeanmmelldnaaDoorSLists
import Derived.Test.YtajeanmmelldnaaDoorSApart
set_option linter.unusedVariables false
set_option linter.unusedSimpArgs false
namespace Go.Proofs.YtajeanmmelldnaaDoor
open Go.RowKit

theorem nums_back (ys : List Int) (h : ∀ x ∈ ys, Num x) : (ys.map Int.toNat).map (fun n : Nat => (n : Int)) = ys := by
  rw [List.map_map]
  conv => rhs; rw [← List.map_id ys]
  apply List.map_congr_left
  intro x hx
  have := (h x hx).1
  simp
  omega
theorem nums_le (ys : List Int) (h : ∀ x ∈ ys, Num x) : ∀ n ∈ ys.map Int.toNat, n ≤ 281474976710655 := by
  intro n hn
  obtain ⟨x, hx, rfl⟩ := List.mem_map.1 hn
  have := h x hx
  unfold Num at this
  omega
theorem nums_num (ns : List Nat) (h : ∀ n ∈ ns, n ≤ 281474976710655) : ∀ x ∈ ns.map (fun n : Nat => (n : Int)), Num x := by
  intro x hx
  obtain ⟨n, hn, rfl⟩ := List.mem_map.1 hx
  have := h n hn
  exact ⟨by omega, by omega⟩
theorem cat_nums (ns : List Nat) : catI (ns.map fun n : Nat => (n : Int)) = catL ns := by
  unfold catI
  rw [List.map_map]
  congr 1
  conv => rhs; rw [← List.map_id ns]
  apply List.map_congr_left
  intro x _
  simp

/-- What the second half of SdnvAll comes to. -/
theorem all_back (q : ByteArray) (hq : q.size ≤ 100) : (∃ k, allL q.data.toList = .error k ∧ (k != 0) = true ∧ (k == 0) = false) ∨ ∃ ns, allL q.data.toList = .ok ns ∧ ns.length ≤ 100 ∧ listR (ns.map fun n : Nat => (n : Int)) = (q, 0) := by
  cases h : allL q.data.toList with
  | error k =>
    have := allL_err h
    refine .inl ⟨k, rfl, ?_, this⟩
    simpa using this
  | ok ns =>
    obtain ⟨e, hn, hl⟩ := allL_back _ _ (Nat.le_refl _) ns h
    refine .inr ⟨ns, rfl, by simp at hl; omega, ?_⟩
    rw [listR_ok (nums_num ns hn), cat_nums, ← e]

set_option maxRecDepth 100000 in
set_option maxHeartbeats 8000000 in
theorem all_ok (xs ys : List Int) (A : Option Addr) (c : Nat) (s q : ByteArray) (w : World) (hG : EnvE w) (hl : xs.length ≤ c) (hc : c ≤ maxLen) (hs : s.size ≤ maxLen) (hq : s.extract 0 (min s.size 100) = q) (hql : q.size ≤ 100)
    (hF : ys.length = min xs.length 30) (hT : IntsRd w A ys) (hfl : ys.length ≤ 30) (hN : ∀ x ∈ ys, Num x) :
    Calls Tryd.prog 7 #[.slice A xs.length c, .string s] w fun e w' => e = .returned (.bool true) ∧ Below w.heap.size w w' := by
  have HF := Lib.hid hF
  have HT := Lib.hid hT
  have Q := Lib.hid hq
  have HLR := Lib.hid (listR_ok hN)
  have hcl := catI_length ys hN
  have hal : (⟨(catI ys).toArray⟩ : ByteArray).size ≤ 1000000 := by show (catI ys).toArray.size ≤ _; simp; omega
  have HAL := Lib.hid (show allL (⟨(catI ys).toArray⟩ : ByteArray).data.toList = .ok (ys.map Int.toNat) by
    show allL (catI ys) = _
    have h := allL_cat (ys.map Int.toNat) [] (nums_le ys hN)
    rw [List.append_nil, allL_nil] at h
    show allL (catL (ys.map Int.toNat)) = _
    simpa [preE] using h)
  have HNB := Lib.hid (nums_back ys hN)
  generalize (⟨(catI ys).toArray⟩ : ByteArray) = a at *
  have HI := Lib.hid (intsB_self ys)
  clear hF hT hq hN hcl
  rcases all_back q hql with ⟨k, h0, hk, hk'⟩ | ⟨ns, h0, hn, hLR⟩
  all_goals
    have HQ := Lib.hid h0
    clear h0
  case' inr =>
    have HLQ := Lib.hid hLR
    clear hLR
  rotate_left
  all_goals
    go_enter Tryd.func7, Tryd.ntmps7
    go_wp2_with fail
    refine (shown_any _ hG).mono ?_
    rintro e w1 ⟨rfl, hb1⟩
    have hG1 := hG.below hb1
    go_wp2_with fail
    refine (lawFew_any A _ c _ hl hc).mono ?_
    rintro e w' ⟨rfl, rfl⟩
    rw [← HF.out]
    go_wp2_with fail
    refine (lawCut_any s _ hs).mono ?_
    rintro e w' ⟨rfl, rfl⟩
    rw [Q.out]
    go_wp2_with fail
    refine (list_any ys A c _ hG1 (by omega) (HT.out.below hb1)).mono ?_
    rintro e w2 ⟨rfl, hb2⟩
    have hG2 := hG1.below hb2
    replace hb2 := hb1.trans (hb2.mono hb1.size)
    rw [HLR.out]
    go_wp2_with fail
    refine (all_any _ _ hG2 hal).mono ?_
    rintro e w3 ⟨⟨k', ha, _⟩ | ⟨ms, B, ha, hB, rfl⟩, hb3⟩
    case inl => rw [HAL.out] at ha; cases ha
    obtain rfl : ys.map Int.toNat = ms := by rw [HAL.out] at ha; injection ha
    rw [HNB.out] at hB
    rw [List.length_map]
    have hG3 := hG2.below hb3
    replace hb3 := hb2.trans (hb3.mono hb2.size)
    have HIB := Lib.hid hB
    clear ha hB
    go_wp2_with fail
    refine (ints_any ys ys B A _ _ _ (by omega) (by omega) HIB.out (HT.out.below hb3)).mono ?_
    rintro e w4 ⟨rfl, hb4⟩
    rw [HI.out]
    have hG4 := hG3.below hb4
    replace hb4 := hb3.trans (hb4.mono hb3.size)
    go_wp2_with fail
    refine (all_any _ _ hG4 (by omega)).mono ?_
    rintro e w5 ⟨⟨k', ha, rfl⟩ | ⟨ms, B', ha, hB, rfl⟩, hb5⟩
  all_goals try (rw [HQ.out] at ha; cases ha; done)
  next =>
    obtain rfl : k = k' := by rw [HQ.out] at ha; injection ha
    have hG5 := hG4.below hb5
    replace hb5 := hb4.trans (hb5.mono hb4.size)
    have HL0 := Lib.hid (show listR [] = (⟨#[]⟩, 0) by rfl)
    clear ha
    go_wp2_with fail
    refine (list_any [] none 0 _ hG5 (by simp) (IntsRd.nil _ _)).mono ?_
    rintro e w6 ⟨rfl, hb6⟩
    rw [HL0.out]
    replace hb6 := hb5.trans (hb6.mono hb5.size)
    have HB := Lib.hid hb6
    clear hb1 hb2 hb3 hb4 hb5 hb6 hG1 hG2 hG3 hG4 hG5
    go_wp2
    all_goals
      go_ret
      exact ⟨by simp, HB.out⟩
  next =>
    obtain rfl : ns = ms := by rw [HQ.out] at ha; injection ha
    have hG5 := hG4.below hb5
    replace hb5 := hb4.trans (hb5.mono hb4.size)
    have hli := list_any (ns.map fun n : Nat => (n : Int)) B' ns.length _ hG5 (by simp; omega) hB
    rw [List.length_map, HLQ.out] at hli
    have HLI := Lib.hid hli
    clear ha hB hli
    go_wp2_with fail
    refine HLI.out.mono ?_
    rintro e w6 ⟨rfl, hb6⟩
    replace hb6 := hb5.trans (hb6.mono hb5.size)
    have HB := Lib.hid hb6
    clear hb1 hb2 hb3 hb4 hb5 hb6 hG1 hG2 hG3 hG4 hG5
    go_wp2
    all_goals
      go_ret
      exact ⟨by simp, HB.out⟩

set_option maxRecDepth 100000 in
set_option maxHeartbeats 8000000 in
theorem all_bad (xs ys : List Int) (A : Option Addr) (c : Nat) (s q : ByteArray) (w : World) (hG : EnvE w) (hl : xs.length ≤ c) (hc : c ≤ maxLen) (hs : s.size ≤ maxLen) (hq : s.extract 0 (min s.size 100) = q) (hql : q.size ≤ 100)
    (hF : ys.length = min xs.length 30) (hT : IntsRd w A ys) (hfl : ys.length ≤ 30) (hN : ¬ ∀ x ∈ ys, Num x) :
    Calls Tryd.prog 7 #[.slice A xs.length c, .string s] w fun e w' => e = .returned (.bool true) ∧ Below w.heap.size w w' := by
  have HF := Lib.hid hF
  have HT := Lib.hid hT
  have Q := Lib.hid hq
  have HLR := Lib.hid (listR_bad hN)
  have HAL := Lib.hid (show allL (⟨#[]⟩ : ByteArray).data.toList = .ok [] by rfl)
  clear hF hT hq hN
  rcases all_back q hql with ⟨k, h0, hk, hk'⟩ | ⟨ns, h0, hn, hLR⟩
  all_goals
    have HQ := Lib.hid h0
    clear h0
  case' inr =>
    have HLQ := Lib.hid hLR
    clear hLR
  rotate_left
  all_goals
    go_enter Tryd.func7, Tryd.ntmps7
    go_wp2_with fail
    refine (shown_any _ hG).mono ?_
    rintro e w1 ⟨rfl, hb1⟩
    have hG1 := hG.below hb1
    go_wp2_with fail
    refine (lawFew_any A _ c _ hl hc).mono ?_
    rintro e w' ⟨rfl, rfl⟩
    rw [← HF.out]
    go_wp2_with fail
    refine (lawCut_any s _ hs).mono ?_
    rintro e w' ⟨rfl, rfl⟩
    rw [Q.out]
    go_wp2_with fail
    refine (list_any ys A c _ hG1 (by omega) (HT.out.below hb1)).mono ?_
    rintro e w2 ⟨rfl, hb2⟩
    have hG2 := hG1.below hb2
    replace hb2 := hb1.trans (hb2.mono hb1.size)
    rw [HLR.out]
    go_wp2_with fail
    refine (all_any _ _ hG2 (by decide)).mono ?_
    rintro e w3 ⟨⟨k', ha, _⟩ | ⟨ms, B, ha, hB, rfl⟩, hb3⟩
    case inl => rw [HAL.out] at ha; cases ha
    obtain rfl : [] = ms := by rw [HAL.out] at ha; injection ha
    have hG3 := hG2.below hb3
    replace hb3 := hb2.trans (hb3.mono hb2.size)
    clear ha hB
    go_wp2_with fail
    refine (all_any _ _ hG3 (by omega)).mono ?_
    rintro e w5 ⟨⟨k', ha, rfl⟩ | ⟨ms, B', ha, hB, rfl⟩, hb5⟩
  all_goals try (rw [HQ.out] at ha; cases ha; done)
  next =>
    obtain rfl : k = k' := by rw [HQ.out] at ha; injection ha
    have hG5 := hG3.below hb5
    replace hb5 := hb3.trans (hb5.mono hb3.size)
    have HL0 := Lib.hid (show listR [] = (⟨#[]⟩, 0) by rfl)
    clear ha
    go_wp2_with fail
    refine (list_any [] none 0 _ hG5 (by simp) (IntsRd.nil _ _)).mono ?_
    rintro e w6 ⟨rfl, hb6⟩
    rw [HL0.out]
    replace hb6 := hb5.trans (hb6.mono hb5.size)
    have HB := Lib.hid hb6
    clear hb1 hb2 hb3 hb5 hb6 hG1 hG2 hG3 hG5
    go_wp2
    all_goals
      go_ret
      exact ⟨by simp, HB.out⟩
  next =>
    obtain rfl : ns = ms := by rw [HQ.out] at ha; injection ha
    have hG5 := hG3.below hb5
    replace hb5 := hb3.trans (hb5.mono hb3.size)
    have hli := list_any (ns.map fun n : Nat => (n : Int)) B' ns.length _ hG5 (by simp; omega) hB
    rw [List.length_map, HLQ.out] at hli
    have HLI := Lib.hid hli
    clear ha hB hli
    go_wp2_with fail
    refine HLI.out.mono ?_
    rintro e w6 ⟨rfl, hb6⟩
    replace hb6 := hb5.trans (hb6.mono hb5.size)
    have HB := Lib.hid hb6
    clear hb1 hb2 hb3 hb5 hb6 hG1 hG2 hG3 hG5
    go_wp2
    all_goals
      go_ret
      exact ⟨by simp, HB.out⟩

theorem all_walk (xs : List Int) (A : Option Addr) (c : Nat) (s : ByteArray) (w : World) (hG : EnvE w) (hr : IntsRd w A xs) (hl : xs.length ≤ c) (hc : c ≤ maxLen) (hs : s.size ≤ maxLen) :
    Calls Tryd.prog 7 #[.slice A xs.length c, .string s] w fun e w' => e = .returned (.bool true) ∧ Below w.heap.size w w' := by
  by_cases h : ∀ x ∈ xs.take 30, Num x
  · exact all_ok xs _ A c s _ w hG hl hc hs rfl (cut_le s) (few_len xs) (hr.take 30) (List.length_take_le _ _) h
  · exact all_bad xs _ A c s _ w hG hl hc hs rfl (cut_le s) (few_len xs) (hr.take 30) (List.length_take_le _ _) h
end Go.Proofs.YtajeanmmelldnaaDoor
