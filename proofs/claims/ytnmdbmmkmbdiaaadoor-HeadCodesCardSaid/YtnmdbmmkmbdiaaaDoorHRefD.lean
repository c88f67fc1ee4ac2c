/- The document's own Decode of heads answers as package head's does: for every text and place. -/
import Derived.Test.YtnmdbmmkmbdiaaaDoorHRefs
set_option linter.unusedVariables false
set_option linter.unusedSimpArgs false
namespace Go.Proofs.YtnmdbmmkmbdiaaaDoor
open Go.RowKit

set_option maxRecDepth 100000 in
set_option maxHeartbeats 1000000 in
theorem rdecode_out (s : ByteArray) (at0 : Int) (w : World) (hs : s.size ≤ 1000000) (h : at0 < 0 ∨ (s.size : Int) ≤ at0) :
    Calls Tryd.prog 15 #[.string s, .int .i64 at0] w fun e w' => e = .returned (.tuple #[.int .i64 0, .int .i64 0, .int .i64 0, .int .i64 11]) ∧ Below w.heap.size w w' := by
  have hh : decide (at0 < 0) = true ∨ decide (at0 < 0) = false ∧ decide ((s.size : Int) ≤ at0) = true := by
    by_cases h0 : at0 < 0
    · exact .inl (by simpa using h0)
    · exact .inr ⟨by simpa using h0, by simp; omega⟩
  clear h
  rcases hh with h | ⟨h, h1⟩
  all_goals
    go_enter Tryd.func15, Tryd.ntmps15
    go_wp2
    exact bodyPost_ret (v := .tuple #[.int .i64 0, .int .i64 0, .int .i64 0, .int .i64 11]) (by simp [results, Tryd.results15, go_sem]) rfl ⟨rfl, Below.refl _ _⟩

set_option maxRecDepth 100000 in
set_option maxHeartbeats 1000000 in
theorem rdecode_bad (s : ByteArray) (i : Nat) (w : World) (hs : s.size ≤ 1000000) (hi : i < s.size) (m t : Int) (hm : ((s[i].toNat : Nat) : Int) / 32 = m) (ht : ((s[i].toNat : Nat) : Int) % 32 = t) (h : majB m = false ∨ majB m = true ∧ decide (27 < t) = true) :
    Calls Tryd.prog 15 #[.string s, .int .i64 (i : Int)] w fun e w' => e = .returned (.tuple #[.int .i64 0, .int .i64 0, .int .i64 0, .int .i64 20]) ∧ Below w.heap.size w w' := by
  have d0 : decide ((i : Int) < 0) = false := by simp
  have d1 : decide (s.size ≤ i) = false := by simpa using hi
  have hb := s[i].toNat_lt
  rcases h with h | ⟨h, h1⟩
  all_goals
    go_enter Tryd.func15, Tryd.ntmps15
    go_wp2_with (go_at_call 20; refine (rmajor_any _ _).mono ?_; rintro e w' ⟨rfl, rfl⟩)
    exact bodyPost_ret (v := .tuple #[.int .i64 0, .int .i64 0, .int .i64 0, .int .i64 20]) (by simp [results, Tryd.results15, go_sem]) rfl ⟨rfl, Below.refl _ _⟩

set_option maxRecDepth 100000 in
set_option maxHeartbeats 2000000 in
theorem rdecode_small (s : ByteArray) (i : Nat) (w : World) (hs : s.size ≤ 1000000) (hi : i < s.size) (m t : Int) (hm : ((s[i].toNat : Nat) : Int) / 32 = m) (ht : ((s[i].toNat : Nat) : Int) % 32 = t) (h : majB m = true) (h27 : decide (27 < t) = false) (n : Nat) (hn : t = (n : Int)) (h24 : n < 24) :
    Calls Tryd.prog 15 #[.string s, .int .i64 (i : Int)] w fun e w' => e = .returned (.tuple #[.int .i64 m, .int .i64 (n : Int), .int .i64 ((i : Int) + 1), .int .i64 0]) ∧ Below w.heap.size w w' := by
  have d0 : decide ((i : Int) < 0) = false := by simp
  have d1 : decide (s.size ≤ i) = false := by simpa using hi
  have hb := s[i].toNat_lt
  subst hn
  have d4 : decide (24 ≤ (n : Int)) = false := by simp; omega
  have HW := Lib.hid (show wid n = 0 by unfold wid; exact if_pos h24)
  go_enter Tryd.func15, Tryd.ntmps15
  go_wp2_with (go_at_call 20; refine (rmajor_any _ _).mono ?_; rintro e w' ⟨rfl, rfl⟩)
  refine (rwidth_any _ _ (by omega)).mono ?_
  rintro e w' ⟨rfl, rfl⟩
  rw [HW.out]
  go_wp2
  exact bodyPost_ret (v := .tuple #[.int .i64 m, .int .i64 (n : Int), .int .i64 ((i : Int) + 1), .int .i64 0]) (by simp [results, Tryd.results15, go_sem]) rfl ⟨rfl, Below.refl _ _⟩

set_option maxRecDepth 100000 in
set_option maxHeartbeats 2000000 in
theorem rdecode_take (s : ByteArray) (i : Nat) (w : World) (hs : s.size ≤ 1000000) (hi : i < s.size) (m t : Int) (hm : ((s[i].toNat : Nat) : Int) / 32 = m) (ht : ((s[i].toNat : Nat) : Int) % 32 = t) (h : majB m = true) (h27 : decide (27 < t) = false) (h24 : decide (24 ≤ t) = true) (k : Nat) (hk8 : k ≤ 8) (hidx : ∀ w, (Instr.index 56 (.agg #[.int .i64 1, .int .i64 2, .int .i64 4, .int .i64 8]) (.int .i64 (t - 24))).run Tryd.prog w = .ok (.int .i64 (k : Int)) w) (x c : Int) (hx : takeR s ((i : Int) + 1) (k : Int) = (x, c)) (hc : (c != 0) = true) :
    Calls Tryd.prog 15 #[.string s, .int .i64 (i : Int)] w fun e w' => e = .returned (.tuple #[.int .i64 0, .int .i64 0, .int .i64 0, .int .i64 c]) ∧ Below w.heap.size w w' := by
  have d0 : decide ((i : Int) < 0) = false := by simp
  have d1 : decide (s.size ≤ i) = false := by simpa using hi
  have hb := s[i].toNat_lt
  have hidx0 := hidx w
  have HX := Lib.hid hx
  clear hidx hx
  have ht24 : 24 ≤ t := by simpa using h24
  have ht27 : t ≤ 27 := by simpa using h27
  go_enter Tryd.func15, Tryd.ntmps15
  go_wp2_with (go_at_call 20; refine (rmajor_any _ _).mono ?_; rintro e w' ⟨rfl, rfl⟩)
  refine (refTake_any s _ _ _ (by omega) (by omega)).mono ?_
  rintro e w' ⟨rfl, rfl⟩
  rw [HX.out]
  go_wp2
  exact bodyPost_ret (v := .tuple #[.int .i64 0, .int .i64 0, .int .i64 0, .int .i64 c]) (by simp [results, Tryd.results15, go_sem]) rfl ⟨rfl, Below.refl _ _⟩

set_option maxRecDepth 100000 in
set_option maxHeartbeats 2000000 in
theorem rdecode_form (s : ByteArray) (i : Nat) (w : World) (hs : s.size ≤ 1000000) (hi : i < s.size) (m t : Int) (hm : ((s[i].toNat : Nat) : Int) / 32 = m) (ht : ((s[i].toNat : Nat) : Int) % 32 = t) (h : majB m = true) (h27 : decide (27 < t) = false) (h24 : decide (24 ≤ t) = true) (k : Nat) (hk8 : k ≤ 8) (hidx : ∀ w, (Instr.index 56 (.agg #[.int .i64 1, .int .i64 2, .int .i64 4, .int .i64 8]) (.int .i64 (t - 24))).run Tryd.prog w = .ok (.int .i64 (k : Int)) w) (x : Nat) (hxm : x ≤ 281474976710655) (hx : takeR s ((i : Int) + 1) (k : Int) = ((x : Int), 0)) (j : Nat) (hj : wid x = j) (hne : ((j : Int) != (k : Int)) = true) :
    Calls Tryd.prog 15 #[.string s, .int .i64 (i : Int)] w fun e w' => e = .returned (.tuple #[.int .i64 0, .int .i64 0, .int .i64 0, .int .i64 20]) ∧ Below w.heap.size w w' := by
  have d0 : decide ((i : Int) < 0) = false := by simp
  have d1 : decide (s.size ≤ i) = false := by simpa using hi
  have hb := s[i].toNat_lt
  have hidx0 := hidx w
  have HX := Lib.hid hx
  clear hidx hx
  have ht24 : 24 ≤ t := by simpa using h24
  have ht27 : t ≤ 27 := by simpa using h27
  have HJ := Lib.hid hj
  clear hj
  go_enter Tryd.func15, Tryd.ntmps15
  go_wp2_with (go_at_call 20; refine (rmajor_any _ _).mono ?_; rintro e w' ⟨rfl, rfl⟩)
  refine (refTake_any s _ _ _ (by omega) (by omega)).mono ?_
  rintro e w' ⟨rfl, rfl⟩
  rw [HX.out]
  go_wp2_with fail
  refine (rwidth_any _ _ hxm).mono ?_
  rintro e w' ⟨rfl, rfl⟩
  rw [HJ.out]
  go_wp2
  exact bodyPost_ret (v := .tuple #[.int .i64 0, .int .i64 0, .int .i64 0, .int .i64 20]) (by simp [results, Tryd.results15, go_sem]) rfl ⟨rfl, Below.refl _ _⟩

set_option maxRecDepth 100000 in
set_option maxHeartbeats 2000000 in
theorem rdecode_ok (s : ByteArray) (i : Nat) (w : World) (hs : s.size ≤ 1000000) (hi : i < s.size) (m t : Int) (hm : ((s[i].toNat : Nat) : Int) / 32 = m) (ht : ((s[i].toNat : Nat) : Int) % 32 = t) (h : majB m = true) (h27 : decide (27 < t) = false) (h24 : decide (24 ≤ t) = true) (k : Nat) (hk8 : k ≤ 8) (hidx : ∀ w, (Instr.index 56 (.agg #[.int .i64 1, .int .i64 2, .int .i64 4, .int .i64 8]) (.int .i64 (t - 24))).run Tryd.prog w = .ok (.int .i64 (k : Int)) w) (x : Nat) (hxm : x ≤ 281474976710655) (hx : takeR s ((i : Int) + 1) (k : Int) = ((x : Int), 0)) (j : Nat) (hj : wid x = j) (hne : ((j : Int) != (k : Int)) = false) :
    Calls Tryd.prog 15 #[.string s, .int .i64 (i : Int)] w fun e w' => e = .returned (.tuple #[.int .i64 m, .int .i64 (x : Int), .int .i64 ((i : Int) + 1 + (k : Int)), .int .i64 0]) ∧ Below w.heap.size w w' := by
  have d0 : decide ((i : Int) < 0) = false := by simp
  have d1 : decide (s.size ≤ i) = false := by simpa using hi
  have hb := s[i].toNat_lt
  have hidx0 := hidx w
  have HX := Lib.hid hx
  clear hidx hx
  have ht24 : 24 ≤ t := by simpa using h24
  have ht27 : t ≤ 27 := by simpa using h27
  have HJ := Lib.hid hj
  clear hj
  go_enter Tryd.func15, Tryd.ntmps15
  go_wp2_with (go_at_call 20; refine (rmajor_any _ _).mono ?_; rintro e w' ⟨rfl, rfl⟩)
  refine (refTake_any s _ _ _ (by omega) (by omega)).mono ?_
  rintro e w' ⟨rfl, rfl⟩
  rw [HX.out]
  go_wp2_with fail
  refine (rwidth_any _ _ hxm).mono ?_
  rintro e w' ⟨rfl, rfl⟩
  rw [HJ.out]
  go_wp2
  exact bodyPost_ret (v := .tuple #[.int .i64 m, .int .i64 (x : Int), .int .i64 ((i : Int) + 1 + (k : Int)), .int .i64 0]) (by simp [results, Tryd.results15, go_sem]) rfl ⟨rfl, Below.refl _ _⟩

theorem four_at24 (w : World) : (Instr.index 56 (.agg #[.int .i64 1, .int .i64 2, .int .i64 4, .int .i64 8]) (.int .i64 (((24 : Nat) : Int) - 24))).run Tryd.prog w = .ok (.int .i64 ((widT 24 : Nat) : Int)) w := by kernel_rfl
theorem four_at25 (w : World) : (Instr.index 56 (.agg #[.int .i64 1, .int .i64 2, .int .i64 4, .int .i64 8]) (.int .i64 (((25 : Nat) : Int) - 24))).run Tryd.prog w = .ok (.int .i64 ((widT 25 : Nat) : Int)) w := by kernel_rfl
theorem four_at26 (w : World) : (Instr.index 56 (.agg #[.int .i64 1, .int .i64 2, .int .i64 4, .int .i64 8]) (.int .i64 (((26 : Nat) : Int) - 24))).run Tryd.prog w = .ok (.int .i64 ((widT 26 : Nat) : Int)) w := by kernel_rfl
theorem four_at27 (w : World) : (Instr.index 56 (.agg #[.int .i64 1, .int .i64 2, .int .i64 4, .int .i64 8]) (.int .i64 (((27 : Nat) : Int) - 24))).run Tryd.prog w = .ok (.int .i64 ((widT 27 : Nat) : Int)) w := by kernel_rfl
theorem four_at {t : Nat} (h1 : 24 ≤ t) (h2 : t ≤ 27) (w : World) : (Instr.index 56 (.agg #[.int .i64 1, .int .i64 2, .int .i64 4, .int .i64 8]) (.int .i64 (((t : Nat) : Int) - 24))).run Tryd.prog w = .ok (.int .i64 ((widT t : Nat) : Int)) w := by
  have ht : t = 24 ∨ t = 25 ∨ t = 26 ∨ t = 27 := by omega
  rcases ht with rfl | rfl | rfl | rfl
  · exact four_at24 w
  · exact four_at25 w
  · exact four_at26 w
  · exact four_at27 w

theorem rdecode_in (s : ByteArray) (i : Nat) (w : World) (hs : s.size ≤ 1000000) (hi : i < s.size) (b : UInt8) (hb : s[i] = b) (r : List UInt8) (hr : s.data.toList.drop (i + 1) = r) (hl : s.data.toList.drop i = b :: r) :
    Calls Tryd.prog 15 #[.string s, .int .i64 (i : Int)] w fun e w' => e = .returned (.tuple #[.int .i64 (hdecR s i).1, .int .i64 (hdecR s i).2.1, .int .i64 (hdecR s i).2.2.1, .int .i64 (hdecR s i).2.2.2]) ∧ Below w.heap.size w w' := by
  have hlt := b.toNat_lt
  have hM : ((s[i].toNat : Nat) : Int) / 32 = ((b.toNat / 32 : Nat) : Int) := by rw [hb]; omega
  have hT : ((s[i].toNat : Nat) : Int) % 32 = ((b.toNat % 32 : Nat) : Int) := by rw [hb]; omega
  by_cases hbad : ¬ Maj (b.toNat / 32) ∨ 27 < b.toNat % 32
  · have hd : hdL (s.data.toList.drop i) = .error 20 := by rw [hl, hdL, if_pos hbad]
    rw [hdecR_err hi hd]
    refine rdecode_bad s i w hs hi _ _ hM hT ?_
    rw [majB_nat]
    by_cases hmaj : Maj (b.toNat / 32)
    · refine .inr ⟨decide_eq_true hmaj, decide_eq_true ?_⟩
      rcases hbad with h | h
      · exact absurd hmaj h
      · omega
    · exact .inl (decide_eq_false hmaj)
  · have hmaj : Maj (b.toNat / 32) := Decidable.byContradiction fun e => hbad (.inl e)
    have ht : b.toNat % 32 ≤ 27 := Nat.le_of_not_lt fun e => hbad (.inr e)
    have hmb : majB ((b.toNat / 32 : Nat) : Int) = true := by rw [majB_nat, decide_eq_true hmaj]
    have h27 : decide (27 < ((b.toNat % 32 : Nat) : Int)) = false := decide_eq_false (by omega)
    by_cases h24 : b.toNat % 32 < 24
    · have hd : hdL (s.data.toList.drop i) = .ok (b.toNat / 32, b.toNat % 32, 1) := by rw [hl, hdL, if_neg hbad, if_pos h24]
      rw [hdecR_ok hi hd]
      exact rdecode_small s i w hs hi _ _ hM hT hmb h27 _ rfl h24
    · have hwb := widT_bd (Nat.le_of_not_lt h24) ht
      have hix := four_at (Nat.le_of_not_lt h24) ht
      have hta := take_behind (s := s) (i := i) hwb.1 hwb.2 (by omega)
      rw [hr] at hta
      have d24 : decide (24 ≤ ((b.toNat % 32 : Nat) : Int)) = true := decide_eq_true (by omega)
      generalize hk : widT (b.toNat % 32) = k at *
      by_cases h3 : r.length < k
      · have hd : hdL (s.data.toList.drop i) = .error 11 := by rw [hl, hdL, if_neg hbad, if_neg h24, hk, if_pos h3]
        rw [hdecR_err hi hd]
        rw [if_pos h3] at hta
        exact rdecode_take s i w hs hi _ _ hM hT hmb h27 d24 k hwb.2 hix _ _ hta rfl
      · rw [if_neg h3] at hta
        by_cases h4 : 281474976710655 < valL (r.take k)
        · have hd : hdL (s.data.toList.drop i) = .error 10 := by rw [hl, hdL, if_neg hbad, if_neg h24, hk, if_neg h3, if_pos h4]
          rw [hdecR_err hi hd]
          rw [if_pos h4] at hta
          exact rdecode_take s i w hs hi _ _ hM hT hmb h27 d24 k hwb.2 hix _ _ hta rfl
        · rw [if_neg h4] at hta
          by_cases h5 : wid (valL (r.take k)) ≠ k
          · have hd : hdL (s.data.toList.drop i) = .error 20 := by rw [hl, hdL, if_neg hbad, if_neg h24, hk, if_neg h3, if_neg h4, if_pos h5]
            rw [hdecR_err hi hd]
            exact rdecode_form s i w hs hi _ _ hM hT hmb h27 d24 k hwb.2 hix _ (Nat.le_of_not_lt h4) hta _ rfl (by rw [bne_iff_ne]; omega)
          · have h5' : wid (valL (r.take k)) = k := Decidable.byContradiction h5
            have hd : hdL (s.data.toList.drop i) = .ok (b.toNat / 32, valL (r.take k), 1 + k) := by rw [hl, hdL, if_neg hbad, if_neg h24, hk, if_neg h3, if_neg h4, if_neg h5]
            rw [hdecR_ok hi hd]
            have e : (i : Int) + ((1 + k : Nat) : Int) = (i : Int) + 1 + (k : Int) := by omega
            rw [e]
            exact rdecode_ok s i w hs hi _ _ hM hT hmb h27 d24 k hwb.2 hix _ (Nat.le_of_not_lt h4) hta _ rfl (by rw [h5']; simp)

theorem rdecode_any (s : ByteArray) (at0 : Int) (w : World) (hs : s.size ≤ 1000000) :
    Calls Tryd.prog 15 #[.string s, .int .i64 at0] w fun e w' => e = .returned (.tuple #[.int .i64 (hdecR s at0).1, .int .i64 (hdecR s at0).2.1, .int .i64 (hdecR s at0).2.2.1, .int .i64 (hdecR s at0).2.2.2]) ∧ Below w.heap.size w w' := by
  by_cases h : at0 < 0 ∨ (s.size : Int) ≤ at0
  · rw [hdecR_out h]
    exact rdecode_out s at0 w hs h
  · obtain ⟨i, rfl⟩ := Int.eq_ofNat_of_zero_le (show 0 ≤ at0 by omega)
    have hi : i < s.size := by omega
    have hl : s.data.toList.drop i = s[i] :: s.data.toList.drop (i + 1) := List.drop_eq_getElem_cons (by simpa using hi)
    exact rdecode_in s i w hs hi _ rfl _ rfl hl
end Go.Proofs.YtnmdbmmkmbdiaaaDoor
