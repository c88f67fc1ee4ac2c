/- The document's own Encode, Decode and Size of heads answer as package head's do: for every major, number, text, place. -/
import Derived.Test.YtmbmolgkccjedaaGreatDoorM4
import Derived.Test.YtmbmolgkccjedaaGreatDoorM3
set_option linter.unusedVariables false
set_option linter.unusedSimpArgs false
namespace Go.Proofs.YtmbmolgkccjedaaGreatDoor
open Go.RowKit

set_option maxHeartbeats 400000 in
theorem rmajor_any (m : Int) (w : World) :
    Calls Tryz.prog 111 #[.int .i64 m] w fun e w' => e = .returned (.bool (majB m)) ∧ w = w' := by
  unfold majB
  by_cases h0 : m = 0
  · subst h0
    go_enter Tryz.func111, Tryz.ntmps111
    go_wp2
    go_ret
    exact ⟨rfl, rfl⟩
  have e0 : (m == 0) = false := by simpa using h0
  by_cases h2 : 2 ≤ m
  · by_cases h4 : m ≤ 4
    · rw [decide_eq_true (.inr ⟨h2, h4⟩)]
      go_enter Tryz.func111, Tryz.ntmps111
      go_wp2
      go_ret
      exact ⟨rfl, rfl⟩
    · rw [decide_eq_false (by omega)]
      have h4' : decide (m ≤ 4) = false := by simpa using h4
      go_enter Tryz.func111, Tryz.ntmps111
      go_wp2
      go_ret
      exact ⟨rfl, rfl⟩
  · rw [decide_eq_false (by omega)]
    have h2' : decide (2 ≤ m) = false := by simpa using h2
    go_enter Tryz.func111, Tryz.ntmps111
    go_wp2
    go_ret
    exact ⟨rfl, rfl⟩

set_option maxHeartbeats 400000 in
theorem rwidth_any (n : Nat) (w : World) (hn : n ≤ 281474976710655) :
    Calls Tryz.prog 112 #[.int .i64 (n : Int)] w fun e w' => e = .returned (.tuple #[.int .i64 ((wid n : Nat) : Int), .int .i64 ((tagN n : Nat) : Int)]) ∧ w = w' := by
  rcases wid_cases n with ⟨h1, h2, h3⟩ | ⟨h0, h1, h2, h3⟩ | ⟨h0, h1, h2, h3⟩ | ⟨h0, h1, h2, h3⟩ | ⟨h0, h2, h3⟩ <;> rw [h2, h3] <;> clear h2 h3
  · have d1 : decide ((n : Int) < 24) = true := by simp; omega
    go_enter Tryz.func112, Tryz.ntmps112
    go_wp2
    go_ret2
    exact ⟨rfl, rfl⟩
  · have d1 : decide ((n : Int) < 24) = false := by simp; omega
    have d2 : decide ((n : Int) < 256) = true := by simp; omega
    go_enter Tryz.func112, Tryz.ntmps112
    go_wp2
    go_ret2
    exact ⟨rfl, rfl⟩
  · have d1 : decide ((n : Int) < 24) = false := by simp; omega
    have d2 : decide ((n : Int) < 256) = false := by simp; omega
    have d3 : decide ((n : Int) < 65536) = true := by simp; omega
    go_enter Tryz.func112, Tryz.ntmps112
    go_wp2
    go_ret2
    exact ⟨rfl, rfl⟩
  · have d1 : decide ((n : Int) < 24) = false := by simp; omega
    have d2 : decide ((n : Int) < 256) = false := by simp; omega
    have d3 : decide ((n : Int) < 65536) = false := by simp; omega
    have d4 : decide ((n : Int) < 4294967296) = true := by simp; omega
    go_enter Tryz.func112, Tryz.ntmps112
    go_wp2
    go_ret2
    exact ⟨rfl, rfl⟩
  · have d1 : decide ((n : Int) < 24) = false := by simp; omega
    have d2 : decide ((n : Int) < 256) = false := by simp; omega
    have d3 : decide ((n : Int) < 65536) = false := by simp; omega
    have d4 : decide ((n : Int) < 4294967296) = false := by simp; omega
    go_enter Tryz.func112, Tryz.ntmps112
    go_wp2
    go_ret2
    exact ⟨rfl, rfl⟩

set_option maxHeartbeats 1000000 in
theorem rencode_bad (m n c : Int) (w : World) (h : majB m = false ∧ c = 2 ∨ majB m = true ∧ rightB n = false ∧ c = 10) :
    Calls Tryz.prog 86 #[.int .i64 m, .int .i64 n] w fun e w' => e = .returned (.tuple #[.string ⟨#[]⟩, .int .i64 c]) ∧ Below w.heap.size w w' := by
  rcases h with ⟨h, rfl⟩ | ⟨h, h1, rfl⟩
  all_goals
    go_enter Tryz.func86, Tryz.ntmps86
    go_wp2_with (first | (go_at_call 111; refine (rmajor_any _ _).mono ?_; rintro e w' ⟨rfl, rfl⟩) | (go_at_call 110; refine (refRight_any _ _).mono ?_; rintro e w' ⟨rfl, rfl⟩))
    go_ret2
    exact ⟨rfl, Below.refl _ _⟩

set_option maxHeartbeats 2000000 in
theorem rencode_ok (m : Int) (n : Nat) (w : World) (hm : majB m = true) (hr : rightB n = true) (hm0 : 0 ≤ m) (hm4 : m ≤ 4) (hn : n ≤ 281474976710655)
    (F G : ByteArray) (t k : Nat) (ht : tagN n = t) (ht27 : t ≤ 27) (hk : wid n = k) (hF : ∀ w : World, (convert 110 9 (.slice (some ⟨w.heap.size, 0, none⟩) 1 1)).run Tryz.prog (w.alloc (.cells #[.int .u8 ((32 * m + (t : Int)))] 5)) = .ok (.string F) (w.alloc (.cells #[.int .u8 ((32 * m + (t : Int)))] 5))) (hFs : F.size ≤ 8) (hG : (if k = 0 then (⟨#[]⟩, 0) else bytesR n k) = (G, 0)) (hGs : G.size ≤ 8) :
    Calls Tryz.prog 86 #[.int .i64 m, .int .i64 (n : Int)] w fun e w' => e = .returned (.tuple #[.string (F ++ G), .int .i64 0]) ∧ Below w.heap.size w w' := by
  have HT := Lib.hid ht
  have HK := Lib.hid hk
  have HG := Lib.hid hG
  clear ht hk hG
  have hF0 := hF w
  clear hF
  by_cases hk0 : k = 0
  · subst hk0
    have hg := HG.out
    rw [if_pos rfl] at hg
    obtain rfl : (⟨#[]⟩ : ByteArray) = G := congrArg Prod.fst hg
    clear hg HG
    have HFG := Lib.hid (show F ++ (⟨#[]⟩ : ByteArray) = F from by apply ByteArray.ext; simp)
    go_enter Tryz.func86, Tryz.ntmps86
    go_wp2_with (first | (go_at_call 111; refine (rmajor_any _ _).mono ?_; rintro e w' ⟨rfl, rfl⟩) | (go_at_call 110; refine (refRight_any _ _).mono ?_; rintro e w' ⟨rfl, rfl⟩) | (go_at_call 112; refine (rwidth_any _ _ hn).mono ?_; rintro e w' ⟨rfl, rfl⟩; rw [HK.out, HT.out]))
    go_ret2
    exact ⟨by rw [HFG.out]; rfl, (Below.refl _ _).alloc (Nat.le_refl _) _⟩
  · rw [if_neg hk0] at HG
    have hkb : ((k : Int) == 0) = false := by simpa using hk0
    clear hk0
    go_enter Tryz.func86, Tryz.ntmps86
    go_wp2_with (first | (go_at_call 111; refine (rmajor_any _ _).mono ?_; rintro e w' ⟨rfl, rfl⟩) | (go_at_call 110; refine (refRight_any _ _).mono ?_; rintro e w' ⟨rfl, rfl⟩) | (go_at_call 112; refine (rwidth_any _ _ hn).mono ?_; rintro e w' ⟨rfl, rfl⟩; rw [HK.out, HT.out]))
    refine (refBytes_any _ _ _).mono ?_
    rintro e w1 ⟨rfl, hb1⟩
    rw [HG.out]
    have hB1 : Below w.heap.size w w1 := ((Below.refl _ _).alloc (Nat.le_refl _) _).trans (hb1.mono (by simp))
    clear hb1 hF0
    go_wp2
    go_ret2
    exact ⟨rfl, hB1⟩

theorem one_byte' {x : Nat} (hx : x < 256) (w : World) : (convert 110 9 (.slice (some ⟨w.heap.size, 0, none⟩) 1 1)).run Tryz.prog (w.alloc (.cells #[.int .u8 (x : Int)] 5)) = .ok (.string ⟨#[UInt8.ofNat x]⟩) (w.alloc (.cells #[.int .u8 (x : Int)] 5)) := by
  have h := one_byte x w
  rw [show ((x : Int) % 256) = (x : Int) by omega, Nat.mod_eq_of_lt hx] at h
  exact h

theorem rencode_any (m n : Int) (w : World) :
    Calls Tryz.prog 86 #[.int .i64 m, .int .i64 n] w fun e w' => e = .returned (.tuple #[.string (hencR m n).1, .int .i64 (hencR m n).2]) ∧ Below w.heap.size w w' := by
  cases hm : majB m with
  | false =>
    have e : hencR m n = (⟨#[]⟩, 2) := by unfold hencR; rw [hm]; rfl
    rw [e]
    exact rencode_bad m n 2 w (.inl ⟨hm, rfl⟩)
  | true =>
    cases hr : rightB n with
    | false =>
      have e : hencR m n = (⟨#[]⟩, 10) := by unfold hencR; rw [hm, hr]; rfl
      rw [e]
      exact rencode_bad m n 10 w (.inr ⟨hm, hr, rfl⟩)
    | true =>
      have e : hencR m n = (⟨(headL m.toNat n.toNat).toArray⟩, 0) := by unfold hencR; rw [hm, hr]; rfl
      rw [e]
      obtain ⟨k, rfl, hk⟩ := rightB_nat hr
      obtain ⟨h0, h4, hM⟩ := majB_bounds hm
      have ht := tag_le k
      have hw := wid_le k
      obtain ⟨j, rfl⟩ := Int.eq_ofNat_of_zero_le h0
      rw [Int.toNat_natCast, Int.toNat_natCast]
      have hsp : (⟨(headL j k).toArray⟩ : ByteArray) = ⟨#[UInt8.ofNat (32 * j + tagN k)]⟩ ++ ⟨(beL k (wid k)).toArray⟩ := by
        apply ByteArray.ext
        apply Array.toList_inj.1
        simp [headL]
      rw [hsp]
      refine rencode_ok j k w hm hr h0 h4 hk _ _ (tagN k) (wid k) rfl ht rfl (fun w => ?_) (show 1 ≤ 8 by decide) ?_ (by show (beL k (wid k)).toArray.size ≤ 8; simp [beL_length, hw])
      · rw [show (32 * (j : Int) + ((tagN k : Nat) : Int)) = ((32 * j + tagN k : Nat) : Int) by omega]
        exact one_byte' (by omega) w
      · by_cases h24 : k < 24
        · rw [if_pos (by unfold wid; exact if_pos h24), show wid k = 0 from (by unfold wid; exact if_pos h24)]
          rfl
        · have hw1 : 1 ≤ wid k := by rcases wid_cases k with ⟨h1, h2, _⟩ | ⟨h0, h1, h2, _⟩ | ⟨h0, h1, h2, _⟩ | ⟨h0, h1, h2, _⟩ | ⟨h0, h2, _⟩ <;> omega
          rw [if_neg (by omega), bytesR_of hw1 hw hk (wid_room hk (by omega))]

end Go.Proofs.YtmbmolgkccjedaaGreatDoor

/- The document's own Decode of heads answers as package head's does: for every text and place. -/
set_option linter.unusedVariables false
set_option linter.unusedSimpArgs false
namespace Go.Proofs.YtmbmolgkccjedaaGreatDoor
open Go.RowKit

set_option maxRecDepth 100000 in
set_option maxHeartbeats 1000000 in
theorem rdecode_out (s : ByteArray) (at0 : Int) (w : World) (hs : s.size ≤ 1000000) (h : at0 < 0 ∨ (s.size : Int) ≤ at0) :
    Calls Tryz.prog 89 #[.string s, .int .i64 at0] w fun e w' => e = .returned (.tuple #[.int .i64 0, .int .i64 0, .int .i64 0, .int .i64 11]) ∧ Below w.heap.size w w' := by
  have hh : decide (at0 < 0) = true ∨ decide (at0 < 0) = false ∧ decide ((s.size : Int) ≤ at0) = true := by
    by_cases h0 : at0 < 0
    · exact .inl (by simpa using h0)
    · exact .inr ⟨by simpa using h0, by simp; omega⟩
  clear h
  rcases hh with h | ⟨h, h1⟩
  all_goals
    go_enter Tryz.func89, Tryz.ntmps89
    go_wp2
    exact bodyPost_ret (v := .tuple #[.int .i64 0, .int .i64 0, .int .i64 0, .int .i64 11]) (by simp [results, Tryz.results89, go_sem]) rfl ⟨rfl, Below.refl _ _⟩

set_option maxRecDepth 100000 in
set_option maxHeartbeats 1000000 in
theorem rdecode_bad (s : ByteArray) (i : Nat) (w : World) (hs : s.size ≤ 1000000) (hi : i < s.size) (m t : Int) (hm : ((s[i].toNat : Nat) : Int) / 32 = m) (ht : ((s[i].toNat : Nat) : Int) % 32 = t) (h : majB m = false ∨ majB m = true ∧ decide (27 < t) = true) :
    Calls Tryz.prog 89 #[.string s, .int .i64 (i : Int)] w fun e w' => e = .returned (.tuple #[.int .i64 0, .int .i64 0, .int .i64 0, .int .i64 20]) ∧ Below w.heap.size w w' := by
  have d0 : decide ((i : Int) < 0) = false := by simp
  have d1 : decide (s.size ≤ i) = false := by simpa using hi
  have hb := s[i].toNat_lt
  rcases h with h | ⟨h, h1⟩
  all_goals
    go_enter Tryz.func89, Tryz.ntmps89
    go_wp2_with (go_at_call 111; refine (rmajor_any _ _).mono ?_; rintro e w' ⟨rfl, rfl⟩)
    exact bodyPost_ret (v := .tuple #[.int .i64 0, .int .i64 0, .int .i64 0, .int .i64 20]) (by simp [results, Tryz.results89, go_sem]) rfl ⟨rfl, Below.refl _ _⟩

set_option maxRecDepth 100000 in
set_option maxHeartbeats 2000000 in
theorem rdecode_small (s : ByteArray) (i : Nat) (w : World) (hs : s.size ≤ 1000000) (hi : i < s.size) (m t : Int) (hm : ((s[i].toNat : Nat) : Int) / 32 = m) (ht : ((s[i].toNat : Nat) : Int) % 32 = t) (h : majB m = true) (h27 : decide (27 < t) = false) (n : Nat) (hn : t = (n : Int)) (h24 : n < 24) :
    Calls Tryz.prog 89 #[.string s, .int .i64 (i : Int)] w fun e w' => e = .returned (.tuple #[.int .i64 m, .int .i64 (n : Int), .int .i64 ((i : Int) + 1), .int .i64 0]) ∧ Below w.heap.size w w' := by
  have d0 : decide ((i : Int) < 0) = false := by simp
  have d1 : decide (s.size ≤ i) = false := by simpa using hi
  have hb := s[i].toNat_lt
  subst hn
  have d4 : decide (24 ≤ (n : Int)) = false := by simp; omega
  have HW := Lib.hid (show wid n = 0 by unfold wid; exact if_pos h24)
  go_enter Tryz.func89, Tryz.ntmps89
  go_wp2_with (go_at_call 111; refine (rmajor_any _ _).mono ?_; rintro e w' ⟨rfl, rfl⟩)
  refine (rwidth_any _ _ (by omega)).mono ?_
  rintro e w' ⟨rfl, rfl⟩
  rw [HW.out]
  go_wp2
  exact bodyPost_ret (v := .tuple #[.int .i64 m, .int .i64 (n : Int), .int .i64 ((i : Int) + 1), .int .i64 0]) (by simp [results, Tryz.results89, go_sem]) rfl ⟨rfl, Below.refl _ _⟩

set_option maxRecDepth 100000 in
set_option maxHeartbeats 2000000 in
theorem rdecode_take (s : ByteArray) (i : Nat) (w : World) (hs : s.size ≤ 1000000) (hi : i < s.size) (m t : Int) (hm : ((s[i].toNat : Nat) : Int) / 32 = m) (ht : ((s[i].toNat : Nat) : Int) % 32 = t) (h : majB m = true) (h27 : decide (27 < t) = false) (h24 : decide (24 ≤ t) = true) (k : Nat) (hk8 : k ≤ 8) (hidx : ∀ w, (Instr.index 177 (.agg #[.int .i64 1, .int .i64 2, .int .i64 4, .int .i64 8]) (.int .i64 (t - 24))).run Tryz.prog w = .ok (.int .i64 (k : Int)) w) (x c : Int) (hx : takeR s ((i : Int) + 1) (k : Int) = (x, c)) (hc : (c != 0) = true) :
    Calls Tryz.prog 89 #[.string s, .int .i64 (i : Int)] w fun e w' => e = .returned (.tuple #[.int .i64 0, .int .i64 0, .int .i64 0, .int .i64 c]) ∧ Below w.heap.size w w' := by
  have d0 : decide ((i : Int) < 0) = false := by simp
  have d1 : decide (s.size ≤ i) = false := by simpa using hi
  have hb := s[i].toNat_lt
  have hidx0 := hidx w
  have HX := Lib.hid hx
  clear hidx hx
  have ht24 : 24 ≤ t := by simpa using h24
  have ht27 : t ≤ 27 := by simpa using h27
  go_enter Tryz.func89, Tryz.ntmps89
  go_wp2_with (go_at_call 111; refine (rmajor_any _ _).mono ?_; rintro e w' ⟨rfl, rfl⟩)
  refine (refTake_any s _ _ _ (by omega) (by omega)).mono ?_
  rintro e w' ⟨rfl, rfl⟩
  rw [HX.out]
  go_wp2
  exact bodyPost_ret (v := .tuple #[.int .i64 0, .int .i64 0, .int .i64 0, .int .i64 c]) (by simp [results, Tryz.results89, go_sem]) rfl ⟨rfl, Below.refl _ _⟩

set_option maxRecDepth 100000 in
set_option maxHeartbeats 2000000 in
theorem rdecode_form (s : ByteArray) (i : Nat) (w : World) (hs : s.size ≤ 1000000) (hi : i < s.size) (m t : Int) (hm : ((s[i].toNat : Nat) : Int) / 32 = m) (ht : ((s[i].toNat : Nat) : Int) % 32 = t) (h : majB m = true) (h27 : decide (27 < t) = false) (h24 : decide (24 ≤ t) = true) (k : Nat) (hk8 : k ≤ 8) (hidx : ∀ w, (Instr.index 177 (.agg #[.int .i64 1, .int .i64 2, .int .i64 4, .int .i64 8]) (.int .i64 (t - 24))).run Tryz.prog w = .ok (.int .i64 (k : Int)) w) (x : Nat) (hxm : x ≤ 281474976710655) (hx : takeR s ((i : Int) + 1) (k : Int) = ((x : Int), 0)) (j : Nat) (hj : wid x = j) (hne : ((j : Int) != (k : Int)) = true) :
    Calls Tryz.prog 89 #[.string s, .int .i64 (i : Int)] w fun e w' => e = .returned (.tuple #[.int .i64 0, .int .i64 0, .int .i64 0, .int .i64 20]) ∧ Below w.heap.size w w' := by
  have d0 : decide ((i : Int) < 0) = false := by simp
  have d1 : decide (s.size ≤ i) = false := by simpa using hi
  have hb := s[i].toNat_lt
  have hidx0 := hidx w
  have HX := Lib.hid hx
  clear hidx hx
  have ht24 : 24 ≤ t := by simpa using h24
  have ht27 : t ≤ 27 := by simpa using h27
  have HJ := Lib.hid hj
  clear hj
  go_enter Tryz.func89, Tryz.ntmps89
  go_wp2_with (go_at_call 111; refine (rmajor_any _ _).mono ?_; rintro e w' ⟨rfl, rfl⟩)
  refine (refTake_any s _ _ _ (by omega) (by omega)).mono ?_
  rintro e w' ⟨rfl, rfl⟩
  rw [HX.out]
  go_wp2_with fail
  refine (rwidth_any _ _ hxm).mono ?_
  rintro e w' ⟨rfl, rfl⟩
  rw [HJ.out]
  go_wp2
  exact bodyPost_ret (v := .tuple #[.int .i64 0, .int .i64 0, .int .i64 0, .int .i64 20]) (by simp [results, Tryz.results89, go_sem]) rfl ⟨rfl, Below.refl _ _⟩

set_option maxRecDepth 100000 in
set_option maxHeartbeats 2000000 in
theorem rdecode_ok (s : ByteArray) (i : Nat) (w : World) (hs : s.size ≤ 1000000) (hi : i < s.size) (m t : Int) (hm : ((s[i].toNat : Nat) : Int) / 32 = m) (ht : ((s[i].toNat : Nat) : Int) % 32 = t) (h : majB m = true) (h27 : decide (27 < t) = false) (h24 : decide (24 ≤ t) = true) (k : Nat) (hk8 : k ≤ 8) (hidx : ∀ w, (Instr.index 177 (.agg #[.int .i64 1, .int .i64 2, .int .i64 4, .int .i64 8]) (.int .i64 (t - 24))).run Tryz.prog w = .ok (.int .i64 (k : Int)) w) (x : Nat) (hxm : x ≤ 281474976710655) (hx : takeR s ((i : Int) + 1) (k : Int) = ((x : Int), 0)) (j : Nat) (hj : wid x = j) (hne : ((j : Int) != (k : Int)) = false) :
    Calls Tryz.prog 89 #[.string s, .int .i64 (i : Int)] w fun e w' => e = .returned (.tuple #[.int .i64 m, .int .i64 (x : Int), .int .i64 ((i : Int) + 1 + (k : Int)), .int .i64 0]) ∧ Below w.heap.size w w' := by
  have d0 : decide ((i : Int) < 0) = false := by simp
  have d1 : decide (s.size ≤ i) = false := by simpa using hi
  have hb := s[i].toNat_lt
  have hidx0 := hidx w
  have HX := Lib.hid hx
  clear hidx hx
  have ht24 : 24 ≤ t := by simpa using h24
  have ht27 : t ≤ 27 := by simpa using h27
  have HJ := Lib.hid hj
  clear hj
  go_enter Tryz.func89, Tryz.ntmps89
  go_wp2_with (go_at_call 111; refine (rmajor_any _ _).mono ?_; rintro e w' ⟨rfl, rfl⟩)
  refine (refTake_any s _ _ _ (by omega) (by omega)).mono ?_
  rintro e w' ⟨rfl, rfl⟩
  rw [HX.out]
  go_wp2_with fail
  refine (rwidth_any _ _ hxm).mono ?_
  rintro e w' ⟨rfl, rfl⟩
  rw [HJ.out]
  go_wp2
  exact bodyPost_ret (v := .tuple #[.int .i64 m, .int .i64 (x : Int), .int .i64 ((i : Int) + 1 + (k : Int)), .int .i64 0]) (by simp [results, Tryz.results89, go_sem]) rfl ⟨rfl, Below.refl _ _⟩

theorem four_at24 (w : World) : (Instr.index 177 (.agg #[.int .i64 1, .int .i64 2, .int .i64 4, .int .i64 8]) (.int .i64 (((24 : Nat) : Int) - 24))).run Tryz.prog w = .ok (.int .i64 ((widT 24 : Nat) : Int)) w := by kernel_rfl
theorem four_at25 (w : World) : (Instr.index 177 (.agg #[.int .i64 1, .int .i64 2, .int .i64 4, .int .i64 8]) (.int .i64 (((25 : Nat) : Int) - 24))).run Tryz.prog w = .ok (.int .i64 ((widT 25 : Nat) : Int)) w := by kernel_rfl
theorem four_at26 (w : World) : (Instr.index 177 (.agg #[.int .i64 1, .int .i64 2, .int .i64 4, .int .i64 8]) (.int .i64 (((26 : Nat) : Int) - 24))).run Tryz.prog w = .ok (.int .i64 ((widT 26 : Nat) : Int)) w := by kernel_rfl
theorem four_at27 (w : World) : (Instr.index 177 (.agg #[.int .i64 1, .int .i64 2, .int .i64 4, .int .i64 8]) (.int .i64 (((27 : Nat) : Int) - 24))).run Tryz.prog w = .ok (.int .i64 ((widT 27 : Nat) : Int)) w := by kernel_rfl
theorem four_at {t : Nat} (h1 : 24 ≤ t) (h2 : t ≤ 27) (w : World) : (Instr.index 177 (.agg #[.int .i64 1, .int .i64 2, .int .i64 4, .int .i64 8]) (.int .i64 (((t : Nat) : Int) - 24))).run Tryz.prog w = .ok (.int .i64 ((widT t : Nat) : Int)) w := by
  have ht : t = 24 ∨ t = 25 ∨ t = 26 ∨ t = 27 := by omega
  rcases ht with rfl | rfl | rfl | rfl
  · exact four_at24 w
  · exact four_at25 w
  · exact four_at26 w
  · exact four_at27 w

theorem rdecode_in (s : ByteArray) (i : Nat) (w : World) (hs : s.size ≤ 1000000) (hi : i < s.size) (b : UInt8) (hb : s[i] = b) (r : List UInt8) (hr : s.data.toList.drop (i + 1) = r) (hl : s.data.toList.drop i = b :: r) :
    Calls Tryz.prog 89 #[.string s, .int .i64 (i : Int)] w fun e w' => e = .returned (.tuple #[.int .i64 (hdecR s i).1, .int .i64 (hdecR s i).2.1, .int .i64 (hdecR s i).2.2.1, .int .i64 (hdecR s i).2.2.2]) ∧ Below w.heap.size w w' := by
  have hlt := b.toNat_lt
  have hM : ((s[i].toNat : Nat) : Int) / 32 = ((b.toNat / 32 : Nat) : Int) := by rw [hb]; omega
  have hT : ((s[i].toNat : Nat) : Int) % 32 = ((b.toNat % 32 : Nat) : Int) := by rw [hb]; omega
  by_cases hbad : ¬ Maj (b.toNat / 32) ∨ 27 < b.toNat % 32
  · have hd : hdL (s.data.toList.drop i) = .error 20 := by rw [hl, hdL, if_pos hbad]
    rw [hdecR_err hi hd]
    refine rdecode_bad s i w hs hi _ _ hM hT ?_
    rw [majB_nat]
    by_cases hmaj : Maj (b.toNat / 32)
    · refine .inr ⟨decide_eq_true hmaj, decide_eq_true ?_⟩
      rcases hbad with h | h
      · exact absurd hmaj h
      · omega
    · exact .inl (decide_eq_false hmaj)
  · have hmaj : Maj (b.toNat / 32) := Decidable.byContradiction fun e => hbad (.inl e)
    have ht : b.toNat % 32 ≤ 27 := Nat.le_of_not_lt fun e => hbad (.inr e)
    have hmb : majB ((b.toNat / 32 : Nat) : Int) = true := by rw [majB_nat, decide_eq_true hmaj]
    have h27 : decide (27 < ((b.toNat % 32 : Nat) : Int)) = false := decide_eq_false (by omega)
    by_cases h24 : b.toNat % 32 < 24
    · have hd : hdL (s.data.toList.drop i) = .ok (b.toNat / 32, b.toNat % 32, 1) := by rw [hl, hdL, if_neg hbad, if_pos h24]
      rw [hdecR_ok hi hd]
      exact rdecode_small s i w hs hi _ _ hM hT hmb h27 _ rfl h24
    · have hwb := widT_bd (Nat.le_of_not_lt h24) ht
      have hix := four_at (Nat.le_of_not_lt h24) ht
      have hta := take_behind (s := s) (i := i) hwb.1 hwb.2 (by omega)
      rw [hr] at hta
      have d24 : decide (24 ≤ ((b.toNat % 32 : Nat) : Int)) = true := decide_eq_true (by omega)
      generalize hk : widT (b.toNat % 32) = k at *
      by_cases h3 : r.length < k
      · have hd : hdL (s.data.toList.drop i) = .error 11 := by rw [hl, hdL, if_neg hbad, if_neg h24, hk, if_pos h3]
        rw [hdecR_err hi hd]
        rw [if_pos h3] at hta
        exact rdecode_take s i w hs hi _ _ hM hT hmb h27 d24 k hwb.2 hix _ _ hta rfl
      · rw [if_neg h3] at hta
        by_cases h4 : 281474976710655 < valL (r.take k)
        · have hd : hdL (s.data.toList.drop i) = .error 10 := by rw [hl, hdL, if_neg hbad, if_neg h24, hk, if_neg h3, if_pos h4]
          rw [hdecR_err hi hd]
          rw [if_pos h4] at hta
          exact rdecode_take s i w hs hi _ _ hM hT hmb h27 d24 k hwb.2 hix _ _ hta rfl
        · rw [if_neg h4] at hta
          by_cases h5 : wid (valL (r.take k)) ≠ k
          · have hd : hdL (s.data.toList.drop i) = .error 20 := by rw [hl, hdL, if_neg hbad, if_neg h24, hk, if_neg h3, if_neg h4, if_pos h5]
            rw [hdecR_err hi hd]
            exact rdecode_form s i w hs hi _ _ hM hT hmb h27 d24 k hwb.2 hix _ (Nat.le_of_not_lt h4) hta _ rfl (by rw [bne_iff_ne]; omega)
          · have h5' : wid (valL (r.take k)) = k := Decidable.byContradiction h5
            have hd : hdL (s.data.toList.drop i) = .ok (b.toNat / 32, valL (r.take k), 1 + k) := by rw [hl, hdL, if_neg hbad, if_neg h24, hk, if_neg h3, if_neg h4, if_neg h5]
            rw [hdecR_ok hi hd]
            have e : (i : Int) + ((1 + k : Nat) : Int) = (i : Int) + 1 + (k : Int) := by omega
            rw [e]
            exact rdecode_ok s i w hs hi _ _ hM hT hmb h27 d24 k hwb.2 hix _ (Nat.le_of_not_lt h4) hta _ rfl (by rw [h5']; simp)

theorem rdecode_any (s : ByteArray) (at0 : Int) (w : World) (hs : s.size ≤ 1000000) :
    Calls Tryz.prog 89 #[.string s, .int .i64 at0] w fun e w' => e = .returned (.tuple #[.int .i64 (hdecR s at0).1, .int .i64 (hdecR s at0).2.1, .int .i64 (hdecR s at0).2.2.1, .int .i64 (hdecR s at0).2.2.2]) ∧ Below w.heap.size w w' := by
  by_cases h : at0 < 0 ∨ (s.size : Int) ≤ at0
  · rw [hdecR_out h]
    exact rdecode_out s at0 w hs h
  · obtain ⟨i, rfl⟩ := Int.eq_ofNat_of_zero_le (show 0 ≤ at0 by omega)
    have hi : i < s.size := by omega
    have hl : s.data.toList.drop i = s[i] :: s.data.toList.drop (i + 1) := List.drop_eq_getElem_cons (by simpa using hi)
    exact rdecode_in s i w hs hi _ rfl _ rfl hl
end Go.Proofs.YtmbmolgkccjedaaGreatDoor
