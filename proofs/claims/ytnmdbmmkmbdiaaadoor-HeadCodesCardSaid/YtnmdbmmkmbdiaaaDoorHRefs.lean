/- The document's own Encode, Decode and Size of heads answer as package head's do: for every major, number, text, place. -/
import Derived.Test.YtnmdbmmkmbdiaaaDoorHDec
import Derived.Test.YtnmdbmmkmbdiaaaDoorRefs
set_option linter.unusedVariables false
set_option linter.unusedSimpArgs false
namespace Go.Proofs.YtnmdbmmkmbdiaaaDoor
open Go.RowKit

set_option maxHeartbeats 400000 in
theorem rmajor_any (m : Int) (w : World) :
    Calls Tryd.prog 20 #[.int .i64 m] w fun e w' => e = .returned (.bool (majB m)) ∧ w = w' := by
  unfold majB
  by_cases h0 : m = 0
  · subst h0
    go_enter Tryd.func20, Tryd.ntmps20
    go_wp2
    go_ret
    exact ⟨rfl, rfl⟩
  have e0 : (m == 0) = false := by simpa using h0
  by_cases h2 : 2 ≤ m
  · by_cases h4 : m ≤ 4
    · rw [decide_eq_true (.inr ⟨h2, h4⟩)]
      go_enter Tryd.func20, Tryd.ntmps20
      go_wp2
      go_ret
      exact ⟨rfl, rfl⟩
    · rw [decide_eq_false (by omega)]
      have h4' : decide (m ≤ 4) = false := by simpa using h4
      go_enter Tryd.func20, Tryd.ntmps20
      go_wp2
      go_ret
      exact ⟨rfl, rfl⟩
  · rw [decide_eq_false (by omega)]
    have h2' : decide (2 ≤ m) = false := by simpa using h2
    go_enter Tryd.func20, Tryd.ntmps20
    go_wp2
    go_ret
    exact ⟨rfl, rfl⟩

set_option maxHeartbeats 400000 in
theorem rwidth_any (n : Nat) (w : World) (hn : n ≤ 281474976710655) :
    Calls Tryd.prog 22 #[.int .i64 (n : Int)] w fun e w' => e = .returned (.tuple #[.int .i64 ((wid n : Nat) : Int), .int .i64 ((tagN n : Nat) : Int)]) ∧ w = w' := by
  rcases wid_cases n with ⟨h1, h2, h3⟩ | ⟨h0, h1, h2, h3⟩ | ⟨h0, h1, h2, h3⟩ | ⟨h0, h1, h2, h3⟩ | ⟨h0, h2, h3⟩ <;> rw [h2, h3] <;> clear h2 h3
  · have d1 : decide ((n : Int) < 24) = true := by simp; omega
    go_enter Tryd.func22, Tryd.ntmps22
    go_wp2
    go_ret2
    exact ⟨rfl, rfl⟩
  · have d1 : decide ((n : Int) < 24) = false := by simp; omega
    have d2 : decide ((n : Int) < 256) = true := by simp; omega
    go_enter Tryd.func22, Tryd.ntmps22
    go_wp2
    go_ret2
    exact ⟨rfl, rfl⟩
  · have d1 : decide ((n : Int) < 24) = false := by simp; omega
    have d2 : decide ((n : Int) < 256) = false := by simp; omega
    have d3 : decide ((n : Int) < 65536) = true := by simp; omega
    go_enter Tryd.func22, Tryd.ntmps22
    go_wp2
    go_ret2
    exact ⟨rfl, rfl⟩
  · have d1 : decide ((n : Int) < 24) = false := by simp; omega
    have d2 : decide ((n : Int) < 256) = false := by simp; omega
    have d3 : decide ((n : Int) < 65536) = false := by simp; omega
    have d4 : decide ((n : Int) < 4294967296) = true := by simp; omega
    go_enter Tryd.func22, Tryd.ntmps22
    go_wp2
    go_ret2
    exact ⟨rfl, rfl⟩
  · have d1 : decide ((n : Int) < 24) = false := by simp; omega
    have d2 : decide ((n : Int) < 256) = false := by simp; omega
    have d3 : decide ((n : Int) < 65536) = false := by simp; omega
    have d4 : decide ((n : Int) < 4294967296) = false := by simp; omega
    go_enter Tryd.func22, Tryd.ntmps22
    go_wp2
    go_ret2
    exact ⟨rfl, rfl⟩

set_option maxHeartbeats 1000000 in
theorem rencode_bad (m n c : Int) (w : World) (h : majB m = false ∧ c = 2 ∨ majB m = true ∧ rightB n = false ∧ c = 10) :
    Calls Tryd.prog 13 #[.int .i64 m, .int .i64 n] w fun e w' => e = .returned (.tuple #[.string ⟨#[]⟩, .int .i64 c]) ∧ Below w.heap.size w w' := by
  rcases h with ⟨h, rfl⟩ | ⟨h, h1, rfl⟩
  all_goals
    go_enter Tryd.func13, Tryd.ntmps13
    go_wp2_with (first | (go_at_call 20; refine (rmajor_any _ _).mono ?_; rintro e w' ⟨rfl, rfl⟩) | (go_at_call 21; refine (refRight_any _ _).mono ?_; rintro e w' ⟨rfl, rfl⟩))
    go_ret2
    exact ⟨rfl, Below.refl _ _⟩

set_option maxHeartbeats 2000000 in
theorem rencode_ok (m : Int) (n : Nat) (w : World) (hm : majB m = true) (hr : rightB n = true) (hm0 : 0 ≤ m) (hm4 : m ≤ 4) (hn : n ≤ 281474976710655)
    (F G : ByteArray) (t k : Nat) (ht : tagN n = t) (ht27 : t ≤ 27) (hk : wid n = k) (hF : ∀ w : World, (convert 46 9 (.slice (some ⟨w.heap.size, 0, none⟩) 1 1)).run Tryd.prog (w.alloc (.cells #[.int .u8 ((32 * m + (t : Int)))] 5)) = .ok (.string F) (w.alloc (.cells #[.int .u8 ((32 * m + (t : Int)))] 5))) (hFs : F.size ≤ 8) (hG : (if k = 0 then (⟨#[]⟩, 0) else bytesR n k) = (G, 0)) (hGs : G.size ≤ 8) :
    Calls Tryd.prog 13 #[.int .i64 m, .int .i64 (n : Int)] w fun e w' => e = .returned (.tuple #[.string (F ++ G), .int .i64 0]) ∧ Below w.heap.size w w' := by
  have HT := Lib.hid ht
  have HK := Lib.hid hk
  have HG := Lib.hid hG
  clear ht hk hG
  have hF0 := hF w
  clear hF
  by_cases hk0 : k = 0
  · subst hk0
    have hg := HG.out
    rw [if_pos rfl] at hg
    obtain rfl : (⟨#[]⟩ : ByteArray) = G := congrArg Prod.fst hg
    clear hg HG
    have HFG := Lib.hid (show F ++ (⟨#[]⟩ : ByteArray) = F from by apply ByteArray.ext; simp)
    go_enter Tryd.func13, Tryd.ntmps13
    go_wp2_with (first | (go_at_call 20; refine (rmajor_any _ _).mono ?_; rintro e w' ⟨rfl, rfl⟩) | (go_at_call 21; refine (refRight_any _ _).mono ?_; rintro e w' ⟨rfl, rfl⟩) | (go_at_call 22; refine (rwidth_any _ _ hn).mono ?_; rintro e w' ⟨rfl, rfl⟩; rw [HK.out, HT.out]))
    go_ret2
    exact ⟨by rw [HFG.out]; rfl, (Below.refl _ _).alloc (Nat.le_refl _) _⟩
  · rw [if_neg hk0] at HG
    have hkb : ((k : Int) == 0) = false := by simpa using hk0
    clear hk0
    go_enter Tryd.func13, Tryd.ntmps13
    go_wp2_with (first | (go_at_call 20; refine (rmajor_any _ _).mono ?_; rintro e w' ⟨rfl, rfl⟩) | (go_at_call 21; refine (refRight_any _ _).mono ?_; rintro e w' ⟨rfl, rfl⟩) | (go_at_call 22; refine (rwidth_any _ _ hn).mono ?_; rintro e w' ⟨rfl, rfl⟩; rw [HK.out, HT.out]))
    refine (refBytes_any _ _ _).mono ?_
    rintro e w1 ⟨rfl, hb1⟩
    rw [HG.out]
    have hB1 : Below w.heap.size w w1 := ((Below.refl _ _).alloc (Nat.le_refl _) _).trans (hb1.mono (by simp))
    clear hb1 hF0
    go_wp2
    go_ret2
    exact ⟨rfl, hB1⟩

theorem one_byte' {x : Nat} (hx : x < 256) (w : World) : (convert 46 9 (.slice (some ⟨w.heap.size, 0, none⟩) 1 1)).run Tryd.prog (w.alloc (.cells #[.int .u8 (x : Int)] 5)) = .ok (.string ⟨#[UInt8.ofNat x]⟩) (w.alloc (.cells #[.int .u8 (x : Int)] 5)) := by
  have h := one_byte x w
  rw [show ((x : Int) % 256) = (x : Int) by omega, Nat.mod_eq_of_lt hx] at h
  exact h

theorem rencode_any (m n : Int) (w : World) :
    Calls Tryd.prog 13 #[.int .i64 m, .int .i64 n] w fun e w' => e = .returned (.tuple #[.string (hencR m n).1, .int .i64 (hencR m n).2]) ∧ Below w.heap.size w w' := by
  cases hm : majB m with
  | false =>
    have e : hencR m n = (⟨#[]⟩, 2) := by unfold hencR; rw [hm]; rfl
    rw [e]
    exact rencode_bad m n 2 w (.inl ⟨hm, rfl⟩)
  | true =>
    cases hr : rightB n with
    | false =>
      have e : hencR m n = (⟨#[]⟩, 10) := by unfold hencR; rw [hm, hr]; rfl
      rw [e]
      exact rencode_bad m n 10 w (.inr ⟨hm, hr, rfl⟩)
    | true =>
      have e : hencR m n = (⟨(headL m.toNat n.toNat).toArray⟩, 0) := by unfold hencR; rw [hm, hr]; rfl
      rw [e]
      obtain ⟨k, rfl, hk⟩ := rightB_nat hr
      obtain ⟨h0, h4, hM⟩ := majB_bounds hm
      have ht := tag_le k
      have hw := wid_le k
      obtain ⟨j, rfl⟩ := Int.eq_ofNat_of_zero_le h0
      rw [Int.toNat_natCast, Int.toNat_natCast]
      have hsp : (⟨(headL j k).toArray⟩ : ByteArray) = ⟨#[UInt8.ofNat (32 * j + tagN k)]⟩ ++ ⟨(beL k (wid k)).toArray⟩ := by
        apply ByteArray.ext
        apply Array.toList_inj.1
        simp [headL]
      rw [hsp]
      refine rencode_ok j k w hm hr h0 h4 hk _ _ (tagN k) (wid k) rfl ht rfl (fun w => ?_) (show 1 ≤ 8 by decide) ?_ (by show (beL k (wid k)).toArray.size ≤ 8; simp [beL_length, hw])
      · rw [show (32 * (j : Int) + ((tagN k : Nat) : Int)) = ((32 * j + tagN k : Nat) : Int) by omega]
        exact one_byte' (by omega) w
      · by_cases h24 : k < 24
        · rw [if_pos (by unfold wid; exact if_pos h24), show wid k = 0 from (by unfold wid; exact if_pos h24)]
          rfl
        · have hw1 : 1 ≤ wid k := by rcases wid_cases k with ⟨h1, h2, _⟩ | ⟨h0, h1, h2, _⟩ | ⟨h0, h1, h2, _⟩ | ⟨h0, h1, h2, _⟩ | ⟨h0, h2, _⟩ <;> omega
          rw [if_neg (by omega), bytesR_of hw1 hw hk (wid_room hk (by omega))]

set_option maxHeartbeats 400000 in
theorem rsize_any (n : Int) (w : World) :
    Calls Tryd.prog 17 #[.int .i64 n] w fun e w' => e = .returned (.tuple #[.int .i64 (hsizeR n).1, .int .i64 (hsizeR n).2]) ∧ Below w.heap.size w w' := by
  have HS := Lib.hid (hencR_size n)
  generalize hsizeR n = r at *
  obtain ⟨r1, r2⟩ := r
  have HE := Lib.hid (rencode_any 0 n w)
  generalize hencR 0 n = q at *
  obtain ⟨q1, q2⟩ := q
  simp only [Prod.mk.injEq] at HS
  obtain ⟨rfl, rfl⟩ := HS.out
  clear HS
  go_enter Tryd.func17, Tryd.ntmps17
  go_wp2_with fail
  refine HE.out.mono ?_
  rintro e w1 ⟨rfl, hb1⟩
  go_wp2
  go_ret2
  exact ⟨rfl, hb1⟩
end Go.Proofs.YtnmdbmmkmbdiaaaDoor
