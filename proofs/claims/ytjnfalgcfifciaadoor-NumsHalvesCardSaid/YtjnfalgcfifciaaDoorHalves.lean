/- The number of some bytes is that of the first ones, as many times greater as the others ask for, and that of these: the walk of NumsHalves. -/
import Derived.Test.YtjnfalgcfifciaaDoorBack
import Derived.Test.YtjnfalgcfifciaaDoorFits
set_option linter.unusedVariables false
set_option linter.unusedSimpArgs false
namespace Go.Proofs.YtjnfalgcfifciaaDoor
open Go.RowKit

set_option maxRecDepth 100000 in
set_option maxHeartbeats 2000000 in
theorem halves_out (a0 a1 a2 : Addr) (s : ByteArray) (at0 a b : Int) (w : World) (hE : Env a0 a1 a2 w) (hs : s.size ≤ maxLen)
    (h : (decide (a < 1) = true) ∨ (decide (a < 1) = false ∧ decide (b < 1) = true) ∨ (decide (a < 1) = false ∧ decide (b < 1) = false ∧ decide (5 < a) = true) ∨ (decide (a < 1) = false ∧ decide (b < 1) = false ∧ decide (5 < a) = false ∧ decide (5 < b) = true) ∨ (decide (a < 1) = false ∧ decide (b < 1) = false ∧ decide (5 < a) = false ∧ decide (5 < b) = false ∧ decide (6 < a + b) = true)) :
    Calls Tryd.prog 9 #[.string s, .int .i64 at0, .int .i64 a, .int .i64 b] w fun e w' => e = .returned (.bool true) ∧ Below w.heap.size w w' := by
  rcases h with h1 | ⟨h1, h2⟩ | ⟨h1, h2, h3⟩ | ⟨h1, h2, h3, h4⟩ | ⟨h1, h2, h3, h4, h5⟩
  case inr.inr.inr.inr =>
    have k1 : 1 ≤ a := by simpa using h1
    have k2 : 1 ≤ b := by simpa using h2
    have k3 : a ≤ 5 := by simpa using h3
    have k4 : b ≤ 5 := by simpa using h4
    go_enter Tryd.func9, Tryd.ntmps9
    go_wp2_with fail
    refine (shown_any a0 a1 a2 _ hE).mono ?_
    rintro e w1 ⟨rfl, hb1⟩
    go_wp2_with fail
    refine (lawCut_any s _ hs).mono ?_
    rintro e w' ⟨rfl, rfl⟩
    go_wp2
    go_ret
    exact ⟨rfl, hb1⟩
  all_goals
    go_enter Tryd.func9, Tryd.ntmps9
    go_wp2_with fail
    refine (shown_any a0 a1 a2 _ hE).mono ?_
    rintro e w1 ⟨rfl, hb1⟩
    go_wp2_with fail
    refine (lawCut_any s _ hs).mono ?_
    rintro e w' ⟨rfl, rfl⟩
    go_wp2
    go_ret
    exact ⟨rfl, hb1⟩

set_option maxRecDepth 100000 in
set_option maxHeartbeats 2000000 in
theorem halves_err (a0 a1 a2 : Addr) (s q : ByteArray) (at0 g : Int) (a b : Nat) (x y : Int) (w : World) (hE : Env a0 a1 a2 w) (hs : s.size ≤ maxLen) (hq : s.extract 0 (min s.size 100) = q) (hql : q.size ≤ 100)
    (k1 : 1 ≤ a) (k2 : 1 ≤ b) (k3 : a ≤ 5) (k4 : b ≤ 5) (k5 : a + b ≤ 6) (hN : takeR q at0 (a + b) = (0, g)) (hg : (g != 0) = true) (hM : takeR q at0 a = (x, y)) :
    Calls Tryd.prog 9 #[.string s, .int .i64 at0, .int .i64 (a : Int), .int .i64 (b : Int)] w fun e w' => e = .returned (.bool true) ∧ Below w.heap.size w w' := by
  have h1 : decide ((a : Int) < 1) = false := by simp; omega
  have h2 : decide ((b : Int) < 1) = false := by simp; omega
  have h3 : decide (5 < (a : Int)) = false := by simp; omega
  have h4 : decide (5 < (b : Int)) = false := by simp; omega
  have h5 : decide (6 < (a : Int) + (b : Int)) = false := by simp; omega
  have Q := Lib.hid hq
  have HN := Lib.hid hN
  have HM := Lib.hid hM
  clear hq hN hM
  go_enter Tryd.func9, Tryd.ntmps9
  go_wp2_with fail
  refine (shown_any a0 a1 a2 _ hE).mono ?_
  rintro e w1 ⟨rfl, hb1⟩
  have hE1 := hE.below hb1
  go_wp2_with fail
  refine (lawCut_any s _ hs).mono ?_
  rintro e w' ⟨rfl, rfl⟩
  rw [Q.out]
  go_wp2_with fail
  refine (take_any a0 a1 a2 _ _ _ _ hE1 (by unfold maxLen; omega)).mono ?_
  rintro e w2 ⟨rfl, hb2⟩
  have hE2 := hE1.below hb2
  rw [HN.out]
  go_wp2_with fail
  refine (take_any a0 a1 a2 _ _ _ _ hE2 (by unfold maxLen; omega)).mono ?_
  rintro e w3 ⟨rfl, hb3⟩
  rw [HM.out]
  have hB : Below w.heap.size w w3 := (hb1.trans (hb2.mono hb1.size)).trans (hb3.mono (Nat.le_trans hb1.size hb2.size))
  clear hb1 hb2 hb3 hE1 hE2
  go_wp2
  go_ret
  exact ⟨rfl, hB⟩

set_option maxRecDepth 100000 in
set_option maxHeartbeats 2000000 in
theorem halves_ok (a0 a1 a2 : Addr) (s q : ByteArray) (i a b n m k : Nat) (w : World) (hE : Env a0 a1 a2 w) (hs : s.size ≤ maxLen) (hq : s.extract 0 (min s.size 100) = q) (hql : q.size ≤ 100)
    (k1 : 1 ≤ a) (k2 : 1 ≤ b) (k3 : a ≤ 5) (k4 : b ≤ 5) (k5 : a + b ≤ 6) (hi : i ≤ 100) (hN : takeR q i (a + b) = ((n : Int), 0)) (hM : takeR q i a = ((m : Int), 0)) (hK : takeR q (i + a) b = ((k : Int), 0)) (hm : m < pow256 a) (hk : k ≤ 281474976710655) (hs' : n = pow256 b * m + k) :
    Calls Tryd.prog 9 #[.string s, .int .i64 (i : Int), .int .i64 (a : Int), .int .i64 (b : Int)] w fun e w' => e = .returned (.bool true) ∧ Below w.heap.size w w' := by
  have h1 : decide ((a : Int) < 1) = false := by simp; omega
  have h2 : decide ((b : Int) < 1) = false := by simp; omega
  have h3 : decide (5 < (a : Int)) = false := by simp; omega
  have h4 : decide (5 < (b : Int)) = false := by simp; omega
  have h5 : decide (6 < (a : Int) + (b : Int)) = false := by simp; omega
  have Q := Lib.hid hq
  have HN := Lib.hid hN
  have HM := Lib.hid hM
  have HK := Lib.hid hK
  have HS := Lib.hid hs'
  clear hq hN hM hK hs'
  go_enter Tryd.func9, Tryd.ntmps9
  go_wp2_with fail
  refine (shown_any a0 a1 a2 _ hE).mono ?_
  rintro e w1 ⟨rfl, hb1⟩
  have hE1 := hE.below hb1
  go_wp2_with fail
  refine (lawCut_any s _ hs).mono ?_
  rintro e w' ⟨rfl, rfl⟩
  rw [Q.out]
  go_wp2_with fail
  refine (take_any a0 a1 a2 _ _ _ _ hE1 (by unfold maxLen; omega)).mono ?_
  rintro e w2 ⟨rfl, hb2⟩
  have hE2 := hE1.below hb2
  rw [HN.out]
  go_wp2_with fail
  refine (take_any a0 a1 a2 _ _ _ _ hE2 (by unfold maxLen; omega)).mono ?_
  rintro e w3 ⟨rfl, hb3⟩
  have hE3 := hE2.below hb3
  rw [HM.out]
  go_wp2_with fail
  refine (take_any a0 a1 a2 _ _ _ _ hE3 (by unfold maxLen; omega)).mono ?_
  rintro e w4 ⟨rfl, hb4⟩
  rw [HK.out]
  have hB : Below w.heap.size w w4 := ((hb1.trans (hb2.mono hb1.size)).trans (hb3.mono (Nat.le_trans hb1.size hb2.size))).trans (hb4.mono (Nat.le_trans hb1.size (Nat.le_trans hb2.size hb3.size)))
  clear hb1 hb2 hb3 hb4 hE1 hE2 hE3 hE
  have hpa : ∀ j, j ≤ b → pow256 j * m ≤ 281474976710656 := fun j hj => by
    have e1 : pow256 j * m ≤ pow256 j * pow256 a := Nat.mul_le_mul_left _ (Nat.le_of_lt hm)
    have e2 : pow256 j * pow256 a = pow256 (j + a) := by unfold pow256; rw [Nat.pow_add]
    have e3 : pow256 (j + a) ≤ pow256 6 := pow256_le (by omega)
    have e4 : pow256 6 = 281474976710656 := by decide
    omega
  have HPA := Lib.hid hpa
  clear hpa
  go_wp2_with fail
  go_loop [12, 16] (fun p i => ∃ j : Nat, j ≤ b ∧ p = .int .i64 ((pow256 j * m : Nat) : Int) ∧ i = .int .i64 (j : Int)) (fun _ i => b - (intOf i).toNat)
  case atStart => exact ⟨0, Nat.zero_le _, by rw [pow256_zero]; simp, rfl⟩
  case round =>
    obtain ⟨j, hj, rfl, rfl⟩ := hrel
    have hp := HPA.out j hj
    by_cases hlt : j < b
    · have HP := Lib.hid (show pow256 (j + 1) * m = 256 * (pow256 j * m) by rw [pow256_succ, Nat.mul_assoc])
      generalize pow256 j * m = p at *
      go_wp2
      go_round
      case rel => exact ⟨j + 1, by omega, by rw [HP.out]; go_num, by go_num⟩
      case measure => simp [intOf]; omega
    · obtain rfl : j = b := by omega
      have e0 : (((n : Nat) : Int) == ((pow256 j * m : Nat) : Int) + (k : Int)) = true := by rw [beq_iff_eq]; have := HS.out; omega
      generalize pow256 j * m = p at *
      go_wp2
      go_ret
      exact ⟨rfl, hB⟩

theorem take_at (q : ByteArray) {i j : Nat} (h1 : 1 ≤ j) (h2 : j ≤ 8) (h3 : i + j ≤ q.size) (hv : valL (q.extract i (i + j)).data.toList ≤ 281474976710655) : takeR q i j = (((valL (q.extract i (i + j)).data.toList : Nat) : Int), 0) := by
  have hf : fitsB q i j := ⟨by omega, by omega, by omega⟩
  have e : ((i : Int) + (j : Int)).toNat = i + j := by omega
  unfold takeR
  rw [if_neg (by omega), if_neg (fun h => h hf), Int.toNat_natCast, e, if_pos hv]

theorem extract_len (q : ByteArray) {i j : Nat} (h : i + j ≤ q.size) : (q.extract i (i + j)).data.toList.length = j := by
  rw [Array.length_toList]
  show (q.extract i (i + j)).size = j
  rw [ByteArray.size_extract]
  omega

theorem extract_split (q : ByteArray) {i a b : Nat} : (q.extract i (i + (a + b))).data.toList = (q.extract i (i + a)).data.toList ++ (q.extract (i + a) (i + a + b)).data.toList := by
  have h : q.extract i (i + a) ++ q.extract (i + a) (i + a + b) = q.extract i (i + (a + b)) := by
    rw [ByteArray.extract_append_extract]
    congr 1 <;> omega
  rw [← h, ByteArray.data_append, Array.toList_append]

theorem halves_walk (a0 a1 a2 : Addr) (s : ByteArray) (at0 a b : Int) (w : World) (hE : Env a0 a1 a2 w) (hs : s.size ≤ maxLen) (_ : (Lit.int .i64 at0).wf = true) (_ : (Lit.int .i64 a).wf = true) (_ : (Lit.int .i64 b).wf = true) :
    Calls Tryd.prog 9 #[.string s, .int .i64 at0, .int .i64 a, .int .i64 b] w fun e w' => e = .returned (.bool true) ∧ Below w.heap.size w w' := by
  by_cases h1 : a < 1
  · exact halves_out a0 a1 a2 s at0 a b w hE hs (.inl (by simpa using h1))
  by_cases h2 : b < 1
  · exact halves_out a0 a1 a2 s at0 a b w hE hs (.inr (.inl ⟨by simpa using h1, by simpa using h2⟩))
  by_cases h3 : 5 < a
  · exact halves_out a0 a1 a2 s at0 a b w hE hs (.inr (.inr (.inl ⟨by simpa using h1, by simpa using h2, by simpa using h3⟩)))
  by_cases h4 : 5 < b
  · exact halves_out a0 a1 a2 s at0 a b w hE hs (.inr (.inr (.inr (.inl ⟨by simpa using h1, by simpa using h2, by simpa using h3, by simpa using h4⟩))))
  by_cases h5 : 6 < a + b
  · exact halves_out a0 a1 a2 s at0 a b w hE hs (.inr (.inr (.inr (.inr ⟨by simpa using h1, by simpa using h2, by simpa using h3, by simpa using h4, by simpa using h5⟩))))
  obtain ⟨a, rfl⟩ := Int.eq_ofNat_of_zero_le (show 0 ≤ a by omega)
  obtain ⟨b, rfl⟩ := Int.eq_ofNat_of_zero_le (show 0 ≤ b by omega)
  have hql := cut_le s
  generalize hq : s.extract 0 (min s.size 100) = q at *
  rcases takeR_cases q at0 ((a : Int) + (b : Int)) with ⟨g, hN, hg, _⟩ | ⟨i, j, c, rfl, hj, j1, j8, hij, hN, hc, hcm⟩
  · exact halves_err a0 a1 a2 s q at0 g a b (takeR q at0 a).1 (takeR q at0 a).2 w hE hs hq hql (by omega) (by omega) (by omega) (by omega) (by omega) hN hg rfl
  · obtain rfl : a + b = j := by omega
    have la := extract_len q (i := i) (j := a) (by omega)
    have lb := extract_len q (i := i + a) (j := b) (by omega)
    have va := valL_lt (q.extract i (i + a)).data.toList
    have vb := valL_lt (q.extract (i + a) (i + a + b)).data.toList
    rw [la] at va
    rw [lb] at vb
    have pa : 256 ^ a ≤ 256 ^ 5 := Nat.pow_le_pow_right (by omega) (by omega)
    have pb : 256 ^ b ≤ 256 ^ 5 := Nat.pow_le_pow_right (by omega) (by omega)
    have p5 : 256 ^ 5 = 1099511627776 := by decide
    have hM := take_at q (i := i) (j := a) (by omega) (by omega) (by omega) (by omega)
    have hK := take_at q (i := i + a) (j := b) (by omega) (by omega) (by omega) (by omega)
    refine halves_ok a0 a1 a2 s q i a b c _ _ w hE hs hq hql (by omega) (by omega) (by omega) (by omega) (by omega) (by omega) hN hM hK va (by omega) ?_
    rw [hc, extract_split, valL_append, lb]
    rfl
end Go.Proofs.YtjnfalgcfifciaaDoor
