/- A number is taken from its bytes, whatever stands ahead and behind, and bytes are those of the number that is taken from them: the walk of NumsBack. -/
import Derived.Test.YtjnfalgcfifciaaDoorPure
import Derived.Test.YtjnfalgcfifciaaDoorShown
import Derived.Test.YtjnfalgcfifciaaDoorParts
set_option linter.unusedVariables false
set_option linter.unusedSimpArgs false
namespace Go.Proofs.YtjnfalgcfifciaaDoor
open Go.RowKit

theorem mid_extract (q a r : ByteArray) (k : Nat) (h : a.size = k) : (q ++ a ++ r).extract q.size (q.size + k) = a := by
  apply ByteArray.ext
  subst h
  simp only [ByteArray.data_extract, ByteArray.data_append]
  apply Array.toList_inj.1
  simp [Array.toList_extract, List.extract]
  rw [List.drop_of_length_le (by simp), List.take_of_length_le (l := a.data.toList) (by simp)]
  simp

/-- A number is taken from its bytes, whatever stands ahead and behind. -/
theorem take_bytes (q r : ByteArray) {m j : Nat} (h1 : 1 ≤ j) (h2 : j ≤ 8) (h3 : m ≤ 281474976710655) (h4 : m < 256 ^ j) : takeR (q ++ ⟨(beL m j).toArray⟩ ++ r) q.size j = ((m : Int), 0) := by
  have hsz : (⟨(beL m j).toArray⟩ : ByteArray).size = j := by
    show (beL m j).toArray.size = j
    simp [beL_length]
  have hf : fitsB (q ++ ⟨(beL m j).toArray⟩ ++ r) q.size j := by
    refine ⟨by omega, by omega, ?_⟩
    simp only [ByteArray.size_append, hsz]
    omega
  unfold takeR
  have e : ((q.size : Int) + (j : Int)).toNat = q.size + j := by omega
  rw [if_neg (by omega), if_neg (fun h => h hf), Int.toNat_natCast, e, mid_extract q _ r j hsz]
  have hv : valL (⟨(beL m j).toArray⟩ : ByteArray).data.toList = m := valL_beL_of_lt h4
  rw [hv, if_pos h3]

/-- The two ways of Take: nothing, with an error's number; or the number whose bytes these are. -/
theorem takeR_cases (q : ByteArray) (at0 k : Int) : (∃ g, takeR q at0 k = (0, g) ∧ (g != 0) = true ∧ (g == 0) = false) ∨ ∃ (i j c : Nat), at0 = i ∧ k = j ∧ 1 ≤ j ∧ j ≤ 8 ∧ i + j ≤ q.size ∧ takeR q at0 k = ((c : Int), 0) ∧ c = valL (q.extract i (i + j)).data.toList ∧ c ≤ 281474976710655 := by
  unfold takeR
  by_cases hk : k < 1 ∨ 8 < k
  · rw [if_pos hk]; exact .inl ⟨2, rfl, rfl, rfl⟩
  rw [if_neg hk]
  by_cases hf : fitsB q at0 k
  · rw [if_neg (fun h => h hf)]
    by_cases hv : valL (q.extract at0.toNat (at0 + k).toNat).data.toList ≤ 281474976710655
    · rw [if_pos hv]
      obtain ⟨f0, f1, f2⟩ := hf
      obtain ⟨i, rfl⟩ := Int.eq_ofNat_of_zero_le f0
      obtain ⟨j, rfl⟩ := Int.eq_ofNat_of_zero_le f1
      have e : ((i : Int) + (j : Int)).toNat = i + j := by omega
      rw [e, Int.toNat_natCast] at hv ⊢
      exact .inr ⟨i, j, _, rfl, rfl, by omega, by omega, by omega, rfl, rfl, hv⟩
    · rw [if_neg hv]; exact .inl ⟨10, rfl, rfl, rfl⟩
  · rw [if_pos hf]; exact .inl ⟨11, rfl, rfl, rfl⟩

set_option maxRecDepth 100000 in
set_option maxHeartbeats 2000000 in
theorem back_of (a0 a1 a2 : Addr) (n k : Int) (s t q r a d : ByteArray) (e b f c g h : Int) (w : World) (hE : Env a0 a1 a2 w) (hs : s.size ≤ maxLen) (ht : t.size ≤ maxLen) (hq : s.extract 0 (min s.size 100) = q) (hql : q.size ≤ 100) (hr : t.extract 0 (min t.size 100) = r) (hrl : r.size ≤ 100)
    (hA : bytesR n k = (a, e)) (hal : a.size ≤ 8) (hT : takeR (q ++ a ++ r) q.size k = (b, f)) (hC : takeR q 0 k = (c, g)) (hD : bytesR c k = (d, h))
    (h1 : (e == 0) = false ∨ (e == 0) = true ∧ (f != 0) = false ∧ (b != n) = false ∧ ((a.size : Int) != k) = false)
    (h2 : (g != 0) = true ∧ (c == 0) = true ∨ ∃ j : Nat, k = j ∧ j ≤ 8 ∧ (g != 0) = false ∧ (g == 0) = true ∧ (h == 0) = true ∧ ((d.size : Int) == (j : Int)) = true ∧ j ≤ q.size ∧ ((q.extract 0 j).toList == d.toList) = true) :
    Calls Tryd.prog 5 #[.int .i64 n, .int .i64 k, .string s, .string t] w fun e w' => e = .returned (.bool true) ∧ Below w.heap.size w w' := by
  have Q := Lib.hid hq
  have HRR := Lib.hid hr
  have HA := Lib.hid hA
  have HT := Lib.hid hT
  have HC := Lib.hid hC
  have HD := Lib.hid hD
  clear hq hr hA hT hC hD
  rcases h1 with h1 | ⟨h1, h1a, h1b, h1c⟩ <;> rcases h2 with ⟨h2, h2a⟩ | ⟨j, rfl, hj8, h2, h2a, h2b, h2c, hjq, h2d⟩
  all_goals
    go_enter Tryd.func5, Tryd.ntmps5
    go_wp2_with fail
    refine (shown_any a0 a1 a2 _ hE).mono ?_
    rintro e w1 ⟨rfl, hb1⟩
    have hE1 := hE.below hb1
    go_wp2_with fail
    refine (lawCut_any s _ hs).mono ?_
    rintro e w' ⟨rfl, rfl⟩
    rw [Q.out]
    go_wp2_with fail
    refine (lawCut_any t _ ht).mono ?_
    rintro e w' ⟨rfl, rfl⟩
    rw [HRR.out]
    go_wp2_with fail
    refine (bytes_any a0 a1 a2 _ _ _ hE1).mono ?_
    rintro e w2 ⟨rfl, hb2⟩
    have hE2 := hE1.below hb2
    rw [HA.out]
    go_wp2_with fail
    refine (take_any a0 a1 a2 _ _ _ _ hE2 (by simp only [ByteArray.size_append]; unfold maxLen; omega)).mono ?_
    rintro e w3 ⟨rfl, hb3⟩
    have hE3 := hE2.below hb3
    rw [HT.out]
    go_wp2_with fail
    refine (take_any a0 a1 a2 _ _ _ _ hE3 (by unfold maxLen; omega)).mono ?_
    rintro e w4 ⟨rfl, hb4⟩
    have hE4 := hE3.below hb4
    rw [HC.out]
    go_wp2_with fail
    refine (bytes_any a0 a1 a2 _ _ _ hE4).mono ?_
    rintro e w5 ⟨rfl, hb5⟩
    rw [HD.out]
    have hB : Below w.heap.size w w5 := (((hb1.trans (hb2.mono hb1.size)).trans (hb3.mono (Nat.le_trans hb1.size hb2.size))).trans (hb4.mono (Nat.le_trans hb1.size (Nat.le_trans hb2.size hb3.size)))).trans (hb5.mono (Nat.le_trans hb1.size (Nat.le_trans hb2.size (Nat.le_trans hb3.size hb4.size))))
    clear hb1 hb2 hb3 hb4 hb5 hE1 hE2 hE3 hE4
    go_wp2
    go_ret
    exact ⟨by simp, hB⟩

theorem bytesR_size (n k : Int) : (bytesR n k).1.size ≤ 8 := by
  rcases bytesR_cases n k with ⟨_, h⟩ | ⟨_, _, h⟩ | ⟨m, j, rfl, rfl, h1, h2, h3, h4, h⟩
  · rw [h]; decide
  · rw [h]; decide
  · rw [h]
    show (beL m j).toArray.size ≤ 8
    simp [beL_length, h2]

theorem back_walk (a0 a1 a2 : Addr) (n k : Int) (s t : ByteArray) (w : World) (hE : Env a0 a1 a2 w) (_ : (Lit.int .i64 n).wf = true) (_ : (Lit.int .i64 k).wf = true) (hs : s.size ≤ maxLen) (ht : t.size ≤ maxLen) :
    Calls Tryd.prog 5 #[.int .i64 n, .int .i64 k, .string s, .string t] w fun e w' => e = .returned (.bool true) ∧ Below w.heap.size w w' := by
  have hql := cut_le s
  have hrl := cut_le t
  generalize hq : s.extract 0 (min s.size 100) = q at *
  generalize hr : t.extract 0 (min t.size 100) = r at *
  refine back_of a0 a1 a2 n k s t q r (bytesR n k).1 (bytesR (takeR q 0 k).1 k).1 (bytesR n k).2 (takeR (q ++ (bytesR n k).1 ++ r) q.size k).1 (takeR (q ++ (bytesR n k).1 ++ r) q.size k).2 (takeR q 0 k).1 (takeR q 0 k).2 (bytesR (takeR q 0 k).1 k).2 w hE hs ht hq hql hr hrl rfl (bytesR_size n k) rfl rfl rfl ?_ ?_
  · rcases bytesR_cases n k with ⟨_, h⟩ | ⟨_, _, h⟩ | ⟨m, j, rfl, rfl, h1, h2, h3, h4, h⟩
    · rw [h]; exact .inl rfl
    · rw [h]; exact .inl rfl
    · rw [h, take_bytes q r h1 h2 h3 h4]
      refine .inr ⟨rfl, rfl, by simp, ?_⟩
      have : (⟨(beL m j).toArray⟩ : ByteArray).size = j := by
        show (beL m j).toArray.size = j
        simp [beL_length]
      simp [this]
  · rcases takeR_cases q 0 k with ⟨g, h, hg, _⟩ | ⟨i, j, c, hi, rfl, h1, h2, h3, h, hc, hm⟩
    · rw [h]; exact .inl ⟨hg, rfl⟩
    · obtain rfl : i = 0 := by omega
      rw [Nat.zero_add] at h3 hc
      have hl : (q.extract 0 j).data.toList.length = j := by
        rw [Array.length_toList]
        show (q.extract 0 j).size = j
        rw [ByteArray.size_extract]
        omega
      have hlt : c < 256 ^ j := by rw [hc]; have := valL_lt (q.extract 0 j).data.toList; rwa [hl] at this
      have hb : bytesR (c : Int) (j : Int) = (q.extract 0 j, 0) := by
        rw [bytesR_of h1 h2 hm hlt, hc, beL_valL j _ hl]
      rw [h, hb]
      refine .inr ⟨j, rfl, h2, rfl, rfl, rfl, ?_, h3, by simp⟩
      rw [ByteArray.size_extract]
      simp
      omega
end Go.Proofs.YtjnfalgcfifciaaDoor
