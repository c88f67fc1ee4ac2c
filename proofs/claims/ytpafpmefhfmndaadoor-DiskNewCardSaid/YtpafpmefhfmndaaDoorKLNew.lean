/- DiskNew: a new disk has all bytes 0, and what is written to it is read. -/
import Derived.Test.YtpafpmefhfmndaaDoorKWant
set_option linter.unusedVariables false
set_option linter.unusedSimpArgs false
namespace Go.Proofs.YtpafpmefhfmndaaDoor
open Go.RowKit

theorem catS_zero (m : Nat) : catS (List.replicate m zeroS) = List.replicate (64 * m) 0 := by
  induction m with
  | zero => rfl
  | succ m ih =>
    rw [List.replicate_succ']
    rw [catS_snoc, ih]
    show List.replicate (64 * m) 0 ++ (Array.replicate 64 (0 : UInt8)).toList = _
    rw [Array.toList_replicate, List.replicate_append_replicate]
    congr 1

theorem newAll (m : Nat) : (newD m).all = ⟨Array.replicate (64 * m) 0⟩ := by
  apply ByteArray.ext
  apply Array.toList_inj.1
  show catS (newD m).ss = _
  rw [newD_ss, catS_zero, Array.toList_replicate]

theorem newBytes (m : Nat) (h2 : m ≤ 256) : bytesR (newD m) 0 (64 * (m : Int)) = (⟨Array.replicate (64 * m) 0⟩, 0) := by
  have hz : (⟨Array.replicate (64 * m) 0⟩ : ByteArray).size = 64 * m := by show (Array.replicate (64 * m) (0 : UInt8)).size = _; simp
  have hd : (newD m).down = false := rfl
  unfold bytesR
  rw [hd, if_neg (by simp), newAll, cutR_ok ⟨by omega, by omega, by rw [hz]; omega⟩]
  congr 1
  apply ByteArray.ext
  apply Array.toList_inj.1
  rw [ByteArray.data_extract, Array.toList_extract]
  unfold List.extract
  simp
  omega

theorem new_byte (m k : Nat) (hk : k < (⟨Array.replicate (64 * m) 0⟩ : ByteArray).size) : (⟨Array.replicate (64 * m) 0⟩ : ByteArray)[k] = 0 := by
  show (Array.replicate (64 * m) (0 : UInt8))[k]'_ = 0
  simp

/-- A new disk: what Write and Read answer. -/
theorem new_ways (m : Nat) (at0 : Int) (s : ByteArray) (h1 : 1 ≤ m) (h2 : m ≤ 256) :
    (inD (newD m) at0 ∧ s.size = 64 ∧ writeE (newD m) at0 s = 0 ∧ readR (writeD (newD m) at0 s) at0 = (s, 0)) ∨
    (inD (newD m) at0 ∧ s.size ≠ 64 ∧ writeE (newD m) at0 s = 181 ∧ (readR (writeD (newD m) at0 s) at0).2 = 0) ∨
    (¬ inD (newD m) at0 ∧ writeE (newD m) at0 s = 181 ∧ (readR (writeD (newD m) at0 s) at0).2 = 181) := by
  have ok := newD_ok h1 h2
  have hd : (newD m).down = false := rfl
  have hl : (newD m).left = 0 := rfl
  by_cases hi : inD (newD m) at0
  · obtain ⟨t, ht, htd, ht64⟩ := ok.get hi
    obtain ⟨j, rfl⟩ := Int.eq_ofNat_of_zero_le hi.1
    by_cases hs : s.size = 64
    · refine .inl ⟨hi, hs, by simp [writeE, hd, hi, hs, hl], ?_⟩
      have hr : (newD m).reach = 64 := by unfold Dk.reach; rw [hl, if_neg (by omega)]
      have hlt : j < (newD m).ss.length := by have := hi.2; omega
      have e : writeD (newD m) j s = { newD m with ss := (newD m).ss.set j s, left := 0, down := false, n := 1 } := by
        unfold writeD
        rw [if_pos ⟨hd, hi, hs⟩, hr]
        simp only [Int.toNat_natCast] at htd ⊢
        rw [htd, mixS_all hs ht64]
        simp [hl, newD]
      rw [e]
      unfold readR inD
      simp only [Int.toNat_natCast, List.length_set]
      rw [if_neg (by simp), if_pos ⟨by omega, by omega⟩]
      simp [List.getD, hlt]
    · have e : writeD (newD m) j s = newD m := by unfold writeD; rw [if_neg (fun e => hs e.2.2)]
      refine .inr (.inl ⟨hi, hs, by simp [writeE, hd, hs], ?_⟩)
      rw [e]
      simp [readR, hd, hi]
  · have e : writeD (newD m) at0 s = newD m := by unfold writeD; rw [if_neg (fun e => hi e.2.1)]
    refine .inr (.inr ⟨hi, by simp [writeE, hd, hi], ?_⟩)
    rw [e]
    simp [readR, hd, hi]

set_option maxRecDepth 100000 in
set_option maxHeartbeats 4000000 in
theorem newL_of (m : Nat) (at0 : Int) (s S : ByteArray) (w : World) (hE : DEnv w) (h1 : 1 ≤ m) (h2 : m ≤ 256) (hs : s.size ≤ maxLen) (hS : s.extract 0 (min (s.size : Int) 65).toNat = S) (hS65 : S.size ≤ 65) :
    Calls Tryd.prog 8 #[.int .i64 (m : Int), .int .i64 at0, .string s] w fun e w' => e = .returned (.bool true) ∧ Below w.heap.size w w' := by
  have HSS := Lib.hid hS
  clear hS
  go_enter Tryd.func8, Tryd.ntmps8
  go_wp2_with fail
  refine (shown_any _ hE).mono ?_
  rintro e w0 ⟨rfl, hb0⟩
  go_wp2_with fail
  rw [HSS.out]
  refine (new_ok m _ h1 h2).mono ?_
  rintro e w1 ⟨a, b, rfl, hD, ha, hb, hb1⟩
  have hl1 := LAt.new hb0 hD ha hb hb1
  clear hb0 hD ha hb hb1
  go_wp2_with fail
  refine (lbytes_any hE a b _ 0 (64 * (m : Int)) _ (by omega) hl1).mono ?_
  rintro e w2 ⟨rfl, hl2, _⟩
  clear hl1
  rw [newBytes m h2]
  have hTz : (⟨Array.replicate (64 * m) 0⟩ : ByteArray).size = 64 * m := by show (Array.replicate (64 * m) (0 : UInt8)).size = _; simp
  have hTb := fun k hk => new_byte m k hk
  generalize (⟨Array.replicate (64 * m) 0⟩ : ByteArray) = T at *
  have HTZ := Lib.hid hTz
  have HTB := Lib.hid hTb
  clear hTz hTb
  have HL := Lib.hid hl2
  clear hl2
  go_wp2_with fail
  go_loop [12] (fun i => ∃ k : Nat, k ≤ T.size ∧ i = .int .i64 k) (fun i => T.size - (intOf i).toNat)
  case atStart => exact ⟨0, Nat.zero_le _, rfl⟩
  case round =>
    obtain ⟨k, hk, rfl⟩ := hrel
    have hmT : T.size ≤ 16384 := by have := HTZ.out; omega
    by_cases hlt : k < T.size
    · have hb := HTB.out k hlt
      have hq : ((T[k].toNat : Int) != 0) = false := by rw [hb]; rfl
      have hq2 : (!(T[k].toNat : Int) == 0) = false := by rw [hb]; rfl
      clear hb
      go_wp2
      go_round
      case rel => exact ⟨k + 1, by omega, by go_num⟩
      case measure => simp [intOf]; omega
    · obtain rfl : k = T.size := by omega
      have hn0 : (newD m).n < 1000000 := by show (0 : Nat) < 1000000; omega
      have hml : (newD m).ss.length = m := by simp [newD]
      rcases new_ways m at0 S h1 h2 with ⟨hi, hs64, hw, hr⟩ | ⟨hi, hs64, hw, hr⟩ | ⟨hi, hw, hr⟩
      · have HW := Lib.hid hw
        have HR := Lib.hid hr
        have hi0 : (0 : Int) ≤ at0 := hi.1
        have hi1 : at0 < (m : Int) := by have := hi.2; rw [hml] at this; exact this
        have hTm : ((T.size : Int) == 64 * (m : Int)) = true := by rw [HTZ.out]; simp
        have hSS : ((S.size : Int) == 64) = true := by rw [hs64]; rfl
        clear hw hr hi hml hs64
        go_wp2_with fail
        refine (lwrite_any hE a b (newD m) at0 S _ hn0 HL.out).mono ?_
        rintro e w3 ⟨rfl, hl3, _⟩
        rw [HW.out]
        go_wp2_with fail
        refine (lread_any hE a b _ at0 _ hl3).mono ?_
        rintro e w4 ⟨rfl, hl4, _⟩
        rw [HR.out]
        go_wp2
        go_ret
        exact ⟨rfl, hl4.be⟩
      · have HW := Lib.hid hw
        have hi0 : (0 : Int) ≤ at0 := hi.1
        have hi1 : at0 < (m : Int) := by have := hi.2; rw [hml] at this; exact this
        have hTm : ((T.size : Int) == 64 * (m : Int)) = true := by rw [HTZ.out]; simp
        have hSS : ((S.size : Int) == 64) = false := by simp; omega
        have HR := Lib.hid hr
        clear hw hr hi hml hs64
        go_wp2_with fail
        refine (lwrite_any hE a b (newD m) at0 S _ hn0 HL.out).mono ?_
        rintro e w3 ⟨rfl, hl3, _⟩
        rw [HW.out]
        go_wp2_with fail
        refine (lread_any hE a b _ at0 _ hl3).mono ?_
        rintro e w4 ⟨rfl, hl4, _⟩
        rw [HR.out]
        generalize (readR (writeD (newD m) at0 S) at0).1 = rr
        go_wp2
        go_ret
        exact ⟨rfl, hl4.be⟩
      · have HW := Lib.hid hw
        have HR := Lib.hid hr
        have hTm : ((T.size : Int) == 64 * (m : Int)) = true := by rw [HTZ.out]; simp
        have hi' : at0 < 0 ∨ (m : Int) ≤ at0 := by
          unfold inD at hi
          rw [hml] at hi
          omega
        clear hw hr hi hml
        rcases hi' with hi' | hi'
        · have g0 : decide (at0 ≥ 0) = false := by simpa using hi'
          go_wp2_with fail
          refine (lwrite_any hE a b (newD m) at0 S _ hn0 HL.out).mono ?_
          rintro e w3 ⟨rfl, hl3, _⟩
          rw [HW.out]
          go_wp2_with fail
          refine (lread_any hE a b _ at0 _ hl3).mono ?_
          rintro e w4 ⟨rfl, hl4, _⟩
          rw [HR.out]
          generalize (readR (writeD (newD m) at0 S) at0).1 = rr
          go_wp2
          go_ret
          exact ⟨rfl, hl4.be⟩
        · have g0 : decide (at0 ≥ 0) = true := by simp; omega
          have g1 : decide (at0 < (m : Int)) = false := by simpa using hi'
          go_wp2_with fail
          refine (lwrite_any hE a b (newD m) at0 S _ hn0 HL.out).mono ?_
          rintro e w3 ⟨rfl, hl3, _⟩
          rw [HW.out]
          go_wp2_with fail
          refine (lread_any hE a b _ at0 _ hl3).mono ?_
          rintro e w4 ⟨rfl, hl4, _⟩
          rw [HR.out]
          generalize (readR (writeD (newD m) at0 S) at0).1 = rr
          go_wp2
          go_ret
          exact ⟨rfl, hl4.be⟩

set_option maxRecDepth 100000 in
set_option maxHeartbeats 1000000 in
theorem newL_bad (m at0 : Int) (s : ByteArray) (w : World) (hE : DEnv w) (h : m < 1 ∨ 256 < m) (hs : s.size ≤ maxLen) :
    Calls Tryd.prog 8 #[.int .i64 m, .int .i64 at0, .string s] w fun e w' => e = .returned (.bool true) ∧ Below w.heap.size w w' := by
  by_cases h1 : m < 1
  · have g1 : decide (m < 1) = true := by simpa using h1
    have H := Lib.hid h
    clear h
    go_enter Tryd.func8, Tryd.ntmps8
    go_wp2_with fail
    refine (shown_any _ hE).mono ?_
    rintro e w0 ⟨rfl, hb0⟩
    go_wp2_with fail
    refine (new_bad m _ (hE.below hb0).e H.out).mono ?_
    rintro e w1 ⟨rfl, hb1⟩
    go_wp2
    go_ret
    exact ⟨rfl, hb0.trans (hb1.mono hb0.size)⟩
  · have g1 : decide (m < 1) = false := by simpa using h1
    have g2 : decide (m > 256) = true := by simp; omega
    have H := Lib.hid h
    clear h
    go_enter Tryd.func8, Tryd.ntmps8
    go_wp2_with fail
    refine (shown_any _ hE).mono ?_
    rintro e w0 ⟨rfl, hb0⟩
    go_wp2_with fail
    refine (new_bad m _ (hE.below hb0).e H.out).mono ?_
    rintro e w1 ⟨rfl, hb1⟩
    go_wp2
    go_ret
    exact ⟨rfl, hb0.trans (hb1.mono hb0.size)⟩

theorem new_walk (m at0 : Int) (s : ByteArray) (w : World) (hE : DEnv w) (_ : (Lit.int .i64 m).wf = true) (_ : (Lit.int .i64 at0).wf = true) (hs : s.size ≤ maxLen) :
    Calls Tryd.prog 8 #[.int .i64 m, .int .i64 at0, .string s] w fun e w' => e = .returned (.bool true) ∧ Below w.heap.size w w' := by
  by_cases h : 1 ≤ m ∧ m ≤ 256
  · obtain ⟨k, rfl⟩ := Int.eq_ofNat_of_zero_le (show 0 ≤ m by omega)
    refine newL_of k at0 s _ w hE (by omega) (by omega) hs rfl ?_
    have := extract_le s 0 (min (s.size : Int) 65).toNat
    rw [ByteArray.size_extract]
    omega
  · exact newL_bad m at0 s w hE (by omega) hs
end Go.Proofs.YtpafpmefhfmndaaDoor
