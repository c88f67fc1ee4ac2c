/- Contract of Decode of package head: for every text of at most a million bytes, and place. -/
import Derived.Test.YtljfgchmogdljaaGreatDoorG3
import Derived.Test.YtljfgchmogdljaaGreatDoorG4
set_option linter.unusedVariables false
set_option linter.unusedSimpArgs false
namespace Go.Proofs.YtljfgchmogdljaaGreatDoor
open Go.RowKit

set_option maxHeartbeats 1000000 in
theorem hdecode_of_bad (b0 b1 b2 b3 b : Addr) (c : Int) (s : ByteArray) (at0 m t n k : Int) (w : World) (hE : EnvH b0 b1 b2 b3 w) (hs : SentH b0 b1 b2 b3 b c)
    (h : Calls Tryz.prog 93 #[.string s, .int .i64 at0] w fun e w' => e = .returned (.tuple #[.agg #[.int .i64 m, .int .i64 t, .int .i64 n, .int .i64 k], sentV b]) ∧ Below w.heap.size w w') :
    Calls Tryz.prog 80 #[.string s, .int .i64 at0] w fun e w' => e = .returned (.tuple #[.int .i64 0, .int .i64 0, .int .i64 0, .int .i64 c]) ∧ Below w.heap.size w w' := by
  have H := Lib.hid h
  clear h
  go_enter Tryz.func80, Tryz.ntmps80
  go_wp2_with fail
  refine H.out.mono ?_
  rintro e w1 ⟨rfl, hb1⟩
  go_wp2_with fail
  refine (madep_bad b0 b1 b2 b3 b c _ _ _ _ _ (hE.below hb1) hs).mono ?_
  rintro e w2 ⟨rfl, hb2⟩
  have hB := hb1.trans (hb2.mono hb1.size)
  clear hb1 hb2
  go_wp2
  go_quiet (fail)
  go_wp2
  exact bodyPost_ret (v := .tuple #[.int .i64 0, .int .i64 0, .int .i64 0, .int .i64 c]) (by simp [results, Tryz.results80, go_sem]) rfl ⟨rfl, below_drewN (hB.alloc hB.size _) _⟩

set_option maxHeartbeats 1000000 in
theorem hdecode_of_ok (s : ByteArray) (at0 m t n k : Int) (w : World)
    (h : Calls Tryz.prog 93 #[.string s, .int .i64 at0] w fun e w' => e = .returned (.tuple #[.agg #[.int .i64 m, .int .i64 t, .int .i64 n, .int .i64 k], .nilIface]) ∧ Below w.heap.size w w') :
    Calls Tryz.prog 80 #[.string s, .int .i64 at0] w fun e w' => e = .returned (.tuple #[.int .i64 m, .int .i64 n, .int .i64 k, .int .i64 0]) ∧ Below w.heap.size w w' := by
  have H := Lib.hid h
  clear h
  go_enter Tryz.func80, Tryz.ntmps80
  go_wp2_with fail
  refine H.out.mono ?_
  rintro e w1 ⟨rfl, hb1⟩
  go_wp2_with fail
  refine (madep_ok _ _ _ _ _).mono ?_
  rintro e w2 ⟨rfl, hb2⟩
  have hB := hb1.trans (hb2.mono hb1.size)
  clear hb1 hb2
  go_wp2
  go_quiet (fail)
  go_wp2
  exact bodyPost_ret (v := .tuple #[.int .i64 m, .int .i64 n, .int .i64 k, .int .i64 0]) (by simp [results, Tryz.results80, go_sem]) rfl ⟨rfl, below_drewN (hB.alloc hB.size _) _⟩

/-- What Decode answers: the major, the number, the place behind, the error's number. -/
def hdecR (s : ByteArray) (at0 : Int) : Int × Int × Int × Int :=
  if at0 < 0 ∨ (s.size : Int) ≤ at0 then (0, 0, 0, 11) else
    match hdL (s.data.toList.drop at0.toNat) with
    | .error e => (0, 0, 0, e)
    | .ok (m, n, k) => ((m : Int), (n : Int), at0 + (k : Int), 0)

theorem hdecR_out {s : ByteArray} {at0 : Int} (h : at0 < 0 ∨ (s.size : Int) ≤ at0) : hdecR s at0 = (0, 0, 0, 11) := if_pos h
theorem hdecR_err {s : ByteArray} {i : Nat} {e : Int} (hi : i < s.size) (h : hdL (s.data.toList.drop i) = .error e) : hdecR s (i : Int) = (0, 0, 0, e) := by
  unfold hdecR
  rw [if_neg (by omega), Int.toNat_natCast, h]
theorem hdecR_ok {s : ByteArray} {i m n k : Nat} (hi : i < s.size) (h : hdL (s.data.toList.drop i) = .ok (m, n, k)) : hdecR s (i : Int) = ((m : Int), (n : Int), (i : Int) + (k : Int), 0) := by
  unfold hdecR
  rw [if_neg (by omega), Int.toNat_natCast, h]

/-- One byte, taken. -/
theorem take_one {s : ByteArray} {i : Nat} (hi : i < s.size) : takeR s (i : Int) 1 = ((s[i].toNat : Int), 0) := by
  have hf : fitsB s (i : Int) 1 := ⟨by omega, by omega, by omega⟩
  have e : (s.extract (i : Int).toNat ((i : Int) + 1).toNat).data.toList = [s[i]] := by
    rw [show ((i : Int) + 1).toNat = i + 1 by omega, Int.toNat_natCast]
    apply List.ext_getElem
    · rw [Array.length_toList]; show (s.extract i (i + 1)).size = 1; rw [ByteArray.size_extract]; omega
    · intro n h1 h2
      simp only [List.length_singleton] at h2
      obtain rfl : n = 0 := by omega
      simp [ByteArray.data_extract]
      rfl
  unfold takeR
  rw [if_neg (by omega), if_neg (fun h => h hf), e]
  have hb := s[i].toNat_lt
  have hv : valL [s[i]] = s[i].toNat := by simp [valL]
  rw [hv, if_pos (by omega)]
theorem take_out {s : ByteArray} {at0 : Int} (h : at0 < 0 ∨ (s.size : Int) ≤ at0) : takeR s at0 1 = (0, 11) := by
  unfold takeR
  rw [if_neg (by omega), if_pos (fun hf => by obtain ⟨h0, h1, h2⟩ := hf; omega)]
/-- Bytes behind the first one, taken. -/
theorem take_behind {s : ByteArray} {i k : Nat} (h1 : 1 ≤ k) (h8 : k ≤ 8) (hs : i + 1 ≤ s.size) :
    takeR s ((i : Int) + 1) (k : Int) = if (s.data.toList.drop (i + 1)).length < k then (0, 11) else if 281474976710655 < valL ((s.data.toList.drop (i + 1)).take k) then (0, 10) else (((valL ((s.data.toList.drop (i + 1)).take k) : Nat) : Int), 0) := by
  have hl : (s.data.toList.drop (i + 1)).length = s.size - (i + 1) := by rw [List.length_drop, Array.length_toList]; rfl
  unfold takeR
  rw [if_neg (by omega), hl]
  by_cases hf : fitsB s ((i : Int) + 1) k
  · have hf' := hf
    obtain ⟨f0, f1, f2⟩ := hf'
    have e : (s.extract ((i : Int) + 1).toNat ((i : Int) + 1 + (k : Int)).toNat).data.toList = (s.data.toList.drop (i + 1)).take k := by
      rw [show ((i : Int) + 1).toNat = i + 1 by omega, show ((i : Int) + 1 + (k : Int)).toNat = i + 1 + k by omega, ByteArray.data_extract, Array.toList_extract, List.extract_eq_take_drop]
      congr 1
      omega
    rw [if_neg (fun h => h hf), e, if_neg (show ¬ s.size - (i + 1) < k by omega)]
    by_cases hv : valL ((s.data.toList.drop (i + 1)).take k) ≤ 281474976710655
    · rw [if_pos hv, if_neg (Nat.not_lt.2 hv)]
    · rw [if_neg hv, if_pos (Nat.lt_of_not_le hv)]
  · rw [if_pos hf]
    have : s.size - (i + 1) < k := by
      refine Nat.lt_of_not_le fun h => hf ⟨by omega, by omega, by omega⟩
    rw [if_pos this]

theorem widI_widT {t : Nat} (h : t ≤ 27) : widI (t : Int) = ((widT t : Nat) : Int) := by
  unfold widI widT
  by_cases h24 : t < 24
  · rw [if_pos h24, if_neg (by omega), if_neg (by omega), if_neg (by omega), if_neg (by omega)]; rfl
  · have : t = 24 ∨ t = 25 ∨ t = 26 ∨ t = 27 := by omega
    rcases this with rfl | rfl | rfl | rfl <;> decide
theorem tag_wid {t v : Nat} (h1 : 24 ≤ t) (h2 : t ≤ 27) : tagN v = t ↔ wid v = widT t := by
  have ht : t = 24 ∨ t = 25 ∨ t = 26 ∨ t = 27 := by omega
  rcases ht with rfl | rfl | rfl | rfl <;> rcases wid_cases v with ⟨k1, k2, k3⟩ | ⟨k0, k1, k2, k3⟩ | ⟨k0, k1, k2, k3⟩ | ⟨k0, k1, k2, k3⟩ | ⟨k0, k2, k3⟩ <;> rw [k2, k3] <;> simp [widT] <;> omega
theorem widT_bd {t : Nat} (h1 : 24 ≤ t) (h2 : t ≤ 27) : 1 ≤ widT t ∧ widT t ≤ 8 := by
  have ht : t = 24 ∨ t = 25 ∨ t = 26 ∨ t = 27 := by omega
  rcases ht with rfl | rfl | rfl | rfl <;> decide
theorem majB_nat (m : Nat) : majB (m : Int) = decide (Maj m) := by
  unfold majB
  rw [decide_eq_decide]
  unfold Maj
  omega

theorem hdecode_in (s : ByteArray) (i : Nat) (w : World) (hH : HeadOK w) (hs : s.size ≤ 1000000) (hi : i < s.size) (b : UInt8) (hb : s[i] = b) (r : List UInt8) (hr : s.data.toList.drop (i + 1) = r) (hl : s.data.toList.drop i = b :: r) :
    Calls Tryz.prog 80 #[.string s, .int .i64 (i : Int)] w fun e w' => e = .returned (.tuple #[.int .i64 (hdecR s i).1, .int .i64 (hdecR s i).2.1, .int .i64 (hdecR s i).2.2.1, .int .i64 (hdecR s i).2.2.2]) ∧ Below w.heap.size w w' := by
  obtain ⟨a0, a1, a2, b0, b1, b2, b3, hN, hE⟩ := hH
  have hm' : s.size ≤ maxLen := by unfold maxLen; omega
  have hlt := b.toNat_lt
  have hf := take_one hi
  rw [hb] at hf
  have hM : ((b.toNat : Nat) : Int) / 32 = ((b.toNat / 32 : Nat) : Int) := by omega
  have hT : ((b.toNat : Nat) : Int) % 32 = ((b.toNat % 32 : Nat) : Int) := by omega
  by_cases hbad : ¬ Maj (b.toNat / 32) ∨ 27 < b.toNat % 32
  · have hd : hdL (s.data.toList.drop i) = .error 20 := by rw [hl, hdL, if_pos hbad]
    rw [hdecR_err hi hd]
    refine hdecode_of_bad b0 b1 b2 b3 b3 20 s i 0 0 0 0 w hE (.inr (.inr (.inr ⟨rfl, rfl⟩))) (read_bad a0 a1 a2 b0 b1 b2 b3 b3 s i _ 0 w hN hE hm' hf (by omega) (by omega) true (decide (Maj (b.toNat / 32))) (decide (b.toNat % 32 ≤ 27)) rfl (by rw [hM]; exact majB_nat _) (by rw [hT, decide_eq_decide]; omega) ?_)
    rcases hbad with hbad | hbad
    · rw [decide_eq_false hbad]; rfl
    · rw [decide_eq_false (show ¬ b.toNat % 32 ≤ 27 by omega)]
      cases decide (Maj (b.toNat / 32)) <;> rfl
  · have hmaj : Maj (b.toNat / 32) := Decidable.byContradiction fun e => hbad (.inl e)
    have ht : b.toNat % 32 ≤ 27 := Nat.le_of_not_lt fun e => hbad (.inr e)
    have hgo := fun x e2 hx hxm u0 u1 u2 hu0 hu1 g hg hu2 k hk hk0 hk8 v hvv => read_go a0 a1 a2 b0 b1 b2 b3 s i _ 0 w hN hE hm' (by omega) (by omega) hf (by omega) (by omega) _ _ hM hT true true true rfl (by rw [majB_nat, decide_eq_true hmaj]) (decide_eq_true (by omega)) rfl x e2 hx hxm u0 u1 u2 hu0 hu1 g hg hu2 k hk hk0 hk8 v hvv
    by_cases h24 : b.toNat % 32 < 24
    · have hd : hdL (s.data.toList.drop i) = .ok (b.toNat / 32, b.toNat % 32, 1) := by rw [hl, hdL, if_neg hbad, if_pos h24]
      rw [hdecR_ok hi hd]
      have hw : widI ((b.toNat % 32 : Nat) : Int) = 0 := by rw [widI_widT ht]; unfold widT; rw [if_pos h24]; rfl
      have h := hgo (b.toNat % 32) 0 (by unfold argR; rw [if_pos hw]) (by omega) true true true rfl rfl _ rfl (by rw [tag_small h24]; simp) 0 hw (by omega) (by omega) .nilIface rfl
      have e : (i : Int) + ((1 : Nat) : Int) = (i : Int) + 1 + 0 := by omega
      rw [e]
      exact hdecode_of_ok s i _ _ _ _ w h
    · have hwb := widT_bd (Nat.le_of_not_lt h24) ht
      have hwi := widI_widT ht
      have harg : argR s ((i : Int) + 1) ((b.toNat % 32 : Nat) : Int) = takeR s ((i : Int) + 1) ((widT (b.toNat % 32) : Nat) : Int) := by
        unfold argR; rw [hwi, if_neg (by omega)]
      rw [take_behind hwb.1 hwb.2 (by omega), hr] at harg
      have htw := @tag_wid (b.toNat % 32) (valL (r.take (widT (b.toNat % 32)))) (Nat.le_of_not_lt h24) ht
      generalize hk : widT (b.toNat % 32) = k at *
      by_cases h3 : r.length < k
      · have hd : hdL (s.data.toList.drop i) = .error 11 := by rw [hl, hdL, if_neg hbad, if_neg h24, hk, if_pos h3]
        rw [hdecR_err hi hd]
        rw [if_pos h3] at harg
        exact hdecode_of_bad b0 b1 b2 b3 b2 11 s i _ _ _ _ w hE (.inr (.inr (.inl ⟨rfl, rfl⟩))) (hgo 0 11 harg (by omega) false true _ rfl rfl _ rfl rfl _ hwi (by omega) (by omega) _ rfl)
      · rw [if_neg h3] at harg
        by_cases h4 : 281474976710655 < valL (r.take k)
        · have hd : hdL (s.data.toList.drop i) = .error 10 := by rw [hl, hdL, if_neg hbad, if_neg h24, hk, if_neg h3, if_pos h4]
          rw [hdecR_err hi hd]
          rw [if_pos h4] at harg
          exact hdecode_of_bad b0 b1 b2 b3 b1 10 s i _ _ _ _ w hE (.inr (.inl ⟨rfl, rfl⟩)) (hgo 0 10 harg (by omega) true false _ rfl rfl _ rfl rfl _ hwi (by omega) (by omega) _ rfl)
        · rw [if_neg h4] at harg
          by_cases h5 : wid (valL (r.take k)) ≠ k
          · have hd : hdL (s.data.toList.drop i) = .error 20 := by rw [hl, hdL, if_neg hbad, if_neg h24, hk, if_neg h3, if_neg h4, if_pos h5]
            rw [hdecR_err hi hd]
            have hne : tagN (valL (r.take k)) ≠ b.toNat % 32 := fun e => h5 (htw.1 e)
            exact hdecode_of_bad b0 b1 b2 b3 b3 20 s i _ _ _ _ w hE (.inr (.inr (.inr ⟨rfl, rfl⟩))) (hgo _ 0 harg (by omega) true true false rfl rfl _ rfl (by rw [beq_eq_false_iff_ne]; omega) _ hwi (by omega) (by omega) _ rfl)
          · have h5' : wid (valL (r.take k)) = k := Decidable.byContradiction h5
            have hd : hdL (s.data.toList.drop i) = .ok (b.toNat / 32, valL (r.take k), 1 + k) := by rw [hl, hdL, if_neg hbad, if_neg h24, hk, if_neg h3, if_neg h4, if_neg h5]
            rw [hdecR_ok hi hd]
            have heq : tagN (valL (r.take k)) = b.toNat % 32 := htw.2 h5'
            have h := hgo _ 0 harg (by omega) true true true rfl rfl _ rfl (by rw [heq]; simp) _ hwi (by omega) (by omega) .nilIface rfl
            have e : (i : Int) + ((1 + k : Nat) : Int) = (i : Int) + 1 + (k : Int) := by omega
            rw [e]
            exact hdecode_of_ok s i _ _ _ _ w h

theorem hdecode_any (s : ByteArray) (at0 : Int) (w : World) (hH : HeadOK w) (hs : s.size ≤ 1000000) :
    Calls Tryz.prog 80 #[.string s, .int .i64 at0] w fun e w' => e = .returned (.tuple #[.int .i64 (hdecR s at0).1, .int .i64 (hdecR s at0).2.1, .int .i64 (hdecR s at0).2.2.1, .int .i64 (hdecR s at0).2.2.2]) ∧ Below w.heap.size w w' := by
  by_cases h : at0 < 0 ∨ (s.size : Int) ≤ at0
  · rw [hdecR_out h]
    obtain ⟨a0, a1, a2, b0, b1, b2, b3, hN, hE⟩ := hH
    exact hdecode_of_bad b0 b1 b2 b3 b2 11 s at0 0 0 0 0 w hE (.inr (.inr (.inl ⟨rfl, rfl⟩))) (read_bad a0 a1 a2 b0 b1 b2 b3 b2 s at0 0 11 w hN hE (by unfold maxLen; omega) (take_out h) (by omega) (by omega) false _ _ rfl rfl rfl rfl)
  · obtain ⟨i, rfl⟩ := Int.eq_ofNat_of_zero_le (show 0 ≤ at0 by omega)
    have hi : i < s.size := by omega
    have hl : s.data.toList.drop i = s[i] :: s.data.toList.drop (i + 1) := List.drop_eq_getElem_cons (by simpa using hi)
    exact hdecode_in s i w hH hs hi _ rfl _ rfl hl
end Go.Proofs.YtljfgchmogdljaaGreatDoor
