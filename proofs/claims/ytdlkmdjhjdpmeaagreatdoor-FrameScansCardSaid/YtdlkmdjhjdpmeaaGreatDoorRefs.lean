/- The document's own Bytes and Take answer as package nums' do: for every number, width, text, place. -/
import Derived.Test.YtdlkmdjhjdpmeaaGreatDoorPure
import Derived.LoopTactic
import Derived.Laws.IdiomStrings
set_option linter.unusedVariables false
set_option linter.unusedSimpArgs false
namespace Go.Proofs.YtdlkmdjhjdpmeaaGreatDoor
open Go.RowKit

theorem beL_head (n j : Nat) : beL n (j + 1) = UInt8.ofNat (n / 256 ^ j % 256) :: beL n j := by
  unfold beL
  rw [List.range_succ_eq_map, List.map_cons, List.map_map]
  congr 1
  apply List.map_congr_left
  intro i hi
  rw [List.mem_range] at hi
  simp only [Function.comp, byteAt]
  congr 4
  omega

set_option maxRecDepth 100000 in
set_option maxHeartbeats 1000000 in
theorem refBytes_arg (n k : Int) (w : World) (hk : k < 1 ∨ 8 < k) :
    Calls Tryz.prog 26 #[.int .i64 n, .int .i64 k] w fun e w' => e = .returned (.tuple #[.string ⟨#[]⟩, .int .i64 2]) ∧ Below w.heap.size w w' := by
  have hkk : decide (k < 1) = true ∨ decide (k < 1) = false ∧ decide (8 < k) = true := by
    by_cases h : k < 1
    · exact .inl (by simpa using h)
    · exact .inr ⟨by simpa using h, by simp; omega⟩
  clear hk
  rcases hkk with h | ⟨h1, h⟩
  all_goals
    go_enter Tryz.func26, Tryz.ntmps26
    go_wp2
    go_ret2
    exact ⟨rfl, Below.refl _ _⟩

set_option maxRecDepth 100000 in
set_option maxHeartbeats 1000000 in
theorem refBytes_num (n k : Int) (w : World) (h1 : 1 ≤ k) (h8 : k ≤ 8) (hn : n < 0 ∨ 281474976710655 < n) :
    Calls Tryz.prog 26 #[.int .i64 n, .int .i64 k] w fun e w' => e = .returned (.tuple #[.string ⟨#[]⟩, .int .i64 10]) ∧ Below w.heap.size w w' := by
  have b1 : decide (k < 1) = false := by simp; omega
  have b8 : decide (8 < k) = false := by simp; omega
  have hr := rightB_neg hn
  clear hn
  go_enter Tryz.func26, Tryz.ntmps26
  go_wp2_with (go_at_call 33; refine (refRight_any _ _).mono ?_; rintro e w' ⟨rfl, rfl⟩)
  go_ret2
  exact ⟨rfl, Below.refl _ _⟩

theorem one_byte (x : Nat) (w : World) : (convert 41 9 (.slice (some ⟨w.heap.size, 0, none⟩) 1 1)).run Tryz.prog (w.alloc (.cells #[.int .u8 ((x : Int) % 256)] 5)) = .ok (.string ⟨#[UInt8.ofNat (x % 256)]⟩) (w.alloc (.cells #[.int .u8 ((x : Int) % 256)] 5)) := by
  have h := run_convert_bytes_back (P := Tryz.prog) (w.alloc (.cells #[.int .u8 ((x : Int) % 256)] 5)) 41 9 5 ⟨w.heap.size, 0, none⟩ 1 [UInt8.ofNat (x % 256)] Tryz.underlying41 Tryz.underlying5 Tryz.underlying9 (fun j hj => by
    obtain rfl : j = 0 := by simpa using hj
    simp [Addr.add])
  simpa using h

set_option maxRecDepth 100000 in
set_option maxHeartbeats 2000000 in
theorem refBytes_loop (n k : Nat) (w : World) (h1 : 1 ≤ k) (h8 : k ≤ 8) (hn : n ≤ 281474976710655) (r : ByteArray × Int) (hr : r = if n < 256 ^ k then (⟨(beL n k).toArray⟩, 0) else (⟨#[]⟩, 10)) :
    Calls Tryz.prog 26 #[.int .i64 (n : Int), .int .i64 (k : Int)] w fun e w' => e = .returned (.tuple #[.string r.1, .int .i64 r.2]) ∧ Below w.heap.size w w' := by
  have b1 : decide ((k : Int) < 1) = false := by simp; omega
  have b8 : decide (8 < (k : Int)) = false := by simp; omega
  have hR := rightB_yes hn
  have HRR := Lib.hid hr
  clear hr
  go_enter Tryz.func26, Tryz.ntmps26
  go_wp2_with (go_at_call 33; refine (refRight_any _ _).mono ?_; rintro e w' ⟨rfl, rfl⟩)
  go_loopw [0, 6, 7] (fun a b i wr => ∃ j : Nat, j ≤ k ∧ a = .int .i64 ((n / 256 ^ j : Nat) : Int) ∧ b = .string ⟨(beL n j).toArray⟩ ∧ i = .int .i64 (j : Int) ∧ Below w.heap.size w wr) (fun _ _ i _ => k - (intOf i).toNat)
  case atStart => exact ⟨0, Nat.zero_le _, by simp, rfl, rfl, Below.refl _ _⟩
  case round =>
    obtain ⟨j, hj, rfl, rfl, rfl, hB⟩ := hrel
    by_cases hlt : j < k
    · have hx : n / 256 ^ j ≤ 281474976710655 := Nat.le_trans (Nat.div_le_self _ _) hn
      have HN := Lib.hid (show n / 256 ^ (j + 1) = n / 256 ^ j / 256 by rw [Nat.pow_succ, ← Nat.div_div_eq_div_mul])
      have HL := Lib.hid (beL_head n j)
      have hbl : (beL n j).length ≤ 8 := by rw [beL_length]; omega
      generalize n / 256 ^ j = x at *
      generalize beL n j = l at *
      have hcv := one_byte x wr
      go_wp2
      go_roundw
      case rel => exact ⟨j + 1, by omega, by rw [HN.out]; go_num, by rw [HL.out]; rfl, by go_num, hB.alloc hB.size _⟩
      case measure => simp [intOf]; omega
    · obtain rfl : j = k := by omega
      by_cases hf : n < 256 ^ j
      · have e0 : n / 256 ^ j = 0 := Nat.div_eq_of_lt hf
        rw [if_pos hf] at HRR
        obtain rfl := HRR.out
        clear HRR
        rw [e0]
        clear e0
        have HF := Lib.hid hf
        clear hf
        go_wp2
        go_ret2
        exact ⟨rfl, hB⟩
      · have e0 : 0 < n / 256 ^ j := Nat.div_pos (Nat.le_of_not_lt hf) (Nat.pow_pos (by omega))
        rw [if_neg hf] at HRR
        obtain rfl := HRR.out
        clear HRR
        generalize n / 256 ^ j = x at *
        have e1 : ((x : Int) != 0) = true := by rw [bne_iff_ne]; omega
        clear hf
        go_wp2
        go_ret2
        exact ⟨rfl, hB⟩

theorem refBytes_any (n k : Int) (w : World) :
    Calls Tryz.prog 26 #[.int .i64 n, .int .i64 k] w fun e w' => e = .returned (.tuple #[.string (bytesR n k).1, .int .i64 (bytesR n k).2]) ∧ Below w.heap.size w w' := by
  by_cases hk : k < 1 ∨ 8 < k
  · rw [bytesR_arg hk]
    exact refBytes_arg n k w hk
  by_cases hn : n < 0 ∨ 281474976710655 < n
  · rw [bytesR_num hk (fun h => by have := h.1; have := h.2.1; omega)]
    exact refBytes_num n k w (by omega) (by omega) hn
  · obtain ⟨m, rfl⟩ := Int.eq_ofNat_of_zero_le (show 0 ≤ n by omega)
    obtain ⟨j, rfl⟩ := Int.eq_ofNat_of_zero_le (show 0 ≤ k by omega)
    refine refBytes_loop m j w (by omega) (by omega) (by omega) _ ?_
    by_cases hf : m < 256 ^ j
    · rw [if_pos hf]
      exact bytesR_ok hk ⟨by omega, by omega, hf⟩
    · rw [if_neg hf]
      exact bytesR_num hk (fun h => hf h.2.2)

set_option maxRecDepth 100000 in
set_option maxHeartbeats 1000000 in
theorem refTake_arg (s : ByteArray) (at0 k : Int) (w : World) (hk : k < 1 ∨ 8 < k) :
    Calls Tryz.prog 30 #[.string s, .int .i64 at0, .int .i64 k] w fun e w' => e = .returned (.tuple #[.int .i64 0, .int .i64 2]) ∧ w = w' := by
  have hkk : decide (k < 1) = true ∨ decide (k < 1) = false ∧ decide (8 < k) = true := by
    by_cases h : k < 1
    · exact .inl (by simpa using h)
    · exact .inr ⟨by simpa using h, by simp; omega⟩
  clear hk
  rcases hkk with h | ⟨h1, h⟩
  all_goals
    go_enter Tryz.func30, Tryz.ntmps30
    go_wp2
    go_ret2
    exact ⟨rfl, rfl⟩

set_option maxRecDepth 100000 in
set_option maxHeartbeats 1000000 in
theorem refTake_short (s : ByteArray) (at0 k : Int) (w : World) (hl : s.size ≤ 281474976710656) (hat : at0 ≤ 9223372036854775807) (h1 : 1 ≤ k) (h8 : k ≤ 8) (hf : ¬ fitsB s at0 k) :
    Calls Tryz.prog 30 #[.string s, .int .i64 at0, .int .i64 k] w fun e w' => e = .returned (.tuple #[.int .i64 0, .int .i64 11]) ∧ w = w' := by
  have b1 : decide (k < 1) = false := by simp; omega
  have b8 : decide (8 < k) = false := by simp; omega
  have HF := Lib.hid (cutR_bad hf)
  clear hf
  go_enter Tryz.func30, Tryz.ntmps30
  go_wp2_with fail
  refine (refCut_any s at0 k _ hl hat).mono ?_
  rintro e w' ⟨rfl, rfl⟩
  rw [HF.out]
  go_wp2
  go_ret2
  exact ⟨rfl, rfl⟩

set_option maxRecDepth 100000 in
set_option maxHeartbeats 2000000 in
theorem refTake_loop (s q : ByteArray) (at0 : Int) (k : Nat) (w : World) (hl : s.size ≤ 281474976710656) (hat : at0 ≤ 9223372036854775807) (h1 : 1 ≤ k) (h8 : k ≤ 8) (hq : cutR s at0 k = (q, 0)) (hqk : q.size = k) (r : Int × Int)
    (hr : r = if valL q.data.toList ≤ 281474976710655 then (((valL q.data.toList : Nat) : Int), 0) else (0, 10)) :
    Calls Tryz.prog 30 #[.string s, .int .i64 at0, .int .i64 (k : Int)] w fun e w' => e = .returned (.tuple #[.int .i64 r.1, .int .i64 r.2]) ∧ w = w' := by
  have b1 : decide ((k : Int) < 1) = false := by simp; omega
  have b8 : decide (8 < (k : Int)) = false := by simp; omega
  have HQ := Lib.hid hq
  have HK := Lib.hid hqk
  have HR := Lib.hid hr
  clear hq hqk hr
  go_enter Tryz.func30, Tryz.ntmps30
  go_wp2_with fail
  refine (refCut_any s at0 _ _ hl hat).mono ?_
  rintro e w' ⟨rfl, rfl⟩
  rw [HQ.out]
  go_wp2_with fail
  go_loop [10, 11] (fun a i => ∃ j : Nat, j ≤ k ∧ a = .int .i64 ((valL (firstB q j) : Nat) : Int) ∧ i = .int .i64 (j : Int) ∧ valL (firstB q j) ≤ 281474976710655) (fun _ i => k - (intOf i).toNat)
  case atStart => exact ⟨0, Nat.zero_le _, by simp [firstB, valL], rfl, by simp [firstB, valL]⟩
  case round =>
    obtain ⟨j, hj, rfl, rfl, hv⟩ := hrel
    by_cases hlt : j < k
    · have hjq : j < q.size := by rw [HK.out]; exact hlt
      have HS := Lib.hid (show valL (firstB q (j + 1)) = 256 * valL (firstB q j) + q[j].toNat by rw [firstB_succ q j hjq, valL_snoc])
      have hb := q[j].toNat_lt
      have HLE := Lib.hid (show valL (firstB q (j + 1)) ≤ valL q.data.toList by
        have := valL_le_append (firstB q (j + 1)) (q.data.toList.drop (j + 1))
        rw [firstB, List.take_append_drop] at this
        exact this)
      generalize valL (firstB q j) = x at *
      go_wp2
      · go_ret2
        refine ⟨?_, rfl⟩
        rw [HR.out, if_neg (by have := HLE.out; have := HS.out; omega)]
        rfl
      · go_round
        case rel => exact ⟨j + 1, by omega, by rw [HS.out]; go_num, by go_num, by rw [HS.out]; omega⟩
        case measure => simp [intOf]; omega
    · obtain rfl : j = k := by omega
      have e0 : firstB q j = q.data.toList := by rw [← HK.out]; exact firstB_all q
      rw [e0] at hv ⊢
      rw [if_pos hv] at HR
      obtain rfl := HR.out
      clear HR e0
      go_wp2
      go_ret2
      exact ⟨rfl, rfl⟩

theorem refTake_any (s : ByteArray) (at0 k : Int) (w : World) (hl : s.size ≤ 281474976710656) (hat : at0 ≤ 9223372036854775807) :
    Calls Tryz.prog 30 #[.string s, .int .i64 at0, .int .i64 k] w fun e w' => e = .returned (.tuple #[.int .i64 (takeR s at0 k).1, .int .i64 (takeR s at0 k).2]) ∧ w = w' := by
  by_cases hk : k < 1 ∨ 8 < k
  · have e : takeR s at0 k = (0, 2) := by unfold takeR; rw [if_pos hk]
    rw [e]
    exact refTake_arg s at0 k w hk
  by_cases hf : fitsB s at0 k
  · obtain ⟨j, rfl⟩ := Int.eq_ofNat_of_zero_le (show 0 ≤ k by omega)
    refine refTake_loop s _ at0 j w hl hat (by omega) (by omega) (cutR_ok hf) ?_ _ ?_
    · obtain ⟨f0, f1, f2⟩ := hf
      rw [ByteArray.size_extract]
      omega
    · unfold takeR
      rw [if_neg hk, if_neg (fun h => h hf)]
  · have e : takeR s at0 k = (0, 11) := by unfold takeR; rw [if_neg hk, if_pos hf]
    rw [e]
    exact refTake_short s at0 k w hl hat (by omega) (by omega) hf
end Go.Proofs.YtdlkmdjhjdpmeaaGreatDoor
