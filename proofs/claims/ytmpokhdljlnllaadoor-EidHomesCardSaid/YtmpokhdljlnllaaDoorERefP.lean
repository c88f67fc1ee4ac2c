/- The document's part, Right, Num, number, cut of package eid. -/
import Derived.Test.YtmpokhdljlnllaaDoorECat
import Derived.Test.YtmpokhdljlnllaaDoorERgh
set_option linter.unusedVariables false
set_option linter.unusedSimpArgs false
namespace Go.Proofs.YtmpokhdljlnllaaDoor
open Go.RowKit

theorem ix_str (q : ByteArray) (x : Int) (i : Nat) (hx : x = i) (hi : i < q.size) (w : World) : (Instr.index 9 (.string q) (.int .i64 x)).run Tryd.prog w = .ok (.int .u8 ((q[i].toNat : Nat) : Int)) w := by
  subst hx
  go_simp
theorem sl_mid (q : ByteArray) (x y : Int) (i j : Nat) (hx : x = i) (hy : y = j) (hij : i ≤ j) (hj : j ≤ q.size) (w : World) : (Instr.slice 9 (.string q) (some (.int .i64 x)) (some (.int .i64 y)) none).run Tryd.prog w = .ok (.string (q.extract i j)) w := by
  subst hx
  subst hy
  have h := run_slice_string (P := Tryd.prog) (w := w) 9 q .i64 .i64 (i : Int) (j : Int) Tryd.underlying9 (by omega) (by omega) (by omega)
  simpa using h
theorem sl_from (q : ByteArray) (x : Int) (j : Nat) (hx : x = j) (hj : j ≤ q.size) (w : World) : (Instr.slice 9 (.string q) (some (.int .i64 x)) none none).run Tryd.prog w = .ok (.string (q.extract j q.size)) w := by
  subst hx
  have hj' : 0 ≤ (j : Int) ∧ (j : Int) ≤ (q.size : Int) := by omega
  simp [Instr.slice, Instr.sliceBounds, Instr.sliceBound, asIntOf, run_underlying Tryd.underlying9, hj']
  intro hc
  omega
theorem sl_to (q : ByteArray) (j : Nat) (hj : j ≤ q.size) (w : World) : (Instr.slice 9 (.string q) none (some (.int .i64 (j : Int))) none).run Tryd.prog w = .ok (.string (q.extract 0 j)) w := by
  have hj' : 0 ≤ (j : Int) ∧ (j : Int) ≤ (q.size : Int) := by omega
  simp [Instr.slice, Instr.sliceBounds, Instr.sliceBound, asIntOf, run_underlying Tryd.underlying9, hj']
  intro hc
  omega

/-- What is said of a part's byte by its number. -/
def prtZ (sl : Bool) (x : Int) : Bool := (decide (97 ≤ x) && decide (x ≤ 122)) || (decide (48 ≤ x) && decide (x ≤ 57)) || decide (x = 45) || decide (x = 46) || (sl && decide (x = 47))
theorem prtZ_eq (sl : Bool) (c : UInt8) : prtZ sl (c.toNat : Int) = prtB sl c := by
  have h45 : (c = 45) ↔ c.toNat = 45 := u8_eq
  have h46 : (c = 46) ↔ c.toNat = 46 := u8_eq
  have h47 : (c = 47) ↔ c.toNat = 47 := u8_eq
  rw [Bool.eq_iff_iff]
  unfold prtZ prtB
  cases sl
  · simp only [Bool.or_eq_true, Bool.and_eq_true, decide_eq_true_eq, h45, h46, h47, Bool.false_eq_true, false_and, or_false]
    omega
  · simp only [Bool.or_eq_true, Bool.and_eq_true, decide_eq_true_eq, h45, h46, h47, true_and]
    omega

set_option maxRecDepth 100000 in
set_option maxHeartbeats 4000000 in
theorem part_any (s : ByteArray) (sl : Bool) (hs : s.size ≤ 4000000000) (w : World) :
    Calls Tryd.prog 35 #[.string s, .bool sl] w fun e w' => e = .returned (.bool (partB sl s.data.toList)) ∧ w' = w := by
  obtain ⟨R, hR⟩ : ∃ R, R = partB sl s.data.toList := ⟨_, rfl⟩
  have HR := Lib.hid hR
  rw [← hR]
  clear hR
  go_enter Tryd.func35, Tryd.ntmps35
  go_wp2
  go_loop [5] (fun i => ∃ j : Nat, j ≤ s.size ∧ i = .int .i64 (j : Int) ∧ ∀ (m : Nat) (hm : m < s.size), m < j → prtB sl s[m] = true) (fun i => s.size - (intOf i).toNat)
  case atStart => exact ⟨0, Nat.zero_le _, rfl, fun m _ h => absurd h (Nat.not_lt_zero _)⟩
  case round =>
    obtain ⟨j, hj, rfl, hall⟩ := hrel
    have HA := Lib.hid hall
    clear hall
    by_cases hlt : j < s.size
    · have hix : ∀ W : World, (Instr.index 9 (.string s) (.int .i64 (j : Int))).run Tryd.prog W = .ok (.int .u8 ((s[j].toNat : Nat) : Int)) W := fun W => ix_str s _ j rfl hlt W
      obtain ⟨x, hx⟩ : ∃ x : Int, x = ((s[j].toNat : Nat) : Int) := ⟨_, rfl⟩
      have HQ := Lib.hid (show prtZ sl x = prtB sl s[j] by rw [hx]; exact prtZ_eq sl s[j])
      rw [← hx] at hix
      clear hx
      have hcs : (97 ≤ x ∧ x ≤ 122) ∨ 122 < x ∨ (57 < x ∧ x < 97) ∨ (48 ≤ x ∧ x ≤ 57) ∨ x = 47 ∨ x = 46 ∨ x = 45 ∨ x < 45 := by omega
      have hb : ∃ d1 d2 d3 d4 d5 d6 d7 : Bool, decide (97 ≤ x) = d1 ∧ decide (x ≤ 122) = d2 ∧ decide (48 ≤ x) = d3 ∧ decide (x ≤ 57) = d4 ∧ (x == 45) = d5 ∧ (x == 46) = d6 ∧ (x == 47) = d7 ∧
          ((d1 = true ∧ d2 = true) ∨ (d1 = true ∧ d2 = false ∧ d3 = true ∧ d4 = false ∧ d5 = false ∧ d6 = false ∧ d7 = false) ∨ (d1 = false ∧ d3 = true ∧ d4 = true) ∨ (d1 = false ∧ d3 = true ∧ d4 = false ∧ d5 = false ∧ d6 = false ∧ d7 = false) ∨ (d1 = false ∧ d3 = false ∧ d5 = true) ∨ (d1 = false ∧ d3 = false ∧ d5 = false ∧ d6 = true) ∨ (d1 = false ∧ d3 = false ∧ d5 = false ∧ d6 = false ∧ d7 = true) ∨ (d1 = false ∧ d3 = false ∧ d5 = false ∧ d6 = false ∧ d7 = false)) := by
        refine ⟨_, _, _, _, _, _, _, rfl, rfl, rfl, rfl, rfl, rfl, rfl, ?_⟩
        simp only [decide_eq_true_eq, decide_eq_false_iff_not, beq_iff_eq, beq_eq_false_iff_ne]
        omega
      obtain ⟨d1, d2, d3, d4, d5, d6, d7, e1, e2, e3, e4, e5, e6, e7, hw⟩ := hb
      have hpv : prtZ sl x = ((d1 && d2) || (d3 && d4) || d5 || d6 || (sl && d7)) := by
        have e5' : decide (x = 45) = d5 := by rw [← e5]; rfl
        have e6' : decide (x = 46) = d6 := by rw [← e6]; rfl
        have e7' : decide (x = 47) = d7 := by rw [← e7]; rfl
        unfold prtZ
        rw [e1, e2, e3, e4, e5', e6', e7']
      have HPV := Lib.hid hpv
      clear hcs hpv
      rcases hw with ⟨rfl, rfl⟩ | ⟨rfl, rfl, rfl, rfl, rfl, rfl, rfl⟩ | ⟨rfl, rfl, rfl⟩ | ⟨rfl, rfl, rfl, rfl, rfl, rfl⟩ | ⟨rfl, rfl, rfl⟩ | ⟨rfl, rfl, rfl, rfl⟩ | ⟨rfl, rfl, rfl, rfl, rfl⟩ | ⟨rfl, rfl, rfl, rfl, rfl⟩ <;> cases sl
      all_goals
        go_wp2_with fail
        first
        | go_ret
          refine ⟨?_, rfl⟩
          have h0 := HQ.out.symm.trans (HPV.out.trans (show _ = false by first | rfl | simp))
          rw [HR.out, partB, all_not_at hlt h0]
          rfl
        | go_round
          case rel =>
            have h0 := HQ.out.symm.trans (HPV.out.trans (show _ = true by first | rfl | simp))
            exact ⟨j + 1, by omega, by go_num, all_snoc_at hlt HA.out h0⟩
          case measure => simp [intOf]; omega
    · obtain rfl : j = s.size := by omega
      have HL := Lib.hid (show s.data.toList.all (prtB sl) = true from all_of_at (fun m hm => HA.out m hm hm))
      clear hlt
      go_wp2_with fail
      go_ret
      refine ⟨?_, rfl⟩
      rw [HR.out, partB, HL.out, size_len]
      simp
      omega

/-- The first bytes of a text, all but the last one of them, and the last one. -/
theorem take_last {s : ByteArray} {j : Nat} (h : j < s.size) : s.data.toList.take (j + 1) = s.data.toList.take j ++ [s[j]] := by
  have hl : j < s.data.toList.length := by simpa using h
  rw [List.take_add_one, List.getElem?_eq_getElem hl]
  rfl

set_option maxRecDepth 100000 in
set_option maxHeartbeats 4000000 in
theorem rnumber_any (s : ByteArray) (hs : s.size ≤ 4000000000) (w : World) :
    Calls Tryd.prog 29 #[.string s] w fun e w' => e = .returned (.int .i64 ((valD s.data.toList : Nat) : Int)) ∧ w' = w := by
  obtain ⟨V, hV⟩ : ∃ V : Int, V = ((valD s.data.toList : Nat) : Int) := ⟨_, rfl⟩
  have HV := Lib.hid hV
  rw [← hV]
  clear hV
  go_enter Tryd.func29, Tryd.ntmps29
  go_wp2
  go_loop [3, 4] (fun n i => ∃ j : Nat, j ≤ s.size ∧ n = .int .i64 ((valD (s.data.toList.take j) : Nat) : Int) ∧ i = .int .i64 (j : Int)) (fun _ i => s.size - (intOf i).toNat)
  case atStart => exact ⟨0, Nat.zero_le _, rfl, rfl⟩
  case round =>
    obtain ⟨j, hj, rfl, rfl⟩ := hrel
    by_cases hlt : j < s.size
    · have hix : ∀ W : World, (Instr.index 9 (.string s) (.int .i64 (j : Int))).run Tryd.prog W = .ok (.int .u8 ((s[j].toNat : Nat) : Int)) W := fun W => ix_str s _ j rfl hlt W
      have hle : valD (s.data.toList.take j) ≤ 1000000000 := by
        unfold valD
        have : ∀ (l : List UInt8) (a : Nat), a ≤ 1000000000 → l.foldl valN a ≤ 1000000000 := by
          intro l
          induction l with
          | nil => intro a h; exact h
          | cons c r ih => intro a h; rw [List.foldl_cons]; exact ih _ (by unfold valN; omega)
        exact this _ 0 (by omega)
      have HS := Lib.hid (show valD (s.data.toList.take (j + 1)) = valN (valD (s.data.toList.take j)) s[j] by rw [take_last hlt]; unfold valD; rw [List.foldl_append]; rfl)
      have hb := s[j].toNat_lt
      unfold valN at HS
      generalize valD (s.data.toList.take j) = n at *
      generalize s[j].toNat = x at *
      go_wp2_with fail
      go_round
      case rel => exact ⟨j + 1, by omega, by rw [HS.out]; go_num, by go_num⟩
      case measure => simp [intOf]; omega
    · obtain rfl : j = s.size := by omega
      have HE := Lib.hid (show s.data.toList.take s.size = s.data.toList from List.take_of_length_le (by rw [size_len]; exact Nat.le_refl _))
      rw [HE.out, ← HV.out]
      clear hlt HE
      go_wp2_with fail
      go_ret
      exact ⟨rfl, rfl⟩
end Go.Proofs.YtmpokhdljlnllaaDoor
