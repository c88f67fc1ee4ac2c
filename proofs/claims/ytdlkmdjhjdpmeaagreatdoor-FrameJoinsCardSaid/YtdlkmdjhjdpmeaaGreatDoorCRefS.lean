/- The document's own Sum, Of and Same: they answer as package crc's do. -/
import Derived.Test.YtdlkmdjhjdpmeaaGreatDoorCRef
set_option linter.unusedVariables false
set_option linter.unusedSimpArgs false
namespace Go.Proofs.YtdlkmdjhjdpmeaaGreatDoor
open Go.RowKit

theorem and_low (v : Nat) (h : v < 4294967296) : bits .and .u32 (v : Int) 65535 = ((v % 2 ^ 16 : Nat) : Int) := by
  have := u32_and_nat v 65535 h (by omega)
  rw [show ((65535 : Nat) : Int) = 65535 from rfl] at this
  rw [this, show (65535 : Nat) = 2 ^ 16 - 1 from rfl, Nat.and_two_pow_sub_one_eq_mod]
theorem and_all (v : Nat) (h : v < 4294967296) : bits .and .u32 (v : Int) 4294967295 = ((v % 2 ^ 32 : Nat) : Int) := by
  have := u32_and_nat v 4294967295 h (by omega)
  rw [show ((4294967295 : Nat) : Int) = 4294967295 from rfl] at this
  rw [this, show (4294967295 : Nat) = 2 ^ 32 - 1 from rfl, Nat.and_two_pow_sub_one_eq_mod]
theorem xor_all (v m : Nat) (h : v < 4294967296) (hm : m < 4294967296) : bits .xor .u32 (v : Int) (m : Int) = ((v ^^^ m : Nat) : Int) := u32_xor_nat v m h hm

set_option maxRecDepth 100000 in
set_option maxHeartbeats 2000000 in
theorem rsum16 (xs : List Nat) (A : Option Addr) (c : Nat) (s : ByteArray) (w : World) (hs : s.size ≤ 1000000) (hl : xs.length = 256) (hf : Fit32 xs) (hr : U32Rd w A xs) :
    Calls Tryz.prog 44 #[.int .i64 1, .slice A 256 c, .string s] w fun e w' => e = .returned (.tuple #[.int .u32 ((sumT 16 xs s.data.toList : Nat) : Int), .int .i64 0]) ∧ w = w' := by
  have htwo : twoB 1 = true := by decide
  have HL := Lib.hid hl
  have HF := Lib.hid hf
  have HR := Lib.hid hr
  clear hl hf hr
  go_enter Tryz.func44, Tryz.ntmps44
  go_wp2_with fail
  refine (rright_any _ _).mono ?_
  rintro e w' ⟨rfl, rfl⟩
  rw [htwo]
  go_wp2
  go_loop [9, 10] (fun r i => ∃ j : Nat, j ≤ s.size ∧ r = .int .u32 ((runT 16 xs 65535 (firstB s j) : Nat) : Int) ∧ i = .int .i64 (j : Int)) (fun _ i => s.size - (intOf i).toNat)
  case atStart => exact ⟨0, Nat.zero_le _, rfl, rfl⟩
  case round =>
    obtain ⟨j, hj, rfl, rfl⟩ := hrel
    by_cases hlt : j < s.size
    · have HS := Lib.hid (show runT 16 xs 65535 (firstB s (j + 1)) = fedT 16 xs (runT 16 xs 65535 (firstB s j)) s[j].toNat by rw [firstB_succ s j hlt, runT_snoc])
      have hx : runT 16 xs 65535 (firstB s j) < 65536 := runT_lt (w := 16) xs _ _ (by omega)
      generalize runT 16 xs 65535 (firstB s j) = x at *
      have hb := s[j].toNat_lt
      have hix := fun w => (show (Instr.index 9 (.string s) (.int .i64 (j : Int))).run Tryz.prog w = .ok (.int .u8 ((s[j].toNat : Nat) : Int)) w by go_simp)
      generalize s[j].toNat = b at *
      obtain ⟨i, hi⟩ : ∃ i, i = x % 256 ^^^ b := ⟨_, rfl⟩
      have hi2 : i < 256 := by rw [hi]; exact xor256 (Nat.mod_lt _ (by omega)) hb
      obtain ⟨v, hv⟩ : ∃ v, xs[i]? = some v := ⟨_, List.getElem?_eq_getElem (by have := HL.out; omega)⟩
      obtain ⟨ad, rfl, hcell⟩ := HR.out i v hv
      have hv2 : v < 4294967296 := HF.out v (List.mem_of_getElem? hv)
      have hbw : (b : Int) % 4294967296 = (b : Int) := by omega
      have hX : bits .xor .u32 ((x : Int) % 256) (b : Int) = (i : Int) := by
        have := u32_xor_nat (x % 256) b (by omega) (by omega)
        rw [hi, ← this]; congr 1
      obtain ⟨u, hu⟩ : ∃ u, u = v % 2 ^ 16 := ⟨_, rfl⟩
      have hA : bits .and .u32 (v : Int) 65535 = (u : Int) := by rw [hu]; exact and_low v hv2
      have hul : u < 4294967296 := by rw [hu]; omega
      obtain ⟨z, hz⟩ : ∃ z, z = x / 256 := ⟨_, rfl⟩
      have hzi : (x : Int) / 256 = (z : Int) := by omega
      have hzl : z < 4294967296 := by omega
      have hXz := u32_xor_nat z u hzl hul
      have HD := Lib.hid (show fedT 16 xs x b = z ^^^ u by
        unfold fedT
        rw [← hi, List.getD_eq_getElem?_getD, hv, hz, hu]; rfl)
      have ti : (i : Int) < 256 := by omega
      clear hi hv hu hz
      generalize z ^^^ u = q at *
      go_wp2
      go_round
      case rel => exact ⟨j + 1, by omega, by rw [HS.out, HD.out], by go_num⟩
      case measure => simp [intOf]; omega
    · obtain rfl : j = s.size := by omega
      have hx : runT 16 xs 65535 (firstB s s.size) < 65536 := runT_lt (w := 16) xs _ _ (by omega)
      have HU := Lib.hid (show sumT 16 xs s.data.toList = runT 16 xs 65535 (firstB s s.size) ^^^ 65535 by rw [firstB_all]; rfl)
      generalize runT 16 xs 65535 (firstB s s.size) = x at *
      have hX := xor_all x 65535 (by omega) (by omega)
      rw [show ((65535 : Nat) : Int) = 65535 from rfl] at hX
      rw [← HU.out] at hX
      clear hj hlt
      go_wp2
      go_ret2
      exact ⟨rfl, rfl⟩

set_option maxRecDepth 100000 in
set_option maxHeartbeats 1000000 in
theorem rsum16_tab (n : Nat) (A : Option Addr) (c : Nat) (s : ByteArray) (w : World) (hl : n ≠ 256) :
    Calls Tryz.prog 44 #[.int .i64 1, .slice A n c, .string s] w fun e w' => e = .returned (.tuple #[.int .u32 0, .int .i64 50]) ∧ w = w' := by
  have htwo : twoB 1 = true := by decide
  have hn : ((n : Int) != 256) = true := by rw [bne_iff_ne]; omega
  clear hl
  go_enter Tryz.func44, Tryz.ntmps44
  go_wp2_with fail
  refine (rright_any _ _).mono ?_
  rintro e w' ⟨rfl, rfl⟩
  rw [htwo]
  go_wp2
  go_ret2
  exact ⟨rfl, rfl⟩

set_option maxRecDepth 100000 in
set_option maxHeartbeats 2000000 in
theorem rsum32 (xs : List Nat) (A : Option Addr) (c : Nat) (s : ByteArray) (w : World) (hs : s.size ≤ 1000000) (hl : xs.length = 256) (hf : Fit32 xs) (hr : U32Rd w A xs) :
    Calls Tryz.prog 44 #[.int .i64 2, .slice A 256 c, .string s] w fun e w' => e = .returned (.tuple #[.int .u32 ((sumT 32 xs s.data.toList : Nat) : Int), .int .i64 0]) ∧ w = w' := by
  have htwo : twoB 2 = true := by decide
  have HL := Lib.hid hl
  have HF := Lib.hid hf
  have HR := Lib.hid hr
  clear hl hf hr
  go_enter Tryz.func44, Tryz.ntmps44
  go_wp2_with fail
  refine (rright_any _ _).mono ?_
  rintro e w' ⟨rfl, rfl⟩
  rw [htwo]
  go_wp2
  go_loop [9, 10] (fun r i => ∃ j : Nat, j ≤ s.size ∧ r = .int .u32 ((runT 32 xs 4294967295 (firstB s j) : Nat) : Int) ∧ i = .int .i64 (j : Int)) (fun _ i => s.size - (intOf i).toNat)
  case atStart => exact ⟨0, Nat.zero_le _, rfl, rfl⟩
  case round =>
    obtain ⟨j, hj, rfl, rfl⟩ := hrel
    by_cases hlt : j < s.size
    · have HS := Lib.hid (show runT 32 xs 4294967295 (firstB s (j + 1)) = fedT 32 xs (runT 32 xs 4294967295 (firstB s j)) s[j].toNat by rw [firstB_succ s j hlt, runT_snoc])
      have hx : runT 32 xs 4294967295 (firstB s j) < 4294967296 := runT_lt (w := 32) xs _ _ (by omega)
      generalize runT 32 xs 4294967295 (firstB s j) = x at *
      have hb := s[j].toNat_lt
      have hix := fun w => (show (Instr.index 9 (.string s) (.int .i64 (j : Int))).run Tryz.prog w = .ok (.int .u8 ((s[j].toNat : Nat) : Int)) w by go_simp)
      generalize s[j].toNat = b at *
      obtain ⟨i, hi⟩ : ∃ i, i = x % 256 ^^^ b := ⟨_, rfl⟩
      have hi2 : i < 256 := by rw [hi]; exact xor256 (Nat.mod_lt _ (by omega)) hb
      obtain ⟨v, hv⟩ : ∃ v, xs[i]? = some v := ⟨_, List.getElem?_eq_getElem (by have := HL.out; omega)⟩
      obtain ⟨ad, rfl, hcell⟩ := HR.out i v hv
      have hv2 : v < 4294967296 := HF.out v (List.mem_of_getElem? hv)
      have hbw : (b : Int) % 4294967296 = (b : Int) := by omega
      have hX : bits .xor .u32 ((x : Int) % 256) (b : Int) = (i : Int) := by
        have := u32_xor_nat (x % 256) b (by omega) (by omega)
        rw [hi, ← this]; congr 1
      obtain ⟨u, hu⟩ : ∃ u, u = v % 2 ^ 32 := ⟨_, rfl⟩
      have hA : bits .and .u32 (v : Int) 4294967295 = (u : Int) := by rw [hu]; exact and_all v hv2
      have hul : u < 4294967296 := by rw [hu]; omega
      obtain ⟨z, hz⟩ : ∃ z, z = x / 256 := ⟨_, rfl⟩
      have hzi : (x : Int) / 256 = (z : Int) := by omega
      have hzl : z < 4294967296 := by omega
      have hXz := u32_xor_nat z u hzl hul
      have HD := Lib.hid (show fedT 32 xs x b = z ^^^ u by
        unfold fedT
        rw [← hi, List.getD_eq_getElem?_getD, hv, hz, hu]; rfl)
      have ti : (i : Int) < 256 := by omega
      clear hi hv hu hz
      generalize z ^^^ u = q at *
      go_wp2
      go_round
      case rel => exact ⟨j + 1, by omega, by rw [HS.out, HD.out], by go_num⟩
      case measure => simp [intOf]; omega
    · obtain rfl : j = s.size := by omega
      have hx : runT 32 xs 4294967295 (firstB s s.size) < 4294967296 := runT_lt (w := 32) xs _ _ (by omega)
      have HU := Lib.hid (show sumT 32 xs s.data.toList = runT 32 xs 4294967295 (firstB s s.size) ^^^ 4294967295 by rw [firstB_all]; rfl)
      generalize runT 32 xs 4294967295 (firstB s s.size) = x at *
      have hX := xor_all x 4294967295 (by omega) (by omega)
      rw [show ((4294967295 : Nat) : Int) = 4294967295 from rfl] at hX
      rw [← HU.out] at hX
      clear hj hlt
      go_wp2
      go_ret2
      exact ⟨rfl, rfl⟩

set_option maxRecDepth 100000 in
set_option maxHeartbeats 1000000 in
theorem rsum32_tab (n : Nat) (A : Option Addr) (c : Nat) (s : ByteArray) (w : World) (hl : n ≠ 256) :
    Calls Tryz.prog 44 #[.int .i64 2, .slice A n c, .string s] w fun e w' => e = .returned (.tuple #[.int .u32 0, .int .i64 50]) ∧ w = w' := by
  have htwo : twoB 2 = true := by decide
  have hn : ((n : Int) != 256) = true := by rw [bne_iff_ne]; omega
  clear hl
  go_enter Tryz.func44, Tryz.ntmps44
  go_wp2_with fail
  refine (rright_any _ _).mono ?_
  rintro e w' ⟨rfl, rfl⟩
  rw [htwo]
  go_wp2
  go_ret2
  exact ⟨rfl, rfl⟩

theorem twoB_no {k : Int} (h1 : k ≠ 1) (h2 : k ≠ 2) : twoB k = false := by unfold twoB; simp [h1, h2]

set_option maxRecDepth 100000 in
set_option maxHeartbeats 1000000 in
theorem rsum_no (k : Int) (n : Nat) (A : Option Addr) (c : Nat) (s : ByteArray) (w : World) (h : twoB k = false) :
    Calls Tryz.prog 44 #[.int .i64 k, .slice A n c, .string s] w fun e w' => e = .returned (.tuple #[.int .u32 0, .int .i64 2]) ∧ w = w' := by
  have H := Lib.hid h
  clear h
  go_enter Tryz.func44, Tryz.ntmps44
  go_wp2_with fail
  refine (rright_any _ _).mono ?_
  rintro e w' ⟨rfl, rfl⟩
  rw [H.out]
  go_wp2
  go_ret2
  exact ⟨rfl, rfl⟩

theorem rsum_any (k : Int) (xs : List Nat) (A : Option Addr) (c : Nat) (s : ByteArray) (w : World) (hs : s.size ≤ 1000000) (hf : Fit32 xs) (hr : U32Rd w A xs) :
    Calls Tryz.prog 44 #[.int .i64 k, .slice A xs.length c, .string s] w fun e w' => e = .returned (.tuple #[.int .u32 (((sumR k xs s).1 : Nat) : Int), .int .i64 (sumR k xs s).2]) ∧ w = w' := by
  by_cases h1 : k = 1
  · subst h1
    by_cases hl : xs.length = 256
    · have e : sumR 1 xs s = (sumT 16 xs s.data.toList, 0) := by unfold sumR; rw [if_pos rfl, if_pos hl]
      rw [e, hl]
      exact rsum16 xs A c s w hs hl hf hr
    · have e : sumR 1 xs s = (0, 50) := by unfold sumR; rw [if_pos rfl, if_neg hl]
      rw [e]
      exact rsum16_tab _ A c s w hl
  by_cases h2 : k = 2
  · subst h2
    by_cases hl : xs.length = 256
    · have e : sumR 2 xs s = (sumT 32 xs s.data.toList, 0) := by unfold sumR; rw [if_neg (by decide), if_pos rfl, if_pos hl]
      rw [e, hl]
      exact rsum32 xs A c s w hs hl hf hr
    · have e : sumR 2 xs s = (0, 50) := by unfold sumR; rw [if_neg (by decide), if_pos rfl, if_neg hl]
      rw [e]
      exact rsum32_tab _ A c s w hl
  · rw [sumR_no xs s h1 h2]
    exact rsum_no k _ A c s w (twoB_no h1 h2)

set_option maxRecDepth 100000 in
set_option maxHeartbeats 1000000 in
theorem rtable_no (k : Int) (w : World) (h : twoB k = false) :
    Calls Tryz.prog 43 #[.int .i64 k] w fun e w' => e = .returned (.tuple #[.slice none 0 0, .int .i64 2]) ∧ w = w' := by
  have H := Lib.hid h
  clear h
  go_enter Tryz.func43, Tryz.ntmps43
  go_wp2_with fail
  refine (rright_any _ _).mono ?_
  rintro e w' ⟨rfl, rfl⟩
  rw [H.out]
  go_wp2
  go_ret2
  exact ⟨rfl, rfl⟩

theorem rtable_any (k : Int) (w : World) : Calls Tryz.prog 43 #[.int .i64 k] w (TabR k w) := by
  by_cases h1 : k = 1
  · subst h1
    refine (rtable16 w).mono ?_
    rintro e w' ⟨⟨A, c, rfl, hc, hU⟩, hb⟩
    refine ⟨A, c, ?_, ?_, hU, hb⟩
    · rw [tabR_1]; show _ = Ending.returned (.tuple #[.slice A (tabL 33800).length c, .int .i64 0]); rw [tabL_length]
    · rw [tabR_1]; show (tabL 33800).length ≤ c; rw [tabL_length]; exact hc
  by_cases h2 : k = 2
  · subst h2
    refine (rtable32 w).mono ?_
    rintro e w' ⟨⟨A, c, rfl, hc, hU⟩, hb⟩
    refine ⟨A, c, ?_, ?_, hU, hb⟩
    · rw [tabR_2]; show _ = Ending.returned (.tuple #[.slice A (tabL 2197175160).length c, .int .i64 0]); rw [tabL_length]
    · rw [tabR_2]; show (tabL 2197175160).length ≤ c; rw [tabL_length]; exact hc
  · refine (rtable_no k w (twoB_no h1 h2)).mono ?_
    rintro e w' ⟨rfl, rfl⟩
    refine ⟨none, 0, ?_, ?_, ?_, Below.refl _ _⟩
    · rw [tabR_no h1 h2]; rfl
    · rw [tabR_no h1 h2]; exact Nat.le_refl _
    · rw [tabR_no h1 h2]; exact U32Rd.nil _ _

set_option maxRecDepth 100000 in
set_option maxHeartbeats 1000000 in
theorem rof_of (k z : Int) (T : List Nat) (q : Nat) (o s : ByteArray) (w : World) (hk : (k == 0) = false) (hq : q < 4294967296)
    (HT : RowKit.Hid (∀ W, Calls Tryz.prog 43 #[.int .i64 k] W fun e w' => (∃ (A : Option Addr) (c : Nat), e = .returned (.tuple #[.slice A 256 c, .int .i64 0]) ∧ 256 ≤ c ∧ U32Rd w' A T) ∧ Below W.heap.size W w'))
    (HS : RowKit.Hid (∀ A c W, U32Rd W A T → Calls Tryz.prog 44 #[.int .i64 k, .slice A 256 c, .string s] W fun e w' => e = .returned (.tuple #[.int .u32 (q : Int), .int .i64 0]) ∧ W = w'))
    (HZ : RowKit.Hid (sizR k = z))
    (HY : RowKit.Hid (∀ W, Calls Tryz.prog 26 #[.int .i64 (q : Int), .int .i64 z] W fun e w' => e = .returned (.tuple #[.string o, .int .i64 0]) ∧ Below W.heap.size W w')) :
    Calls Tryz.prog 27 #[.int .i64 k, .string s] w fun e w' => e = .returned (.tuple #[.string o, .int .i64 0]) ∧ Below w.heap.size w w' := by
  have hqw : wrap64 (q : Int) = (q : Int) := by unfold wrap64; omega
  go_enter Tryz.func27, Tryz.ntmps27
  go_wp2_with fail
  refine (HT.out _).mono ?_
  rintro e w1 ⟨⟨A, c, rfl, hc, hU⟩, hw1⟩
  have HU := Lib.hid hU
  clear hU hc
  go_wp2_with fail
  refine (HS.out A c _ HU.out).mono ?_
  rintro e w' ⟨rfl, rfl⟩
  go_wp2_with fail
  refine (rsize_any k _).mono ?_
  rintro e w' ⟨rfl, rfl⟩
  rw [HZ.out]
  go_wp2_with fail
  refine (HY.out _).mono ?_
  rintro e w2 ⟨rfl, hw2⟩
  have HB := Lib.hid (hw1.trans (hw2.mono hw1.size))
  clear hw1 hw2
  go_wp2
  go_ret2
  exact ⟨rfl, HB.out⟩

set_option maxRecDepth 100000 in
set_option maxHeartbeats 1000000 in
theorem rof_zero (s : ByteArray) (w : World) :
    Calls Tryz.prog 27 #[.int .i64 0, .string s] w fun e w' => e = .returned (.tuple #[.string ⟨#[]⟩, .int .i64 0]) ∧ Below w.heap.size w w' := by
  go_enter Tryz.func27, Tryz.ntmps27
  go_wp2
  go_ret2
  exact ⟨rfl, Below.refl _ _⟩

set_option maxRecDepth 100000 in
set_option maxHeartbeats 1000000 in
theorem rof_no (k : Int) (s : ByteArray) (w : World) (h0 : k ≠ 0) (h1 : k ≠ 1) (h2 : k ≠ 2) :
    Calls Tryz.prog 27 #[.int .i64 k, .string s] w fun e w' => e = .returned (.tuple #[.string ⟨#[]⟩, .int .i64 2]) ∧ Below w.heap.size w w' := by
  have hk : (k == 0) = false := by simpa using h0
  have HT := Lib.hid (twoB_no h1 h2)
  clear h0 h1 h2
  go_enter Tryz.func27, Tryz.ntmps27
  go_wp2_with fail
  refine (rtable_no k _ HT.out).mono ?_
  rintro e w' ⟨rfl, rfl⟩
  go_wp2
  go_ret2
  exact ⟨rfl, Below.refl _ _⟩

theorem rof_any (k : Int) (s : ByteArray) (w : World) (hs : s.size ≤ 1000000) :
    Calls Tryz.prog 27 #[.int .i64 k, .string s] w fun e w' => e = .returned (.tuple #[.string (ofR k s).1, .int .i64 (ofR k s).2]) ∧ Below w.heap.size w w' := by
  by_cases h0 : k = 0
  · subst h0; exact rof_zero s w
  by_cases h1 : k = 1
  · subst h1
    have hl := sumT_lt 16 (tabL 33800) s.data.toList
    refine rof_of 1 2 (tabL 33800) (sumT 16 (tabL 33800) s.data.toList) _ s w (by decide) (by omega) (Lib.hid fun W => rtable16 W) (Lib.hid fun A c W hU => rsum16 (tabL 33800) A c s W hs (tabL_length _) (tabL_fit (by omega)) hU) (Lib.hid rfl) (Lib.hid fun W => ?_)
    exact refBytes_loop _ 2 W (by omega) (by omega) (by omega) (⟨(beL (sumT 16 (tabL 33800) s.data.toList) 2).toArray⟩, 0) (by rw [if_pos (by omega)])
  by_cases h2 : k = 2
  · subst h2
    have hl := sumT_lt 32 (tabL 2197175160) s.data.toList
    refine rof_of 2 4 (tabL 2197175160) (sumT 32 (tabL 2197175160) s.data.toList) _ s w (by decide) (by omega) (Lib.hid fun W => rtable32 W) (Lib.hid fun A c W hU => rsum32 (tabL 2197175160) A c s W hs (tabL_length _) (tabL_fit (by omega)) hU) (Lib.hid rfl) (Lib.hid fun W => ?_)
    exact refBytes_loop _ 4 W (by omega) (by omega) (by omega) (⟨(beL (sumT 32 (tabL 2197175160) s.data.toList) 4).toArray⟩, 0) (by rw [if_pos (by omega)])
  · rw [ofR_no s h0 h1 h2]
    exact rof_no k s w h0 h1 h2
end Go.Proofs.YtdlkmdjhjdpmeaaGreatDoor
