/- Contract of laid of package crc: the bytes of a sum by the kind's own table. -/
import Derived.Test.YtdlkmdjhjdpmeaaGreatDoorCCall
set_option linter.unusedVariables false
set_option linter.unusedSimpArgs false
namespace Go.Proofs.YtdlkmdjhjdpmeaaGreatDoor
open Go.RowKit

set_option maxRecDepth 100000 in
set_option maxHeartbeats 1000000 in
theorem own_no (b0 b1 : Addr) (k : Int) (w : World) (hE : EnvC b0 b1 w) (h1 : k ≠ 1) (h2 : k ≠ 2) :
    Calls Tryz.prog 72 #[.int .i64 k] w fun e w' => e = .returned (.tuple #[.slice none 0 0, .iface 179 (.pointer (some b0))]) ∧ Below w.heap.size w w' := by
  have HK := Lib.hid (wide_no w hE h1 h2)
  clear h1 h2
  go_enter Tryz.func72, Tryz.ntmps72
  go_wp2_with fail
  refine HK.out.mono ?_
  rintro e w1 ⟨rfl, hb1⟩
  have HB := Lib.hid (hb1.alloc hb1.size (.cells #[.int .i64 0, .int .i64 0, .int .u32 0] 127))
  clear hb1
  go_wp2
  go_ret2
  exact ⟨rfl, HB.out⟩

set_option maxRecDepth 100000 in
set_option maxHeartbeats 1000000 in
theorem by_no (b0 b1 : Addr) (k : Int) (n : Nat) (A : Option Addr) (c : Nat) (s : ByteArray) (w : World) (hE : EnvC b0 b1 w) (h1 : k ≠ 1) (h2 : k ≠ 2) :
    Calls Tryz.prog 74 #[.int .i64 k, .slice A n c, .string s] w fun e w' => e = .returned (.tuple #[.int .u32 0, .iface 179 (.pointer (some b0))]) ∧ Below w.heap.size w w' := by
  have HK := Lib.hid (wide_no w hE h1 h2)
  clear h1 h2
  go_enter Tryz.func74, Tryz.ntmps74
  go_wp2_with fail
  refine HK.out.mono ?_
  rintro e w1 ⟨rfl, hb1⟩
  have HB := Lib.hid (hb1.alloc hb1.size (.cells #[.int .i64 0, .int .i64 0, .int .u32 0] 127))
  clear hb1
  go_wp2
  go_ret2
  exact ⟨rfl, HB.out⟩


set_option maxRecDepth 100000 in
set_option maxHeartbeats 1000000 in
theorem table_of_ok (b0 b1 : Addr) (k : Int) (T : List Nat) (w : World) (hE : EnvC b0 b1 w)
    (h : Calls Tryz.prog 72 #[.int .i64 k] w fun e w' => (∃ A : Addr, e = .returned (.tuple #[.slice (some A) 256 256, .nilIface]) ∧ U32Rd w' (some A) T) ∧ Below w.heap.size w w') :
    Calls Tryz.prog 63 #[.int .i64 k] w fun e w' => (∃ A : Option Addr, e = .returned (.tuple #[.slice A 256 256, .int .i64 0]) ∧ U32Rd w' A T) ∧ Below w.heap.size w w' := by
  have H := Lib.hid h
  clear h
  go_enter Tryz.func63, Tryz.ntmps63
  go_wp2_with fail
  refine H.out.mono ?_
  rintro e w1 ⟨⟨A, rfl, hU⟩, hb1⟩
  have HU := Lib.hid hU
  clear hU
  go_wp2_with fail
  refine (ctellt_ok b0 b1 _ _ _ _ (hE.below hb1)).mono ?_
  rintro e w' ⟨rfl, rfl⟩
  go_wp2
  go_ret2
  exact ⟨⟨_, rfl, HU.out⟩, hb1⟩

set_option maxRecDepth 100000 in
set_option maxHeartbeats 1000000 in
theorem table_of_no (b0 b1 : Addr) (k : Int) (w : World) (hE : EnvC b0 b1 w)
    (h : Calls Tryz.prog 72 #[.int .i64 k] w fun e w' => e = .returned (.tuple #[.slice none 0 0, .iface 179 (.pointer (some b0))]) ∧ Below w.heap.size w w') :
    Calls Tryz.prog 63 #[.int .i64 k] w fun e w' => e = .returned (.tuple #[.slice none 0 0, .int .i64 2]) ∧ Below w.heap.size w w' := by
  have H := Lib.hid h
  clear h
  go_enter Tryz.func63, Tryz.ntmps63
  go_wp2_with fail
  refine H.out.mono ?_
  rintro e w1 ⟨rfl, hb1⟩
  go_wp2_with fail
  refine (ctellt_arg b0 b1 _ _ _ _ (hE.below hb1)).mono ?_
  rintro e w' ⟨rfl, rfl⟩
  go_wp2
  go_ret2
  exact ⟨rfl, hb1⟩

/-- What a call of Table leaves: the numbers in memory, and the error's number. -/
def TabR (k : Int) (w : World) (e : Ending) (w' : World) : Prop := ∃ (A : Option Addr) (c : Nat), e = .returned (.tuple #[.slice A (tabR k).1.length c, .int .i64 (tabR k).2]) ∧ (tabR k).1.length ≤ c ∧ U32Rd w' A (tabR k).1 ∧ Below w.heap.size w w'

theorem table_any (k : Int) (w : World) (hC : CrcOK w) : Calls Tryz.prog 63 #[.int .i64 k] w (TabR k w) := by
  obtain ⟨b0, b1, hE⟩ := hC
  by_cases h1 : k = 1
  · subst h1
    refine (table_of_ok b0 b1 1 _ w hE (own16_any b0 b1 w hE)).mono ?_
    rintro e w' ⟨⟨A, rfl, hU⟩, hb⟩
    refine ⟨A, 256, ?_, ?_, hU, hb⟩
    · rw [tabR_1]; show _ = Ending.returned (.tuple #[.slice A (tabL 33800).length 256, .int .i64 0]); rw [tabL_length]
    · rw [tabR_1]; show (tabL 33800).length ≤ 256; rw [tabL_length]; exact Nat.le_refl _
  by_cases h2 : k = 2
  · subst h2
    refine (table_of_ok b0 b1 2 _ w hE (own32_any b0 b1 w hE)).mono ?_
    rintro e w' ⟨⟨A, rfl, hU⟩, hb⟩
    refine ⟨A, 256, ?_, ?_, hU, hb⟩
    · rw [tabR_2]; show _ = Ending.returned (.tuple #[.slice A (tabL 2197175160).length 256, .int .i64 0]); rw [tabL_length]
    · rw [tabR_2]; show (tabL 2197175160).length ≤ 256; rw [tabL_length]; exact Nat.le_refl _
  · refine (table_of_no b0 b1 k w hE (own_no b0 b1 k w hE h1 h2)).mono ?_
    rintro e w' ⟨rfl, hb⟩
    refine ⟨none, 0, ?_, ?_, ?_, hb⟩
    · rw [tabR_no h1 h2]; rfl
    · rw [tabR_no h1 h2]; exact Nat.le_refl _
    · rw [tabR_no h1 h2]; exact U32Rd.nil _ _

set_option maxRecDepth 100000 in
set_option maxHeartbeats 1000000 in
theorem sum_of_ok (b0 b1 : Addr) (k : Int) (q : Int) (n : Nat) (A : Option Addr) (c : Nat) (s : ByteArray) (w : World) (hE : EnvC b0 b1 w)
    (h : Calls Tryz.prog 74 #[.int .i64 k, .slice A n c, .string s] w fun e w' => e = .returned (.tuple #[.int .u32 q, .nilIface]) ∧ Below w.heap.size w w') :
    Calls Tryz.prog 64 #[.int .i64 k, .slice A n c, .string s] w fun e w' => e = .returned (.tuple #[.int .u32 q, .int .i64 0]) ∧ Below w.heap.size w w' := by
  have H := Lib.hid h
  clear h
  go_enter Tryz.func64, Tryz.ntmps64
  go_wp2_with fail
  refine H.out.mono ?_
  rintro e w1 ⟨rfl, hb1⟩
  go_wp2_with fail
  refine (ctelln_ok b0 b1 _ _ (hE.below hb1)).mono ?_
  rintro e w' ⟨rfl, rfl⟩
  go_wp2
  go_ret2
  exact ⟨rfl, hb1⟩

set_option maxRecDepth 100000 in
set_option maxHeartbeats 1000000 in
theorem sum_of_arg (b0 b1 : Addr) (k : Int) (n : Nat) (A : Option Addr) (c : Nat) (s : ByteArray) (w : World) (hE : EnvC b0 b1 w)
    (h : Calls Tryz.prog 74 #[.int .i64 k, .slice A n c, .string s] w fun e w' => e = .returned (.tuple #[.int .u32 0, .iface 179 (.pointer (some b0))]) ∧ Below w.heap.size w w') :
    Calls Tryz.prog 64 #[.int .i64 k, .slice A n c, .string s] w fun e w' => e = .returned (.tuple #[.int .u32 0, .int .i64 2]) ∧ Below w.heap.size w w' := by
  have H := Lib.hid h
  clear h
  go_enter Tryz.func64, Tryz.ntmps64
  go_wp2_with fail
  refine H.out.mono ?_
  rintro e w1 ⟨rfl, hb1⟩
  go_wp2_with fail
  refine (ctelln_arg b0 b1 _ _ (hE.below hb1)).mono ?_
  rintro e w' ⟨rfl, rfl⟩
  go_wp2
  go_ret2
  exact ⟨rfl, hb1⟩

set_option maxRecDepth 100000 in
set_option maxHeartbeats 1000000 in
theorem sum_of_tab (b0 b1 : Addr) (k : Int) (n : Nat) (A : Option Addr) (c : Nat) (s : ByteArray) (w : World) (hE : EnvC b0 b1 w)
    (h : Calls Tryz.prog 74 #[.int .i64 k, .slice A n c, .string s] w fun e w' => e = .returned (.tuple #[.int .u32 0, .iface 179 (.pointer (some b1))]) ∧ Below w.heap.size w w') :
    Calls Tryz.prog 64 #[.int .i64 k, .slice A n c, .string s] w fun e w' => e = .returned (.tuple #[.int .u32 0, .int .i64 50]) ∧ Below w.heap.size w w' := by
  have H := Lib.hid h
  clear h
  go_enter Tryz.func64, Tryz.ntmps64
  go_wp2_with fail
  refine H.out.mono ?_
  rintro e w1 ⟨rfl, hb1⟩
  go_wp2_with fail
  refine (ctelln_table b0 b1 _ _ (hE.below hb1)).mono ?_
  rintro e w' ⟨rfl, rfl⟩
  go_wp2
  go_ret2
  exact ⟨rfl, hb1⟩

theorem sum_any (k : Int) (xs : List Nat) (A : Option Addr) (c : Nat) (s : ByteArray) (w : World) (hC : CrcOK w) (hs : s.size ≤ 9223372036854775807) (hf : Fit32 xs) (hr : U32Rd w A xs) :
    Calls Tryz.prog 64 #[.int .i64 k, .slice A xs.length c, .string s] w fun e w' => e = .returned (.tuple #[.int .u32 (((sumR k xs s).1 : Nat) : Int), .int .i64 (sumR k xs s).2]) ∧ Below w.heap.size w w' := by
  obtain ⟨b0, b1, hE⟩ := hC
  by_cases h1 : k = 1
  · subst h1
    by_cases hl : xs.length = 256
    · have e : sumR 1 xs s = (sumT 16 xs s.data.toList, 0) := by unfold sumR; rw [if_pos rfl, if_pos hl]
      rw [e, hl]
      exact sum_of_ok b0 b1 1 _ 256 A c s w hE (by16_any b0 b1 xs A c s w hE hs hl hf hr)
    · have e : sumR 1 xs s = (0, 50) := by unfold sumR; rw [if_pos rfl, if_neg hl]
      rw [e]
      exact sum_of_tab b0 b1 1 _ A c s w hE (by16_table b0 b1 _ A c s w hE hl)
  by_cases h2 : k = 2
  · subst h2
    by_cases hl : xs.length = 256
    · have e : sumR 2 xs s = (sumT 32 xs s.data.toList, 0) := by unfold sumR; rw [if_neg (by decide), if_pos rfl, if_pos hl]
      rw [e, hl]
      exact sum_of_ok b0 b1 2 _ 256 A c s w hE (by32_any b0 b1 xs A c s w hE hs hl hf hr)
    · have e : sumR 2 xs s = (0, 50) := by unfold sumR; rw [if_neg (by decide), if_pos rfl, if_neg hl]
      rw [e]
      exact sum_of_tab b0 b1 2 _ A c s w hE (by32_table b0 b1 _ A c s w hE hl)
  · rw [sumR_no xs s h1 h2]
    exact sum_of_arg b0 b1 k _ A c s w hE (by_no b0 b1 k _ A c s w hE h1 h2)

end Go.Proofs.YtdlkmdjhjdpmeaaGreatDoor
