/- Contract of laid of package crc: the bytes of a sum by the kind's own table. -/
import Derived.Test.YtpccbiopljmnlaaDoorCCall
set_option linter.unusedVariables false
set_option linter.unusedSimpArgs false
namespace Go.Proofs.YtpccbiopljmnlaaDoor
open Go.RowKit

set_option maxRecDepth 100000 in
set_option maxHeartbeats 2000000 in
theorem laid_of (b0 b1 : Addr) (n z t q : Int) (T : List Nat) (o s : ByteArray) (w : World) (hE : EnvC b0 b1 w) (hk : kindR n = ((n, z, t), false)) (hn : (n == 0) = false) (hq : wrap64 q = q) (hq2 : IntKind.i64.wrap q = q)
    (HT : RowKit.Hid (∀ W, Calls Tryd.prog 34 #[.agg #[.int .i64 n, .int .i64 z, .int .u32 t]] W fun e w' => (∃ A : Addr, e = .returned (.slice (some A) 256 256) ∧ U32Rd w' (some A) T) ∧ Below W.heap.size W w'))
    (HS : RowKit.Hid (∀ A W, U32Rd W (some A) T → Calls Tryd.prog 35 #[.agg #[.int .i64 n, .int .i64 z, .int .u32 t], .slice (some A) 256 256, .string s] W fun e w' => e = .returned (.int .u32 q) ∧ Below W.heap.size W w'))
    (HY : RowKit.Hid (∀ W, Calls Tryd.prog 36 #[.int .i64 q, .int .i64 z] W fun e w' => e = .returned (.tuple #[.string o, .int .i64 0]) ∧ Below W.heap.size W w')) :
    Calls Tryd.prog 29 #[.int .i64 n, .string s] w fun e w' => e = .returned (.tuple #[.string o, .nilIface]) ∧ Below w.heap.size w w' := by
  have HK := Lib.hid hk
  clear hk
  go_enter Tryd.func29, Tryd.ntmps29
  go_wp2_with fail
  refine (find_k _ hE HK.out).mono ?_
  rintro e w1 ⟨rfl, hb1⟩
  have i0 : (w1.alloc (.cells #[.int .i64 n, .int .i64 z, .int .u32 t] 60)).cell? ⟨w1.heap.size, 0, none⟩ = some (.int .i64 n) := by go_simp
  have i1 : (w1.alloc (.cells #[.int .i64 n, .int .i64 z, .int .u32 t] 60)).cell? ⟨w1.heap.size, 1, none⟩ = some (.int .i64 z) := by go_simp
  have i2 : (w1.alloc (.cells #[.int .i64 n, .int .i64 z, .int .u32 t] 60)).cell? ⟨w1.heap.size, 2, none⟩ = some (.int .u32 t) := by go_simp
  have hB0 : Below w.heap.size w (w1.alloc (.cells #[.int .i64 n, .int .i64 z, .int .u32 t] 60)) := hb1.alloc hb1.size _
  have hl0 : w1.heap.size < (w1.alloc (.cells #[.int .i64 n, .int .i64 z, .int .u32 t] 60)).heap.size := by simp
  go_wp2_with fail
  generalize w1.alloc (.cells #[.int .i64 n, .int .i64 z, .int .u32 t] 60) = w2 at *
  clear hb1
  go_region_held3 (fun w' => w'.cell? ⟨w1.heap.size, 0, none⟩ = some (.int .i64 n) ∧ w'.cell? ⟨w1.heap.size, 1, none⟩ = some (.int .i64 z) ∧ w'.cell? ⟨w1.heap.size, 2, none⟩ = some (.int .u32 t))
    (first
      | exact ⟨i0, i1, i2⟩
      | exact ⟨(hb5.cell (p := ⟨w1.heap.size, 0, none⟩) hl0).trans i0, (hb5.cell (p := ⟨w1.heap.size, 1, none⟩) hl0).trans i1, (hb5.cell (p := ⟨w1.heap.size, 2, none⟩) hl0).trans i2⟩
      | exact ⟨(hb6.cell (p := ⟨w1.heap.size, 0, none⟩) hl5).trans ((hb5.cell (p := ⟨w1.heap.size, 0, none⟩) hl0).trans i0), (hb6.cell (p := ⟨w1.heap.size, 1, none⟩) hl5).trans ((hb5.cell (p := ⟨w1.heap.size, 1, none⟩) hl0).trans i1), (hb6.cell (p := ⟨w1.heap.size, 2, none⟩) hl5).trans ((hb5.cell (p := ⟨w1.heap.size, 2, none⟩) hl0).trans i2)⟩
      | exact ⟨(hb7.cell (p := ⟨w1.heap.size, 0, none⟩) hl6).trans ((hb6.cell (p := ⟨w1.heap.size, 0, none⟩) hl5).trans ((hb5.cell (p := ⟨w1.heap.size, 0, none⟩) hl0).trans i0)), (hb7.cell (p := ⟨w1.heap.size, 1, none⟩) hl6).trans ((hb6.cell (p := ⟨w1.heap.size, 1, none⟩) hl5).trans ((hb5.cell (p := ⟨w1.heap.size, 1, none⟩) hl0).trans i1)), (hb7.cell (p := ⟨w1.heap.size, 2, none⟩) hl6).trans ((hb6.cell (p := ⟨w1.heap.size, 2, none⟩) hl5).trans ((hb5.cell (p := ⟨w1.heap.size, 2, none⟩) hl0).trans i2))⟩)
    (first
      | ((go_at_call 34; refine (HT.out _).mono ?_; rintro e w5 ⟨⟨A, rfl, hU⟩, hb5⟩; have hl5 := Nat.lt_of_lt_of_le hl0 hb5.size))
      | ((go_at_call 35; refine (HS.out A _ hU).mono ?_; rintro e w6 ⟨rfl, hb6⟩; have hl6 := Nat.lt_of_lt_of_le hl5 hb6.size))
      | ((go_at_call 36; refine (HY.out _).mono ?_; rintro e w7 ⟨rfl, hb7⟩)))
  have hB5 := hB0.drew.trans (hb5.mono hB0.drew.size)
  have hB6 := hB5.trans (hb6.mono hB5.size)
  have HB7 := Lib.hid (hB6.trans (hb7.mono hB6.size))
  clear hB5 hB6 hb5 hb6 hb7 hU i0 i1 i2 hB0 hl0 hl5 hl6
  go_wp2
  go_ret2
  exact ⟨rfl, HB7.out⟩

theorem laid16_any (b0 b1 : Addr) (s : ByteArray) (w : World) (hE : EnvC b0 b1 w) (hs : s.size ≤ 9223372036854775807) :
    Calls Tryd.prog 29 #[.int .i64 1, .string s] w fun e w' => e = .returned (.tuple #[.string ⟨(beL (sumT 16 (tabL 33800) s.data.toList) 2).toArray⟩, .nilIface]) ∧ Below w.heap.size w w' := by
  have hl := sumT_lt 16 (tabL 33800) s.data.toList
  refine laid_of b0 b1 1 2 33800 ((sumT 16 (tabL 33800) s.data.toList : Nat) : Int) (tabL 33800) _ s w hE (by decide) (by decide) ?_ ?_ (Lib.hid fun W => mtable16_any W) (Lib.hid fun A W hU => msum16_any (tabL 33800) (some A) 256 s W hs (tabL_length _) (tabL_fit (by omega)) hU) (Lib.hid fun W => ?_)
  · unfold wrap64; omega
  · exact IntWalk.i64_in _ (by omega)
  · exact bytes_of_ok _ _ _ W (spread_ok _ 2 W (by omega) (by omega) (by omega) (by omega))

theorem laid32_any (b0 b1 : Addr) (s : ByteArray) (w : World) (hE : EnvC b0 b1 w) (hs : s.size ≤ 9223372036854775807) :
    Calls Tryd.prog 29 #[.int .i64 2, .string s] w fun e w' => e = .returned (.tuple #[.string ⟨(beL (sumT 32 (tabL 2197175160) s.data.toList) 4).toArray⟩, .nilIface]) ∧ Below w.heap.size w w' := by
  have hl := sumT_lt 32 (tabL 2197175160) s.data.toList
  refine laid_of b0 b1 2 4 2197175160 ((sumT 32 (tabL 2197175160) s.data.toList : Nat) : Int) (tabL 2197175160) _ s w hE (by decide) (by decide) ?_ ?_ (Lib.hid fun W => mtable32_any W) (Lib.hid fun A W hU => msum32_any (tabL 2197175160) (some A) 256 s W hs (tabL_length _) (tabL_fit (by omega)) hU) (Lib.hid fun W => ?_)
  · unfold wrap64; omega
  · exact IntWalk.i64_in _ (by omega)
  · exact bytes_of_ok _ _ _ W (spread_ok _ 4 W (by omega) (by omega) (by omega) (by omega))

set_option maxRecDepth 100000 in
set_option maxHeartbeats 1000000 in
theorem laid_zero (b0 b1 : Addr) (s : ByteArray) (w : World) (hE : EnvC b0 b1 w) :
    Calls Tryd.prog 29 #[.int .i64 0, .string s] w fun e w' => e = .returned (.tuple #[.string ⟨#[]⟩, .nilIface]) ∧ Below w.heap.size w w' := by
  have HK := Lib.hid (show kindR 0 = ((0, 0, 0), false) by decide)
  go_enter Tryd.func29, Tryd.ntmps29
  go_wp2_with fail
  refine (find_k _ hE HK.out).mono ?_
  rintro e w1 ⟨rfl, hb1⟩
  have HB := Lib.hid (hb1.alloc hb1.size (.cells #[.int .i64 0, .int .i64 0, .int .u32 0] 60))
  clear hb1
  go_wp2
  go_ret2
  exact ⟨rfl, HB.out⟩

set_option maxRecDepth 100000 in
set_option maxHeartbeats 1000000 in
theorem laid_no (b0 b1 : Addr) (k : Int) (s : ByteArray) (w : World) (hE : EnvC b0 b1 w) (hk : kindR k = ((0, 0, 0), true)) :
    Calls Tryd.prog 29 #[.int .i64 k, .string s] w fun e w' => e = .returned (.tuple #[.string ⟨#[]⟩, .iface 117 (.pointer (some b0))]) ∧ Below w.heap.size w w' := by
  have HK := Lib.hid hk
  clear hk
  go_enter Tryd.func29, Tryd.ntmps29
  go_wp2_with fail
  refine (find_no _ hE HK.out).mono ?_
  rintro e w1 ⟨rfl, hb1⟩
  have HB := Lib.hid (hb1.alloc hb1.size (.cells #[.int .i64 0, .int .i64 0, .int .u32 0] 60))
  clear hb1
  go_wp2
  go_ret2
  exact ⟨rfl, HB.out⟩

set_option maxRecDepth 100000 in
set_option maxHeartbeats 1000000 in
theorem own_no (b0 b1 : Addr) (k : Int) (w : World) (hE : EnvC b0 b1 w) (h1 : k ≠ 1) (h2 : k ≠ 2) :
    Calls Tryd.prog 23 #[.int .i64 k] w fun e w' => e = .returned (.tuple #[.slice none 0 0, .iface 117 (.pointer (some b0))]) ∧ Below w.heap.size w w' := by
  have HK := Lib.hid (wide_no w hE h1 h2)
  clear h1 h2
  go_enter Tryd.func23, Tryd.ntmps23
  go_wp2_with fail
  refine HK.out.mono ?_
  rintro e w1 ⟨rfl, hb1⟩
  have HB := Lib.hid (hb1.alloc hb1.size (.cells #[.int .i64 0, .int .i64 0, .int .u32 0] 60))
  clear hb1
  go_wp2
  go_ret2
  exact ⟨rfl, HB.out⟩

set_option maxRecDepth 100000 in
set_option maxHeartbeats 1000000 in
theorem by_no (b0 b1 : Addr) (k : Int) (n : Nat) (A : Option Addr) (c : Nat) (s : ByteArray) (w : World) (hE : EnvC b0 b1 w) (h1 : k ≠ 1) (h2 : k ≠ 2) :
    Calls Tryd.prog 27 #[.int .i64 k, .slice A n c, .string s] w fun e w' => e = .returned (.tuple #[.int .u32 0, .iface 117 (.pointer (some b0))]) ∧ Below w.heap.size w w' := by
  have HK := Lib.hid (wide_no w hE h1 h2)
  clear h1 h2
  go_enter Tryd.func27, Tryd.ntmps27
  go_wp2_with fail
  refine HK.out.mono ?_
  rintro e w1 ⟨rfl, hb1⟩
  have HB := Lib.hid (hb1.alloc hb1.size (.cells #[.int .i64 0, .int .i64 0, .int .u32 0] 60))
  clear hb1
  go_wp2
  go_ret2
  exact ⟨rfl, HB.out⟩


set_option maxRecDepth 100000 in
set_option maxHeartbeats 1000000 in
theorem table_of_ok (b0 b1 : Addr) (k : Int) (T : List Nat) (w : World) (hE : EnvC b0 b1 w)
    (h : Calls Tryd.prog 23 #[.int .i64 k] w fun e w' => (∃ A : Addr, e = .returned (.tuple #[.slice (some A) 256 256, .nilIface]) ∧ U32Rd w' (some A) T) ∧ Below w.heap.size w w') :
    Calls Tryd.prog 12 #[.int .i64 k] w fun e w' => (∃ A : Option Addr, e = .returned (.tuple #[.slice A 256 256, .int .i64 0]) ∧ U32Rd w' A T) ∧ Below w.heap.size w w' := by
  have H := Lib.hid h
  clear h
  go_enter Tryd.func12, Tryd.ntmps12
  go_wp2_with fail
  refine H.out.mono ?_
  rintro e w1 ⟨⟨A, rfl, hU⟩, hb1⟩
  have HU := Lib.hid hU
  clear hU
  go_wp2_with fail
  refine (ctellt_ok b0 b1 _ _ _ _ (hE.below hb1)).mono ?_
  rintro e w' ⟨rfl, rfl⟩
  go_wp2
  go_ret2
  exact ⟨⟨_, rfl, HU.out⟩, hb1⟩

set_option maxRecDepth 100000 in
set_option maxHeartbeats 1000000 in
theorem table_of_no (b0 b1 : Addr) (k : Int) (w : World) (hE : EnvC b0 b1 w)
    (h : Calls Tryd.prog 23 #[.int .i64 k] w fun e w' => e = .returned (.tuple #[.slice none 0 0, .iface 117 (.pointer (some b0))]) ∧ Below w.heap.size w w') :
    Calls Tryd.prog 12 #[.int .i64 k] w fun e w' => e = .returned (.tuple #[.slice none 0 0, .int .i64 2]) ∧ Below w.heap.size w w' := by
  have H := Lib.hid h
  clear h
  go_enter Tryd.func12, Tryd.ntmps12
  go_wp2_with fail
  refine H.out.mono ?_
  rintro e w1 ⟨rfl, hb1⟩
  go_wp2_with fail
  refine (ctellt_arg b0 b1 _ _ _ _ (hE.below hb1)).mono ?_
  rintro e w' ⟨rfl, rfl⟩
  go_wp2
  go_ret2
  exact ⟨rfl, hb1⟩

/-- What a call of Table leaves: the numbers in memory, and the error's number. -/
def TabR (k : Int) (w : World) (e : Ending) (w' : World) : Prop := ∃ (A : Option Addr) (c : Nat), e = .returned (.tuple #[.slice A (tabR k).1.length c, .int .i64 (tabR k).2]) ∧ (tabR k).1.length ≤ c ∧ U32Rd w' A (tabR k).1 ∧ Below w.heap.size w w'

theorem table_any (k : Int) (w : World) (hC : CrcOK w) : Calls Tryd.prog 12 #[.int .i64 k] w (TabR k w) := by
  obtain ⟨b0, b1, hE⟩ := hC
  by_cases h1 : k = 1
  · subst h1
    refine (table_of_ok b0 b1 1 _ w hE (own16_any b0 b1 w hE)).mono ?_
    rintro e w' ⟨⟨A, rfl, hU⟩, hb⟩
    refine ⟨A, 256, ?_, ?_, hU, hb⟩
    · rw [tabR_1]; show _ = Ending.returned (.tuple #[.slice A (tabL 33800).length 256, .int .i64 0]); rw [tabL_length]
    · rw [tabR_1]; show (tabL 33800).length ≤ 256; rw [tabL_length]; exact Nat.le_refl _
  by_cases h2 : k = 2
  · subst h2
    refine (table_of_ok b0 b1 2 _ w hE (own32_any b0 b1 w hE)).mono ?_
    rintro e w' ⟨⟨A, rfl, hU⟩, hb⟩
    refine ⟨A, 256, ?_, ?_, hU, hb⟩
    · rw [tabR_2]; show _ = Ending.returned (.tuple #[.slice A (tabL 2197175160).length 256, .int .i64 0]); rw [tabL_length]
    · rw [tabR_2]; show (tabL 2197175160).length ≤ 256; rw [tabL_length]; exact Nat.le_refl _
  · refine (table_of_no b0 b1 k w hE (own_no b0 b1 k w hE h1 h2)).mono ?_
    rintro e w' ⟨rfl, hb⟩
    refine ⟨none, 0, ?_, ?_, ?_, hb⟩
    · rw [tabR_no h1 h2]; rfl
    · rw [tabR_no h1 h2]; exact Nat.le_refl _
    · rw [tabR_no h1 h2]; exact U32Rd.nil _ _

set_option maxRecDepth 100000 in
set_option maxHeartbeats 1000000 in
theorem sum_of_ok (b0 b1 : Addr) (k : Int) (q : Int) (n : Nat) (A : Option Addr) (c : Nat) (s : ByteArray) (w : World) (hE : EnvC b0 b1 w)
    (h : Calls Tryd.prog 27 #[.int .i64 k, .slice A n c, .string s] w fun e w' => e = .returned (.tuple #[.int .u32 q, .nilIface]) ∧ Below w.heap.size w w') :
    Calls Tryd.prog 14 #[.int .i64 k, .slice A n c, .string s] w fun e w' => e = .returned (.tuple #[.int .u32 q, .int .i64 0]) ∧ Below w.heap.size w w' := by
  have H := Lib.hid h
  clear h
  go_enter Tryd.func14, Tryd.ntmps14
  go_wp2_with fail
  refine H.out.mono ?_
  rintro e w1 ⟨rfl, hb1⟩
  go_wp2_with fail
  refine (ctelln_ok b0 b1 _ _ (hE.below hb1)).mono ?_
  rintro e w' ⟨rfl, rfl⟩
  go_wp2
  go_ret2
  exact ⟨rfl, hb1⟩

set_option maxRecDepth 100000 in
set_option maxHeartbeats 1000000 in
theorem sum_of_arg (b0 b1 : Addr) (k : Int) (n : Nat) (A : Option Addr) (c : Nat) (s : ByteArray) (w : World) (hE : EnvC b0 b1 w)
    (h : Calls Tryd.prog 27 #[.int .i64 k, .slice A n c, .string s] w fun e w' => e = .returned (.tuple #[.int .u32 0, .iface 117 (.pointer (some b0))]) ∧ Below w.heap.size w w') :
    Calls Tryd.prog 14 #[.int .i64 k, .slice A n c, .string s] w fun e w' => e = .returned (.tuple #[.int .u32 0, .int .i64 2]) ∧ Below w.heap.size w w' := by
  have H := Lib.hid h
  clear h
  go_enter Tryd.func14, Tryd.ntmps14
  go_wp2_with fail
  refine H.out.mono ?_
  rintro e w1 ⟨rfl, hb1⟩
  go_wp2_with fail
  refine (ctelln_arg b0 b1 _ _ (hE.below hb1)).mono ?_
  rintro e w' ⟨rfl, rfl⟩
  go_wp2
  go_ret2
  exact ⟨rfl, hb1⟩

set_option maxRecDepth 100000 in
set_option maxHeartbeats 1000000 in
theorem sum_of_tab (b0 b1 : Addr) (k : Int) (n : Nat) (A : Option Addr) (c : Nat) (s : ByteArray) (w : World) (hE : EnvC b0 b1 w)
    (h : Calls Tryd.prog 27 #[.int .i64 k, .slice A n c, .string s] w fun e w' => e = .returned (.tuple #[.int .u32 0, .iface 117 (.pointer (some b1))]) ∧ Below w.heap.size w w') :
    Calls Tryd.prog 14 #[.int .i64 k, .slice A n c, .string s] w fun e w' => e = .returned (.tuple #[.int .u32 0, .int .i64 50]) ∧ Below w.heap.size w w' := by
  have H := Lib.hid h
  clear h
  go_enter Tryd.func14, Tryd.ntmps14
  go_wp2_with fail
  refine H.out.mono ?_
  rintro e w1 ⟨rfl, hb1⟩
  go_wp2_with fail
  refine (ctelln_table b0 b1 _ _ (hE.below hb1)).mono ?_
  rintro e w' ⟨rfl, rfl⟩
  go_wp2
  go_ret2
  exact ⟨rfl, hb1⟩

theorem sum_any (k : Int) (xs : List Nat) (A : Option Addr) (c : Nat) (s : ByteArray) (w : World) (hC : CrcOK w) (hs : s.size ≤ 9223372036854775807) (hf : Fit32 xs) (hr : U32Rd w A xs) :
    Calls Tryd.prog 14 #[.int .i64 k, .slice A xs.length c, .string s] w fun e w' => e = .returned (.tuple #[.int .u32 (((sumR k xs s).1 : Nat) : Int), .int .i64 (sumR k xs s).2]) ∧ Below w.heap.size w w' := by
  obtain ⟨b0, b1, hE⟩ := hC
  by_cases h1 : k = 1
  · subst h1
    by_cases hl : xs.length = 256
    · have e : sumR 1 xs s = (sumT 16 xs s.data.toList, 0) := by unfold sumR; rw [if_pos rfl, if_pos hl]
      rw [e, hl]
      exact sum_of_ok b0 b1 1 _ 256 A c s w hE (by16_any b0 b1 xs A c s w hE hs hl hf hr)
    · have e : sumR 1 xs s = (0, 50) := by unfold sumR; rw [if_pos rfl, if_neg hl]
      rw [e]
      exact sum_of_tab b0 b1 1 _ A c s w hE (by16_table b0 b1 _ A c s w hE hl)
  by_cases h2 : k = 2
  · subst h2
    by_cases hl : xs.length = 256
    · have e : sumR 2 xs s = (sumT 32 xs s.data.toList, 0) := by unfold sumR; rw [if_neg (by decide), if_pos rfl, if_pos hl]
      rw [e, hl]
      exact sum_of_ok b0 b1 2 _ 256 A c s w hE (by32_any b0 b1 xs A c s w hE hs hl hf hr)
    · have e : sumR 2 xs s = (0, 50) := by unfold sumR; rw [if_neg (by decide), if_pos rfl, if_neg hl]
      rw [e]
      exact sum_of_tab b0 b1 2 _ A c s w hE (by32_table b0 b1 _ A c s w hE hl)
  · rw [sumR_no xs s h1 h2]
    exact sum_of_arg b0 b1 k _ A c s w hE (by_no b0 b1 k _ A c s w hE h1 h2)

set_option maxRecDepth 100000 in
set_option maxHeartbeats 1000000 in
theorem of_of_ok (b0 b1 : Addr) (k : Int) (o s : ByteArray) (w : World) (hE : EnvC b0 b1 w)
    (h : Calls Tryd.prog 29 #[.int .i64 k, .string s] w fun e w' => e = .returned (.tuple #[.string o, .nilIface]) ∧ Below w.heap.size w w') :
    Calls Tryd.prog 16 #[.int .i64 k, .string s] w fun e w' => e = .returned (.tuple #[.string o, .int .i64 0]) ∧ Below w.heap.size w w' := by
  have H := Lib.hid h
  clear h
  go_enter Tryd.func16, Tryd.ntmps16
  go_wp2_with fail
  refine H.out.mono ?_
  rintro e w1 ⟨rfl, hb1⟩
  go_wp2_with fail
  refine (ctells_ok b0 b1 _ _ (hE.below hb1)).mono ?_
  rintro e w' ⟨rfl, rfl⟩
  go_wp2
  go_ret2
  exact ⟨rfl, hb1⟩

set_option maxRecDepth 100000 in
set_option maxHeartbeats 1000000 in
theorem of_of_no (b0 b1 : Addr) (k : Int) (s : ByteArray) (w : World) (hE : EnvC b0 b1 w)
    (h : Calls Tryd.prog 29 #[.int .i64 k, .string s] w fun e w' => e = .returned (.tuple #[.string ⟨#[]⟩, .iface 117 (.pointer (some b0))]) ∧ Below w.heap.size w w') :
    Calls Tryd.prog 16 #[.int .i64 k, .string s] w fun e w' => e = .returned (.tuple #[.string ⟨#[]⟩, .int .i64 2]) ∧ Below w.heap.size w w' := by
  have H := Lib.hid h
  clear h
  go_enter Tryd.func16, Tryd.ntmps16
  go_wp2_with fail
  refine H.out.mono ?_
  rintro e w1 ⟨rfl, hb1⟩
  go_wp2_with fail
  refine (ctells_arg b0 b1 _ _ (hE.below hb1)).mono ?_
  rintro e w' ⟨rfl, rfl⟩
  go_wp2
  go_ret2
  exact ⟨rfl, hb1⟩

theorem of_any (k : Int) (s : ByteArray) (w : World) (hC : CrcOK w) (hs : s.size ≤ 9223372036854775807) :
    Calls Tryd.prog 16 #[.int .i64 k, .string s] w fun e w' => e = .returned (.tuple #[.string (ofR k s).1, .int .i64 (ofR k s).2]) ∧ Below w.heap.size w w' := by
  obtain ⟨b0, b1, hE⟩ := hC
  by_cases h0 : k = 0
  · subst h0; exact of_of_ok b0 b1 0 _ s w hE (laid_zero b0 b1 s w hE)
  by_cases h1 : k = 1
  · subst h1; exact of_of_ok b0 b1 1 _ s w hE (laid16_any b0 b1 s w hE hs)
  by_cases h2 : k = 2
  · subst h2; exact of_of_ok b0 b1 2 _ s w hE (laid32_any b0 b1 s w hE hs)
  · rw [ofR_no s h0 h1 h2]
    exact of_of_no b0 b1 k s w hE (laid_no b0 b1 k s w hE (kindR_none h0 h1 h2))

set_option maxRecDepth 100000 in
set_option maxHeartbeats 1000000 in
theorem size_of {b0 b1 : Addr} {k a b c : Int} {u : Bool} (w : World) (hE : EnvC b0 b1 w) (hk : kindR k = ((a, b, c), u)) :
    Calls Tryd.prog 19 #[.int .i64 k] w fun e w' => e = .returned (.int .i64 b) ∧ Below w.heap.size w w' := by
  have h := find_any b0 b1 k w hE
  rw [hk] at h
  have H := Lib.hid (show Calls Tryd.prog 31 #[.int .i64 k] w fun e w' => e = .returned (.tuple #[.agg #[.int .i64 a, .int .i64 b, .int .u32 c], errV b0 u]) ∧ Below w.heap.size w w' from h)
  clear h hk
  generalize errV b0 u = ev at *
  go_enter Tryd.func19, Tryd.ntmps19
  go_wp2_with fail
  refine H.out.mono ?_
  rintro e w1 ⟨rfl, hb1⟩
  have HB := Lib.hid (hb1.alloc hb1.size (.cells #[.int .i64 a, .int .i64 b, .int .u32 c] 60))
  clear hb1
  go_wp2
  go_ret
  exact ⟨rfl, HB.out⟩

theorem size_any (k : Int) (w : World) (hC : CrcOK w) :
    Calls Tryd.prog 19 #[.int .i64 k] w fun e w' => e = .returned (.int .i64 (sizR k)) ∧ Below w.heap.size w w' := by
  obtain ⟨b0, b1, hE⟩ := hC
  by_cases h0 : k = 0
  · subst h0; exact size_of w hE (show kindR 0 = ((0, 0, 0), false) by decide)
  by_cases h1 : k = 1
  · subst h1; exact size_of w hE (show kindR 1 = ((1, 2, 33800), false) by decide)
  by_cases h2 : k = 2
  · subst h2; exact size_of w hE (show kindR 2 = ((2, 4, 2197175160), false) by decide)
  · rw [sizR_no h1 h2]
    exact size_of w hE (kindR_none h0 h1 h2)
end Go.Proofs.YtpccbiopljmnlaaDoor
