/- Of a kind's own table the part of two bytes put together is their parts put together: the walk of CrcTables. -/
import Derived.Test.YtpccbiopljmnlaaDoorCShown
set_option linter.unusedVariables false
set_option linter.unusedSimpArgs false
namespace Go.Proofs.YtpccbiopljmnlaaDoor
open Go.RowKit

theorem xor_i64 (a b : Nat) (ha : a < 256) (hb : b < 256) : bits BinOp.xor IntKind.i64 (a : Int) (b : Int) = ((a ^^^ b : Nat) : Int) := by
  have h := xor256 ha hb
  unfold bits
  have hk : IntKind.i64.bits = 64 := rfl
  have e1 : BitVec.ofInt IntKind.i64.bits (a : Int) = BitVec.ofNat IntKind.i64.bits a := BitVec.ofInt_natCast _ _
  have e2 : BitVec.ofInt IntKind.i64.bits (b : Int) = BitVec.ofNat IntKind.i64.bits b := BitVec.ofInt_natCast _ _
  have e3 : (BitVec.ofNat IntKind.i64.bits a ^^^ BitVec.ofNat IntKind.i64.bits b).toNat = a ^^^ b := by
    rw [BitVec.toNat_xor, BitVec.toNat_ofNat, BitVec.toNat_ofNat, hk, Nat.mod_eq_of_lt (by omega), Nat.mod_eq_of_lt (by omega)]
  simp only [e1, e2, e3]
  exact IntWalk.i64_in _ (by omega)

set_option maxRecDepth 100000 in
set_option maxHeartbeats 2000000 in
theorem tables_yes (k a b : Int) (T : List Nat) (i j m x y z : Nat) (w : World) (hC : CrcOK w) (hT : tabR k = (T, 0)) (hl : T.length = 256) (hi : (wrap64 (a.tmod 256 + 256)).tmod 256 = (i : Int)) (hj : (wrap64 (b.tmod 256 + 256)).tmod 256 = (j : Int))
    (hil : i < 256) (hjl : j < 256) (hml : m < 256) (hm : bits BinOp.xor IntKind.i64 (i : Int) (j : Int) = (m : Int)) (hx : T[i]? = some x) (hy : T[j]? = some y) (hz : T[m]? = some z) (h0 : T[0]? = some 0) (hxy : bits BinOp.xor IntKind.u32 (x : Int) (y : Int) = (z : Int)) :
    Calls Tryd.prog 7 #[.int .i64 k, .int .i64 a, .int .i64 b] w fun e w' => e = .returned (.bool true) ∧ Below w.heap.size w w' := by
  have HT := Lib.hid hT
  have HL := Lib.hid hl
  have HX := Lib.hid hx
  have HY := Lib.hid hy
  have HZ := Lib.hid hz
  have H0 := Lib.hid h0
  clear hT hl hx hy hz h0
  go_enter Tryd.func7, Tryd.ntmps7
  go_wp2_with fail
  refine (shown_any _ hC).mono ?_
  rintro e w1 ⟨rfl, hb1⟩
  go_wp2_with fail
  refine (table_any k _ (hC.below hb1)).mono ?_
  rintro e w2 ⟨A, c, rfl, hc, hU, hb2⟩
  rw [HT.out] at hU hc ⊢
  simp only [HL.out] at hc ⊢
  replace hb2 := hb1.trans (hb2.mono hb1.size)
  have HB := Lib.hid hb2
  clear hb1 hb2
  obtain ⟨ad, rfl, cx⟩ := hU i x HX.out
  obtain ⟨ad', e1, cy⟩ := hU j y HY.out
  obtain rfl := Option.some.inj e1
  obtain ⟨ad', e1, cz⟩ := hU m z HZ.out
  obtain rfl := Option.some.inj e1
  obtain ⟨ad', e1, c0⟩ := hU 0 0 H0.out
  obtain rfl := Option.some.inj e1
  clear hU
  have ho : (ad.add 0) = ad := by obtain ⟨bl, o, fr⟩ := ad; cases fr <;> simp [Addr.add]
  have c0' := c0
  rw [ho] at c0'
  have t1 : ((i : Int)) < 256 := by omega
  have t2 : ((j : Int)) < 256 := by omega
  have t3 : ((m : Int)) < 256 := by omega
  go_wp2_with fail
  go_quiet (fail)
  go_wp2
  go_ret
  exact ⟨rfl, cdrewN HB.out _⟩

set_option maxRecDepth 100000 in
set_option maxHeartbeats 2000000 in
theorem tables_no (k a b : Int) (w : World) (hC : CrcOK w) (hT : tabR k = ([], 2)) :
    Calls Tryd.prog 7 #[.int .i64 k, .int .i64 a, .int .i64 b] w fun e w' => e = .returned (.bool true) ∧ Below w.heap.size w w' := by
  have HT := Lib.hid hT
  clear hT
  go_enter Tryd.func7, Tryd.ntmps7
  go_wp2_with fail
  refine (shown_any _ hC).mono ?_
  rintro e w1 ⟨rfl, hb1⟩
  go_wp2_with fail
  refine (table_any k _ (hC.below hb1)).mono ?_
  rintro e w2 ⟨A, c, rfl, hc, hU, hb2⟩
  rw [HT.out] at hU hc ⊢
  replace hb2 := hb1.trans (hb2.mono hb1.size)
  have HB := Lib.hid hb2
  clear hb1 hb2 hU hc
  go_wp2
  go_ret
  exact ⟨rfl, HB.out⟩

theorem mod_nat (a : Int) (ha : (Lit.int .i64 a).wf = true) : ∃ i : Nat, i < 256 ∧ (wrap64 (a.tmod 256 + 256)).tmod 256 = (i : Int) := by
  have h1 := Int.lt_tmod_of_pos a (show (0 : Int) < 256 by decide)
  have h2 := Int.tmod_lt_of_pos a (show (0 : Int) < 256 by decide)
  have e : wrap64 (a.tmod 256 + 256) = a.tmod 256 + 256 := by unfold wrap64; omega
  have h0 : 0 ≤ a.tmod 256 + 256 := by omega
  refine ⟨((a.tmod 256 + 256).tmod 256).toNat, ?_, ?_⟩
  · have := Int.tmod_lt_of_pos (a.tmod 256 + 256) (show (0 : Int) < 256 by decide)
    omega
  · rw [e, Int.toNat_of_nonneg (Int.tmod_nonneg 256 h0)]

theorem tables_walk (k a b : Int) (w : World) (hC : CrcOK w) (_ : (Lit.int .i64 k).wf = true) (ha : (Lit.int .i64 a).wf = true) (hb : (Lit.int .i64 b).wf = true) :
    Calls Tryd.prog 7 #[.int .i64 k, .int .i64 a, .int .i64 b] w fun e w' => e = .returned (.bool true) ∧ Below w.heap.size w w' := by
  obtain ⟨i, hi, ei⟩ := mod_nat a ha
  obtain ⟨j, hj, ej⟩ := mod_nat b hb
  have hm := xor256 hi hj
  have key : ∀ p, p < 4294967296 → tabR k = (tabL p, 0) → Calls Tryd.prog 7 #[.int .i64 k, .int .i64 a, .int .i64 b] w fun e w' => e = .returned (.bool true) ∧ Below w.heap.size w w' := by
    intro p hp hT
    refine tables_yes k a b (tabL p) i j (i ^^^ j) (prt p i) (prt p j) (prt p (i ^^^ j)) w hC hT (tabL_length p) ei ej hi hj hm (xor_i64 i j hi hj) (tabL_get p hi) (tabL_get p hj) (tabL_get p hm) ?_ ?_
    · rw [tabL_get p (by omega)]
      exact congrArg some (stN_zero p 8)
    · rw [u32_xor_nat _ _ (prt_lt (w := 32) (by omega) hp hi) (prt_lt (w := 32) (by omega) hp hj)]
      unfold prt
      rw [stN_xor]
  by_cases h1 : k = 1
  · subst h1; exact key 33800 (by omega) rfl
  by_cases h2 : k = 2
  · subst h2; exact key 2197175160 (by omega) rfl
  · exact tables_no k a b w hC (tabR_no h1 h2)
end Go.Proofs.YtpccbiopljmnlaaDoor
