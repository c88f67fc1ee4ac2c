/- Contract of Write of package disk: the walk. -/
import Derived.Test.YtpafpmefhfmndaaDoorKWrite
set_option linter.unusedVariables false
set_option linter.unusedSimpArgs false
namespace Go.Proofs.YtpafpmefhfmndaaDoor
open Go.RowKit Go.Extern.Stop Go.Stop Go.Extern

/-- What write answers, as an error. -/
def writeV (D : Dk) (i : Int) (s : ByteArray) : Value := wrongV ⟨#[87, 114, 105, 116, 101]⟩ (if writeE D i s = 0 then none else some (writeE D i s))

set_option maxRecDepth 100000 in
set_option maxHeartbeats 4000000 in
theorem write_raw (a b : Nat) (D : Dk) (i : Int) (s : ByteArray) (w : World) (h : DAt a b D w) (hn : D.n < 1000000) :
    Calls Tryd.prog 34 #[.pointer (some ⟨a, 0, none⟩), .int .i64 i, .string s] w fun e w' => e = .returned (writeV D i s) ∧ DAt a b (writeD D i s) w' ∧ Only a b w w' := by
  obtain ⟨z, hz⟩ : ∃ z, ((s.size : Int) == 64) = z := ⟨_, rfl⟩
  have HZ := Lib.hid hz
  go_enter Tryd.func34, Tryd.ntmps34
  go_wp2
  have g0 : (w.alloc (.cells #[.bool z, .int .i64 181] 76)).cell? ⟨w.heap.size, 0, none⟩ = some (.bool z) := by go_simp
  have g1 : (w.alloc (.cells #[.bool z, .int .i64 181] 76)).cell? ⟨w.heap.size, 1, none⟩ = some (.int .i64 181) := by go_simp
  have hb0 : Below w.heap.size w (w.alloc (.cells #[.bool z, .int .i64 181] 76)) := (Below.refl _ _).alloc (Nat.le_refl _) _
  have hz0 : w.heap.size < (w.alloc (.cells #[.bool z, .int .i64 181] 76)).heap.size := by simp
  generalize w.alloc (.cells #[.bool z, .int .i64 181] 76) = w0 at g0 g1 hb0 hz0 ⊢
  have h0 := h.below hb0
  have hcum : Below w0.heap.size w0 w0.drew := (Below.refl w0.heap.size w0).drew
  clear hz
  go_region_held3 (fun w' => w'.cell? ⟨w.heap.size, 0, none⟩ = some (.bool z) ∧ w'.cell? ⟨w.heap.size, 1, none⟩ = some (.int .i64 181))
    (first
      | exact ⟨(hcum.cell (p := ⟨w.heap.size, 0, none⟩) hz0).trans g0, (hcum.cell (p := ⟨w.heap.size, 1, none⟩) hz0).trans g1⟩
      | go_keep)
    (first
      | ((go_at_call 40; refine (given_any _ _).mono ?_; rintro e w1 ⟨rfl, hb1⟩; replace hcum := hcum.trans (hb1.mono hcum.size); clear hb1))
      | ((go_at_call 41; refine (running_any a D _ (h0.below hcum).hd).mono ?_; rintro e w1 ⟨rfl, hb1⟩; replace hcum := hcum.trans (hb1.mono hcum.size); clear hb1))
      | ((go_at_call 42; refine (numbered_any a b D i _ (h0.below hcum)).mono ?_; rintro e w1 ⟨rfl, hb1⟩; replace hcum := hcum.trans (hb1.mono hcum.size); clear hb1))
      | ((go_at_call 38; refine (check_any _ _ _ [(true, 1), (!D.down, 180), (decide (inD D i), 181), (z, 181)] _ (by simp) (rules_of_block _ (heap_alloc_new _ _))).mono ?_; rintro e w4 ⟨rfl, hb4⟩; replace hcum := (hcum.alloc hcum.size _).trans (hb4.mono (by have := hcum.size; simp; omega)); clear hb4)))
  have hB4 : Below w.heap.size w w4 := hb0.trans (hcum.mono hb0.size)
  clear hcum hb0 g0 g1 hz0 h0
  have hD4 := h.below hB4
  cases hd : D.down with
  | true =>
    have e1 : writeE D i s = 180 := by simp [writeE, hd]
    have e2 : writeD D i s = D := by simp [writeD, hd]
    have e3 : writeV D i s = .iface 89 (.agg #[.string ⟨#[87, 114, 105, 116, 101]⟩, .iface 83 (.agg #[.int .i64 180])]) := by simp [writeV, e1, wrongV]
    have E2 := Lib.hid e2
    have E3 := Lib.hid e3
    clear e1 e2 e3
    simp only [firstBad, wrongV, Bool.not_true]
    go_wp2
    go_ret
    exact ⟨by rw [E3.out]; rfl, by rw [E2.out]; exact hD4, Only.ofBelow hB4⟩
  | false =>
    by_cases hi : inD D i
    · by_cases hs : s.size = 64
      · have hzt : z = true := by rw [← HZ.out]; simp [hs]
        subst hzt
        obtain ⟨t, ht, htd, ht64⟩ := h.ok.get hi
        obtain ⟨j, rfl⟩ := Int.eq_ofNat_of_zero_le hi.1
        have hlt : j < D.ss.length := by have := hi.2; omega
        have hm := h.ok.m256
        simp only [Int.toNat_natCast] at ht htd
        have hrl := h.ok.reach_le
        have e1 : writeE D j s = if D.left = 1 then 180 else 0 := by simp [writeE, hd, hi, hs]
        have e2 : writeD D j s = { spentD D with ss := D.ss.set j (mixS s t D.reach) } := by
          unfold writeD
          rw [if_pos ⟨hd, hi, hs⟩]
          simp only [Int.toNat_natCast, htd, spentD]
        rw [decide_eq_true hi]
        simp only [firstBad, wrongV, Bool.not_false]
        have HE1 := Lib.hid e1
        have HE2 := Lib.hid e2
        have HT := Lib.hid ht
        have HS := Lib.hid hs
        have HD := Lib.hid hd
        have HI := Lib.hid hi
        clear e1 e2 ht htd hs hd hi
        go_wp2_with fail
        refine (spend_any a b D _ hD4 HD.out hn).mono ?_
        rintro e w5 ⟨rfl, hD5, ho5⟩
        have c0 := hD5.c0
        have hcp := fun ty => run_copy_cut w5 58 9 ty 5 b (j * 64) D.reach 64 s Tryd.underlying58 Tryd.sizeOf5 (by rw [HS.out]; exact hrl) (fun q hq => (hD5.th j hlt q (by omega)).1) (fun q hq => (hD5.th j hlt q (by omega)).2)
        generalize hr : D.reach = r at *
        have hr64 : (r : Int) ≤ 64 := by omega
        have HR := Lib.hid hr
        clear hr
        go_wp2_with fail
        have hD6 : DAt a b (writeD D j s) (w5.setCells b (j * 64) (Lib.byteCells (s.data.toList.take r))) := hD5.wrote j t s HT.out HS.out r hrl (by rw [HE2.out]; rfl)
        have ho6 : Only a b w (w5.setCells b (j * 64) (Lib.byteCells (s.data.toList.take r))) := Only.setCells _ _ _ ((Only.ofBelow hB4).trans ho5)
        clear hcp hD5 ho5 c0 HT
        generalize w5.setCells b (j * 64) (Lib.byteCells (s.data.toList.take r)) = w6 at *
        have hdn : (writeD D j s).down = decide (D.left = 1) := by rw [HE2.out]; rfl
        have hfin : wrongV ⟨#[87, 114, 105, 116, 101]⟩ (firstBad [(!(writeD D j s).down, 180)]) = writeV D j s := by
          unfold writeV
          rw [HE1.out, hdn]
          by_cases h1 : D.left = 1
          · simp [h1, firstBad]
          · simp [h1, firstBad]
        have HF := Lib.hid hfin
        clear hdn hfin
        refine (running_any a (writeD D j s) _ hD6.hd).mono ?_
        rintro e w7 ⟨rfl, hb7⟩
        go_wp2_with fail
        refine (check_any _ w7.heap.size 1 [(!(writeD D j s).down, 180)] _ (by simp) (rules_of_block _ (heap_alloc_new w7 _))).mono ?_
        rintro e w8 ⟨rfl, hb8⟩
        rw [HF.out]
        have hB8 := (hb7.alloc hb7.size (.cells #[.bool (!(writeD D j s).down), .int .i64 180] 76)).trans (hb8.mono (by have := hb7.size; simp; omega))
        go_wp2
        go_ret
        exact ⟨rfl, hD6.below hB8, ho6.below hB8⟩
      · have hzt : z = false := by rw [← HZ.out]; simp; omega
        subst hzt
        have e1 : writeE D i s = 181 := by simp [writeE, hd, hs]
        have e2 : writeD D i s = D := by simp [writeD, hs]
        have e3 : writeV D i s = .iface 89 (.agg #[.string ⟨#[87, 114, 105, 116, 101]⟩, .iface 83 (.agg #[.int .i64 181])]) := by simp [writeV, e1, wrongV]
        have E2 := Lib.hid e2
        have E3 := Lib.hid e3
        rw [decide_eq_true hi]
        clear e1 e2 e3
        simp only [firstBad, wrongV, Bool.not_false]
        go_wp2
        go_ret
        exact ⟨by rw [E3.out]; rfl, by rw [E2.out]; exact hD4, Only.ofBelow hB4⟩
    · have e1 : writeE D i s = 181 := by simp [writeE, hd, hi]
      have e2 : writeD D i s = D := by simp [writeD, hi]
      have e3 : writeV D i s = .iface 89 (.agg #[.string ⟨#[87, 114, 105, 116, 101]⟩, .iface 83 (.agg #[.int .i64 181])]) := by simp [writeV, e1, wrongV]
      have E2 := Lib.hid e2
      have E3 := Lib.hid e3
      rw [decide_eq_false hi]
      clear e1 e2 e3
      simp only [firstBad, wrongV, Bool.not_false]
      go_wp2
      go_ret
      exact ⟨by rw [E3.out]; rfl, by rw [E2.out]; exact hD4, Only.ofBelow hB4⟩

theorem writeV_num (D : Dk) (i : Int) (s : ByteArray) (w : World) (hG : EnvE w) :
    Calls Tryd.prog 33 #[writeV D i s] w fun e w' => e = .returned (.int .i64 (writeE D i s)) ∧ Below w.heap.size w w' := by
  unfold writeV
  refine (dnumber_any _ _ w hG).mono ?_
  rintro e w' ⟨rfl, hb⟩
  refine ⟨?_, hb⟩
  split
  · rename_i h; rw [h]; rfl
  · rfl

theorem Only.envE {a b : Nat} {w w' : World} (ho : Only a b w w') (h : EnvE w) (ha : 0 ≠ a) (hb : 0 ≠ b) : EnvE w' := ⟨ho.cell h.g ha hb⟩

set_option maxHeartbeats 400000 in
theorem write_any (a b : Nat) (D : Dk) (i : Int) (s : ByteArray) (w : World) (hG : EnvE w) (ha : 0 ≠ a) (hb : 0 ≠ b) (h : DAt a b D w) (hn : D.n < 1000000) :
    Calls Tryd.prog 19 #[.pointer (some ⟨a, 0, none⟩), .int .i64 i, .string s] w fun e w' => e = .returned (.int .i64 (writeE D i s)) ∧ DAt a b (writeD D i s) w' ∧ Only a b w w' := by
  have HA := Lib.hid ha
  have HB := Lib.hid hb
  clear ha hb
  go_enter Tryd.func19, Tryd.ntmps19
  go_wp2_with fail
  refine (write_raw a b D i s _ h hn).mono ?_
  rintro e w1 ⟨rfl, hD1, ho1⟩
  go_wp2_with fail
  refine (writeV_num D i s _ (ho1.envE hG HA.out HB.out)).mono ?_
  rintro e w2 ⟨rfl, hb2⟩
  go_wp2
  go_ret
  exact ⟨rfl, hD1.below hb2, ho1.below hb2⟩
end Go.Proofs.YtpafpmefhfmndaaDoor
