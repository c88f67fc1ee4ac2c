/- No number's groups begin another one's; the greater number has no fewer groups: the walk of SdnvApart. -/
import Derived.Test.YtajeanmmelldnaaDoorSShort
set_option linter.unusedVariables false
set_option linter.unusedSimpArgs false
namespace Go.Proofs.YtajeanmmelldnaaDoor
open Go.RowKit

set_option maxRecDepth 100000 in
set_option maxHeartbeats 2000000 in
theorem apart_of (n m : Int) (a b : ByteArray) (e f : Int) (w : World) (hG : EnvE w) (hA : encR n = (a, e)) (hB : encR m = (b, f)) (ha7 : a.size ≤ 7) (hb7 : b.size ≤ 7)
    (h : ((e != 0) = true ∧ (e == 0) = false ∧ a = ⟨#[]⟩ ∧ ((f == 0) = true ∨ (f == 0) = false ∧ b = ⟨#[]⟩)) ∨ ((e != 0) = false ∧ (e == 0) = true ∧ (f != 0) = true ∧ (f == 0) = false ∧ b = ⟨#[]⟩) ∨
      ((e != 0) = false ∧ (f != 0) = false ∧ 1 ≤ a.size ∧ ((a.size ≤ b.size ∧ ((b.extract 0 a.size).toList == a.toList) = (n == m)) ∨ (b.size < a.size ∧ (n == m) = false ∧ decide (m < n) = true)))) :
    Calls Tryd.prog 6 #[.int .i64 n, .int .i64 m] w fun e w' => e = .returned (.bool true) ∧ Below w.heap.size w w' := by
  have HA := Lib.hid hA
  have HBB := Lib.hid hB
  clear hA hB
  rcases h with ⟨h1, h2, rfl, h3 | ⟨h3, rfl⟩⟩ | ⟨h1, h2, h3, h4, rfl⟩ | ⟨h1, h2, h3, ⟨h4, h5⟩ | ⟨h4, h5, h6⟩⟩
  all_goals
    go_enter Tryd.func6, Tryd.ntmps6
    go_wp2_with fail
    refine (shown_any _ hG).mono ?_
    rintro e w1 ⟨rfl, hb1⟩
    have hG1 := hG.below hb1
    go_wp2_with fail
    refine (encode_any _ _ hG1).mono ?_
    rintro e w2 ⟨rfl, hb2⟩
    have hG2 := hG1.below hb2
    replace hb2 := hb1.trans (hb2.mono hb1.size)
    rw [HA.out]
    go_wp2_with fail
    refine (encode_any _ _ hG2).mono ?_
    rintro e w3 ⟨rfl, hb3⟩
    replace hb3 := hb2.trans (hb3.mono hb2.size)
    rw [HBB.out]
    have HB := Lib.hid hb3
    clear hb1 hb2 hb3 hG1 hG2
    go_wp2
    all_goals
      go_ret
      first | exact ⟨rfl, HB.out⟩ | exact ⟨congrArg (fun b => Ending.returned (.bool b)) (by simp; omega), HB.out⟩

theorem grp_size (n : Nat) : (⟨(grpL n).toArray⟩ : ByteArray).size = (grpL n).length := by show (grpL n).toArray.size = _; simp
theorem grp_begins (n m : Nat) (hn : n ≤ 281474976710655) (hm : m ≤ 281474976710655) : (grpL m).take (grpL n).length = grpL n ↔ n = m := by
  constructor
  · intro h
    have e : grpL m = grpL n ++ (grpL m).drop (grpL n).length := by
      conv => lhs; rw [← List.take_append_drop (grpL n).length (grpL m)]
      rw [h]
    have h1 := decL_grp m [] hm
    rw [List.append_nil, e, decL_grp n _ hn] at h1
    injection h1 with h1
    injection h1
  · rintro rfl
    exact List.take_length
theorem extract_list (l : List UInt8) (j : Nat) : ((⟨l.toArray⟩ : ByteArray).extract 0 j).toList = l.take j := by
  rw [ByteArray.toList_eq, ByteArray.data_extract]
  simp [Array.toList_extract, List.extract]
theorem bytes_list (l : List UInt8) : (⟨l.toArray⟩ : ByteArray).toList = l := by
  rw [ByteArray.toList_eq]

theorem apart_walk (n m : Int) (w : World) (hG : EnvE w) (_ : (Lit.int .i64 n).wf = true) (_ : (Lit.int .i64 m).wf = true) :
    Calls Tryd.prog 6 #[.int .i64 n, .int .i64 m] w fun e w' => e = .returned (.bool true) ∧ Below w.heap.size w w' := by
  refine apart_of n m (encR n).1 (encR m).1 (encR n).2 (encR m).2 w hG rfl rfl (encR_size n) (encR_size m) ?_
  rcases encR_cases n with ⟨_, h⟩ | ⟨x, rfl, hx, h⟩
  · rw [h]
    rcases encR_cases m with ⟨_, h'⟩ | ⟨y, rfl, hy, h'⟩
    · rw [h']; exact .inl ⟨rfl, rfl, rfl, .inr ⟨rfl, rfl⟩⟩
    · rw [h']; exact .inl ⟨rfl, rfl, rfl, .inl rfl⟩
  · rcases encR_cases m with ⟨_, h'⟩ | ⟨y, rfl, hy, h'⟩
    · rw [h, h']; exact .inr (.inl ⟨rfl, rfl, rfl, rfl, rfl⟩)
    · rw [h, h']
      refine .inr (.inr ⟨rfl, rfl, ?_, ?_⟩)
      · show 1 ≤ (⟨(grpL x).toArray⟩ : ByteArray).size
        rw [grp_size]; exact (grpL_length hx).1
      · show ((⟨(grpL x).toArray⟩ : ByteArray).size ≤ (⟨(grpL y).toArray⟩ : ByteArray).size ∧ _) ∨ _
        by_cases hle : (grpL x).length ≤ (grpL y).length
        · refine .inl ⟨by rw [grp_size, grp_size]; exact hle, ?_⟩
          show (((⟨(grpL y).toArray⟩ : ByteArray).extract 0 (⟨(grpL x).toArray⟩ : ByteArray).size).toList == (⟨(grpL x).toArray⟩ : ByteArray).toList) = _
          rw [grp_size, extract_list, bytes_list, Bool.eq_iff_iff]
          simp
          rw [grp_begins x y hx hy]
          constructor <;> intro e <;> omega
        · refine .inr ⟨by show (⟨(grpL y).toArray⟩ : ByteArray).size < (⟨(grpL x).toArray⟩ : ByteArray).size; rw [grp_size, grp_size]; omega, ?_, ?_⟩
          · simp; intro e; have e' : x = y := by omega
            subst e'; exact hle (Nat.le_refl _)
          · simp
            rcases Nat.lt_or_ge y x with h1 | h1
            · exact h1
            · exact absurd (grpL_length_le h1) hle
end Go.Proofs.YtajeanmmelldnaaDoor
