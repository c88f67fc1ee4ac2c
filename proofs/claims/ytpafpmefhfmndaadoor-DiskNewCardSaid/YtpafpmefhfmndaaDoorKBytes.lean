/- Contract of Bytes of package disk. -/
import Derived.Test.YtpafpmefhfmndaaDoorKJoin
set_option linter.unusedVariables false
set_option linter.unusedSimpArgs false
namespace Go.Proofs.YtpafpmefhfmndaaDoor
open Go.RowKit

theorem wrap_small {x : Int} (h0 : -9223372036854775808 ≤ x) (h1 : x ≤ 9223372036854775807) : wrap64 x = x := by unfold wrap64; omega

theorem joinB_size (D : Dk) (h : D.Ok) (k : Nat) (hk : k ≤ D.ss.length) : (⟨(catS (D.ss.take k)).toArray⟩ : ByteArray).size = 64 * k := by
  show (catS (D.ss.take k)).toArray.size = _
  rw [List.size_toArray, catS_length _ (h.a64.take k), List.length_take]
  congr 1
  omega

theorem extract_take (l r : List UInt8) (i j : Nat) (hj : j ≤ l.length) : (⟨l.toArray⟩ : ByteArray).extract i j = (⟨(l ++ r).toArray⟩ : ByteArray).extract i j := by
  apply ByteArray.ext
  apply Array.toList_inj.1
  rw [ByteArray.data_extract, ByteArray.data_extract, Array.toList_extract, Array.toList_extract]
  unfold List.extract
  show ((l.drop i).take (j - i)) = (((l ++ r).drop i).take (j - i))
  by_cases h : i ≤ l.length
  · rw [List.drop_append_of_le_length h, List.take_append_of_le_length (by rw [List.length_drop]; omega)]
  · rw [show j - i = 0 by omega]; simp

theorem cut_join (D : Dk) (h : D.Ok) (k : Nat) (hk : k ≤ D.ss.length) (at0 n : Int) (hc : k = D.ss.length ∨ wrap64 (at0 + n) ≤ 64 * (k : Int)) :
    cutR ⟨(catS (D.ss.take k)).toArray⟩ at0 n = cutR D.all at0 n := by
  have hs1 := joinB_size D h k hk
  have hs2 := h.all_size
  have hm := h.m256
  have hcat : catS D.ss = catS (D.ss.take k) ++ catS (D.ss.drop k) := by rw [← catS_append, List.take_append_drop]
  by_cases hf : fitsB D.all at0 n
  · have hf' : fitsB ⟨(catS (D.ss.take k)).toArray⟩ at0 n := by
      obtain ⟨h0, h1, h2⟩ := hf
      refine ⟨h0, h1, ?_⟩
      rw [hs1]
      rw [hs2] at h2
      rcases hc with hc | hc
      · omega
      · rw [wrap_small (by omega) (by omega)] at hc; omega
    rw [cutR_ok hf, cutR_ok hf']
    congr 1
    have := hf'.2.2
    rw [hs1] at this
    unfold Dk.all
    rw [hcat]
    refine extract_take _ _ _ _ ?_
    rw [catS_length _ (h.a64.take k), List.length_take]
    have := hf'.1
    have := hf'.2.1
    omega
  · have hf' : ¬ fitsB ⟨(catS (D.ss.take k)).toArray⟩ at0 n := by
      intro e
      obtain ⟨h0, h1, h2⟩ := e
      rw [hs1] at h2
      exact hf ⟨h0, h1, by rw [hs2]; omega⟩
    rw [cutR_bad hf, cutR_bad hf']

theorem cutR_le (s : ByteArray) (at0 n : Int) : (cutR s at0 n).2 = 0 ∨ (cutR s at0 n) = (⟨#[]⟩, 11) := by
  by_cases h : fitsB s at0 n
  · exact .inl (by rw [cutR_ok h])
  · exact .inr (by rw [cutR_bad h])

set_option maxRecDepth 100000 in
set_option maxHeartbeats 2000000 in
theorem cutOut_down (a b : Nat) (D : Dk) (at0 n : Int) (w : World) (h : DAt a b D w) (hd : D.down = true) :
    Calls Tryd.prog 36 #[.pointer (some ⟨a, 0, none⟩), .int .i64 at0, .int .i64 n] w fun e w' => e = .returned (.tuple #[.string ⟨#[]⟩, wrongV ⟨#[66, 121, 116, 101, 115]⟩ (some 180)]) ∧ Below w.heap.size w w' := by
  go_enter Tryd.func36, Tryd.ntmps36
  go_wp2_with fail
  refine (given_any _ _).mono ?_
  rintro e w1 ⟨rfl, hb1⟩
  go_wp2_with fail
  refine (running_any a D _ (h.below hb1).hd).mono ?_
  rintro e w2 ⟨rfl, hb2⟩
  have hB2 := hb1.trans (hb2.mono hb1.size)
  go_wp2_with fail
  refine (check_any _ w2.heap.size 2 [(true, 1), (false, 180)] _ (by simp) (rules_of_block _ (heap_alloc_new w2 _))).mono ?_
  rintro e w4 ⟨rfl, hb4⟩
  have hB4 := (hB2.alloc hB2.size (.cells #[.bool true, .int .i64 1, .bool false, .int .i64 180] 76)).trans (hb4.mono (by have := hB2.size; simp; omega))
  simp only [firstBad, wrongV]
  go_wp2
  go_ret2
  exact ⟨rfl, hB4⟩

/-- What cutOut answers, where the disk runs. -/
def cutV (c : ByteArray × Int) : Value := .tuple #[.string c.1, wrongV ⟨#[66, 121, 116, 101, 115]⟩ (if c.2 = 0 then none else some c.2)]

set_option maxRecDepth 100000 in
set_option maxHeartbeats 2000000 in
theorem cutOut_run (a b : Nat) (D : Dk) (at0 n : Int) (w : World) (hE : DEnv w) (h : DAt a b D w) (hd : D.down = false) (hat : at0 ≤ 9223372036854775807) :
    Calls Tryd.prog 36 #[.pointer (some ⟨a, 0, none⟩), .int .i64 at0, .int .i64 n] w fun e w' => e = .returned (cutV (cutR D.all at0 n)) ∧ Below w.heap.size w w' := by
  have hle := cutR_le D.all at0 n
  generalize hcc : cutR D.all at0 n = c at *
  have HCC := Lib.hid hcc
  have HLE := Lib.hid hle
  clear hcc hle
  go_enter Tryd.func36, Tryd.ntmps36
  go_wp2_with fail
  refine (given_any _ _).mono ?_
  rintro e w1 ⟨rfl, hb1⟩
  go_wp2_with fail
  refine (running_any a D _ (h.below hb1).hd).mono ?_
  rintro e w2 ⟨rfl, hb2⟩
  have hB2 := hb1.trans (hb2.mono hb1.size)
  go_wp2_with fail
  refine (check_any _ w2.heap.size 2 [(true, 1), (true, 180)] _ (by simp) (rules_of_block _ (heap_alloc_new w2 _))).mono ?_
  rintro e w4 ⟨rfl, hb4⟩
  have hB4 := (hB2.alloc hB2.size (.cells #[.bool true, .int .i64 1, .bool true, .int .i64 180] 76)).trans (hb4.mono (by have := hB2.size; simp; omega))
  simp only [firstBad, wrongV]
  have hD4 := h.below hB4
  go_wp2_with fail
  refine (joined_any a b D _ _ hD4).mono ?_
  rintro e w5 ⟨k, hk, rfl, hor, hb5⟩
  have hB5 := hB4.trans (hb5.mono hB4.size)
  have hcj := cut_join D h.ok k hk at0 n hor
  have hsz := joinB_size D h.ok k hk
  have hm := h.ok.m256
  obtain ⟨a0, a1, a2, hN⟩ := (hE.below hB5).n
  generalize hjj : (⟨(catS (D.ss.take k)).toArray⟩ : ByteArray) = jj at *
  have hjl : jj.size ≤ 281474976710656 := by omega
  have HCJ := Lib.hid hcj
  clear hjj hsz hcj hor hb5
  go_wp2_with fail
  refine (cut_any a0 a1 a2 jj at0 n _ hN hjl).mono ?_
  rintro e w6 ⟨rfl, hb6⟩
  rw [HCJ.out, HCC.out]
  have hB6 := hB5.trans (hb6.mono hB5.size)
  have hle := HLE.out
  clear HCC HCJ HLE
  obtain ⟨p, e⟩ := c
  simp only at hle
  by_cases he : e = 0
  · subst he
    clear hle
    go_wp2_with fail
    refine (check_any _ w6.heap.size 1 [(true, 0)] _ (by simp) (rules_of_block _ (heap_alloc_new w6 _))).mono ?_
    rintro e w7 ⟨rfl, hb7⟩
    have hB7 := (hB6.alloc hB6.size (.cells #[.bool true, .int .i64 0] 76)).trans (hb7.mono (by have := hB6.size; simp; omega))
    simp only [firstBad, wrongV]
    go_wp2
    go_ret2
    exact ⟨by simp [cutV, wrongV], hB7⟩
  · have he' : (e == 0) = false := by simpa using he
    have hp : p = ⟨#[]⟩ ∧ e = 11 := by
      rcases hle with h0 | h0
      · exact absurd h0 he
      · injection h0 with h1 h2
        exact ⟨h1, h2⟩
    have HP := Lib.hid hp
    have HE := Lib.hid he
    clear hle hp he
    go_wp2_with fail
    refine (check_any _ w6.heap.size 1 [(false, e)] _ (by simp) (rules_of_block _ (heap_alloc_new w6 _))).mono ?_
    rintro e7 w7 ⟨rfl, hb7⟩
    have hB7 := (hB6.alloc hB6.size (.cells #[.bool false, .int .i64 e] 76)).trans (hb7.mono (by have := hB6.size; simp; omega))
    simp only [firstBad, wrongV]
    go_wp2
    go_ret2
    exact ⟨by simp [cutV, wrongV, HE.out], hB7⟩

set_option maxHeartbeats 400000 in
theorem bytes_any (a b : Nat) (D : Dk) (at0 n : Int) (w : World) (hE : DEnv w) (h : DAt a b D w) (hat : at0 ≤ 9223372036854775807) :
    Calls Tryd.prog 21 #[.pointer (some ⟨a, 0, none⟩), .int .i64 at0, .int .i64 n] w fun e w' => e = .returned (.tuple #[.string (bytesR D at0 n).1, .int .i64 (bytesR D at0 n).2]) ∧ Below w.heap.size w w' := by
  have hG := hE.e
  cases hd : D.down with
  | true =>
    have hr : bytesR D at0 n = (⟨#[]⟩, 180) := by simp [bytesR, hd]
    rw [hr]
    clear hr
    go_enter Tryd.func21, Tryd.ntmps21
    go_wp2_with fail
    refine (cutOut_down a b D at0 n _ h hd).mono ?_
    rintro e w1 ⟨rfl, hb1⟩
    go_wp2_with fail
    refine (dtells_bad _ _ 180 _ (hG.below hb1) (wrongV_bad _ _) (by omega)).mono ?_
    rintro e w2 ⟨rfl, hb2⟩
    go_wp2
    go_ret2
    exact ⟨rfl, hb1.trans (hb2.mono hb1.size)⟩
  | false =>
    have hr : bytesR D at0 n = cutR D.all at0 n := by simp [bytesR, hd]
    rw [hr]
    have hle := cutR_le D.all at0 n
    generalize hcc : cutR D.all at0 n = c at *
    have HCC := Lib.hid hcc
    clear hr hcc
    obtain ⟨p, e⟩ := c
    go_enter Tryd.func21, Tryd.ntmps21
    go_wp2_with fail
    refine (cutOut_run a b D at0 n _ hE h hd hat).mono ?_
    rintro e1 w1 ⟨rfl, hb1⟩
    rw [HCC.out]
    clear HCC
    by_cases he : e = 0
    · subst he
      clear hle
      simp only [cutV, if_pos rfl, wrongV]
      go_wp2_with fail
      refine (dtells_ok _ _).mono ?_
      rintro e w2 ⟨rfl, hb2⟩
      go_wp2
      go_ret2
      exact ⟨rfl, hb1.trans (hb2.mono hb1.size)⟩
    · have hp : p = ⟨#[]⟩ ∧ e = 11 := by
        rcases hle with h0 | h0
        · exact absurd h0 he
        · injection h0 with h1 h2
          exact ⟨h1, h2⟩
      obtain ⟨rfl, rfl⟩ := hp
      clear hle
      have hv : cutV (⟨#[]⟩, 11) = .tuple #[.string ⟨#[]⟩, wrongV ⟨#[66, 121, 116, 101, 115]⟩ (some 11)] := by simp [cutV]
      rw [hv]
      clear hv he
      go_wp2_with fail
      refine (dtells_bad _ _ 11 _ (hG.below hb1) (wrongV_bad _ _) (by omega)).mono ?_
      rintro e w2 ⟨rfl, hb2⟩
      go_wp2
      go_ret2
      exact ⟨rfl, hb1.trans (hb2.mono hb1.size)⟩
end Go.Proofs.YtpafpmefhfmndaaDoor
