/- Contract of Read of package disk. -/
import Derived.Test.YtpafpmefhfmndaaDoorKNew
import Derived.Lib.SlBytesRow
set_option linter.unusedVariables false
set_option linter.unusedSimpArgs false
namespace Go.Proofs.YtpafpmefhfmndaaDoor
open Go.RowKit Go.Extern.Stop Go.Stop Go.Extern

theorem bytes_of_range {w : World} {b o : Nat} {s : ByteArray} (h : w.rangeAt b o (Lib.byteCells s.data.toList)) : Lib.Bytes w b o s := fun i hi => by
  refine h i _ ?_
  rw [Lib.byteCells, List.getElem?_map, List.getElem?_eq_getElem (by simpa using hi)]
  rfl

theorem conv_sector {w : World} {b o cap : Nat} {s : ByteArray} (hs : s.size = 64) (h : w.rangeAt b o (Lib.byteCells s.data.toList)) :
    (convert 58 9 (.slice (some ⟨b, o, none⟩) 64 cap)).run Tryd.prog w = .ok (.string s) w := by
  have := Lib.run_convert_whole (P := Tryd.prog) w 58 5 9 Tryd.underlying58 Tryd.underlying5 Tryd.underlying9 b o s (bytes_of_range h) cap
  rw [hs] at this
  exact this

set_option maxRecDepth 100000 in
set_option maxHeartbeats 1000000 in
theorem read_down (a b : Nat) (D : Dk) (i : Int) (w : World) (h : DAt a b D w) (hd : D.down = true) :
    Calls Tryd.prog 27 #[.pointer (some ⟨a, 0, none⟩), .int .i64 i] w fun e w' => e = .returned (.tuple #[.string ⟨#[]⟩, wrongV ⟨#[82, 101, 97, 100]⟩ (some 180)]) ∧ Below w.heap.size w w' := by
  go_enter Tryd.func27, Tryd.ntmps27
  go_wp2_with fail
  refine (given_any _ _).mono ?_
  rintro e w1 ⟨rfl, hb1⟩
  go_wp2_with fail
  refine (running_any a D _ (h.below hb1).hd).mono ?_
  rintro e w2 ⟨rfl, hb2⟩
  have hB2 := hb1.trans (hb2.mono hb1.size)
  go_wp2_with fail
  refine (numbered_any a b D i _ (h.below hB2)).mono ?_
  rintro e w3 ⟨rfl, hb3⟩
  have hB3 := hB2.trans (hb3.mono hB2.size)
  go_wp2_with fail
  refine (check_any _ w3.heap.size 3 [(true, 1), (false, 180), (decide (inD D i), 181)] _ (by simp) (rules_of_block _ (heap_alloc_new w3 _))).mono ?_
  rintro e w4 ⟨rfl, hb4⟩
  have hB4 := (hB3.alloc hB3.size (.cells #[.bool true, .int .i64 1, .bool false, .int .i64 180, .bool (decide (inD D i)), .int .i64 181] 76)).trans (hb4.mono (by have := hB3.size; simp; omega))
  simp only [firstBad, wrongV]
  go_wp2
  go_ret2
  exact ⟨rfl, hB4⟩

set_option maxRecDepth 100000 in
set_option maxHeartbeats 1000000 in
theorem read_out (a b : Nat) (D : Dk) (i : Int) (w : World) (h : DAt a b D w) (hd : D.down = false) (hi : ¬ inD D i) :
    Calls Tryd.prog 27 #[.pointer (some ⟨a, 0, none⟩), .int .i64 i] w fun e w' => e = .returned (.tuple #[.string ⟨#[]⟩, wrongV ⟨#[82, 101, 97, 100]⟩ (some 181)]) ∧ Below w.heap.size w w' := by
  have HI := Lib.hid hi
  clear hi
  go_enter Tryd.func27, Tryd.ntmps27
  go_wp2_with fail
  refine (given_any _ _).mono ?_
  rintro e w1 ⟨rfl, hb1⟩
  go_wp2_with fail
  refine (running_any a D _ (h.below hb1).hd).mono ?_
  rintro e w2 ⟨rfl, hb2⟩
  have hB2 := hb1.trans (hb2.mono hb1.size)
  go_wp2_with fail
  refine (numbered_any a b D i _ (h.below hB2)).mono ?_
  rintro e w3 ⟨rfl, hb3⟩
  have hB3 := hB2.trans (hb3.mono hB2.size)
  go_wp2_with fail
  refine (check_any _ w3.heap.size 3 [(true, 1), (true, 180), (decide (inD D i), 181)] _ (by simp) (rules_of_block _ (heap_alloc_new w3 _))).mono ?_
  rintro e w4 ⟨rfl, hb4⟩
  have hB4 := (hB3.alloc hB3.size (.cells #[.bool true, .int .i64 1, .bool true, .int .i64 180, .bool (decide (inD D i)), .int .i64 181] 76)).trans (hb4.mono (by have := hB3.size; simp; omega))
  rw [decide_eq_false HI.out]
  simp only [firstBad, wrongV]
  go_wp2
  go_ret2
  exact ⟨rfl, hB4⟩

set_option maxRecDepth 100000 in
set_option maxHeartbeats 1000000 in
theorem read_in (a b : Nat) (D : Dk) (i : Nat) (s : ByteArray) (w : World) (h : DAt a b D w) (hd : D.down = false) (hs : D.ss[i]? = some s) :
    Calls Tryd.prog 27 #[.pointer (some ⟨a, 0, none⟩), .int .i64 (i : Int)] w fun e w' => e = .returned (.tuple #[.string s, .nilIface]) ∧ Below w.heap.size w w' := by
  have hlt : i < D.ss.length := (List.getElem?_eq_some_iff.1 hs).1
  have hm := h.ok.m256
  have HI := Lib.hid (show inD D (i : Int) from ⟨by omega, by omega⟩)
  have HS := Lib.hid hs
  clear hs
  go_enter Tryd.func27, Tryd.ntmps27
  go_wp2_with fail
  refine (given_any _ _).mono ?_
  rintro e w1 ⟨rfl, hb1⟩
  go_wp2_with fail
  refine (running_any a D _ (h.below hb1).hd).mono ?_
  rintro e w2 ⟨rfl, hb2⟩
  have hB2 := hb1.trans (hb2.mono hb1.size)
  go_wp2_with fail
  refine (numbered_any a b D i _ (h.below hB2)).mono ?_
  rintro e w3 ⟨rfl, hb3⟩
  have hB3 := hB2.trans (hb3.mono hB2.size)
  go_wp2_with fail
  refine (check_any _ w3.heap.size 3 [(true, 1), (true, 180), (decide (inD D i), 181)] _ (by simp) (rules_of_block _ (heap_alloc_new w3 _))).mono ?_
  rintro e w4 ⟨rfl, hb4⟩
  have hB4 := (hB3.alloc hB3.size (.cells #[.bool true, .int .i64 1, .bool true, .int .i64 180, .bool (decide (inD D i)), .int .i64 181] 76)).trans (hb4.mono (by have := hB3.size; simp; omega))
  rw [decide_eq_true HI.out]
  simp only [firstBad, wrongV]
  have hD4 := h.below hB4
  have c0 := hD4.c0
  have hcv := fun cap => conv_sector (cap := cap) (h.ok.a64.get HS.out) (hD4.rg i s HS.out)
  go_wp2
  go_ret2
  exact ⟨rfl, hB4⟩

theorem readR_cases (D : Dk) (i : Int) : (D.down = true ∧ readR D i = (⟨#[]⟩, 180)) ∨ (D.down = false ∧ ¬ inD D i ∧ readR D i = (⟨#[]⟩, 181)) ∨ (D.down = false ∧ ∃ (j : Nat) (s : ByteArray), i = j ∧ D.ss[j]? = some s ∧ readR D i = (s, 0)) := by
  unfold readR
  cases hd : D.down with
  | true => exact .inl ⟨rfl, by simp⟩
  | false =>
    by_cases hi : inD D i
    · refine .inr (.inr ⟨rfl, i.toNat, D.ss.getD i.toNat ⟨#[]⟩, by have := hi.1; omega, ?_, by simp [hi]⟩)
      have hlt : i.toNat < D.ss.length := by have := hi.1; have := hi.2; omega
      simp [List.getD, List.getElem?_eq_getElem hlt]
    · exact .inr (.inl ⟨rfl, hi, by simp [hi]⟩)

set_option maxHeartbeats 400000 in
theorem read_any (a b : Nat) (D : Dk) (i : Int) (w : World) (hG : EnvE w) (h : DAt a b D w) :
    Calls Tryd.prog 13 #[.pointer (some ⟨a, 0, none⟩), .int .i64 i] w fun e w' => e = .returned (.tuple #[.string (readR D i).1, .int .i64 (readR D i).2]) ∧ Below w.heap.size w w' := by
  rcases readR_cases D i with ⟨hd, hr⟩ | ⟨hd, hi, hr⟩ | ⟨hd, j, s, rfl, hs, hr⟩
  · rw [hr]
    clear hr
    go_enter Tryd.func13, Tryd.ntmps13
    go_wp2_with fail
    refine (read_down a b D i _ h hd).mono ?_
    rintro e w1 ⟨rfl, hb1⟩
    go_wp2_with fail
    refine (dtells_bad _ _ 180 _ (hG.below hb1) (wrongV_bad _ _) (by omega)).mono ?_
    rintro e w2 ⟨rfl, hb2⟩
    go_wp2
    go_ret2
    exact ⟨rfl, hb1.trans (hb2.mono hb1.size)⟩
  · rw [hr]
    have HI := Lib.hid hi
    clear hr hi
    go_enter Tryd.func13, Tryd.ntmps13
    go_wp2_with fail
    refine (read_out a b D i _ h hd HI.out).mono ?_
    rintro e w1 ⟨rfl, hb1⟩
    go_wp2_with fail
    refine (dtells_bad _ _ 181 _ (hG.below hb1) (wrongV_bad _ _) (by omega)).mono ?_
    rintro e w2 ⟨rfl, hb2⟩
    go_wp2
    go_ret2
    exact ⟨rfl, hb1.trans (hb2.mono hb1.size)⟩
  · rw [hr]
    have HS := Lib.hid hs
    clear hr hs
    go_enter Tryd.func13, Tryd.ntmps13
    go_wp2_with fail
    refine (read_in a b D j s _ h hd HS.out).mono ?_
    rintro e w1 ⟨rfl, hb1⟩
    go_wp2_with fail
    refine (dtells_ok _ _).mono ?_
    rintro e w2 ⟨rfl, hb2⟩
    go_wp2
    go_ret2
    exact ⟨rfl, hb1.trans (hb2.mono hb1.size)⟩

set_option maxRecDepth 100000 in
set_option maxHeartbeats 1000000 in
theorem read_nil (i : Int) (w : World) :
    Calls Tryd.prog 27 #[.pointer none, .int .i64 i] w fun e w' => e = .returned (.tuple #[.string ⟨#[]⟩, wrongV ⟨#[82, 101, 97, 100]⟩ (some 1)]) ∧ Below w.heap.size w w' := by
  go_enter Tryd.func27, Tryd.ntmps27
  go_wp2_with fail
  refine (given_any _ _).mono ?_
  rintro e w1 ⟨rfl, hb1⟩
  go_wp2_with fail
  refine (running_nil _).mono ?_
  rintro e w2 ⟨rfl, hb2⟩
  have hB2 := hb1.trans (hb2.mono hb1.size)
  go_wp2_with fail
  refine (numbered_nil i _).mono ?_
  rintro e w3 ⟨rfl, hb3⟩
  have hB3 := hB2.trans (hb3.mono hB2.size)
  go_wp2_with fail
  refine (check_any _ w3.heap.size 3 [(false, 1), (false, 180), (withinB i 0 (-1), 181)] _ (by simp) (rules_of_block _ (heap_alloc_new w3 _))).mono ?_
  rintro e w4 ⟨rfl, hb4⟩
  have hB4 := (hB3.alloc hB3.size (.cells #[.bool false, .int .i64 1, .bool false, .int .i64 180, .bool (withinB i 0 (-1)), .int .i64 181] 76)).trans (hb4.mono (by have := hB3.size; simp; omega))
  simp only [firstBad, wrongV]
  go_wp2
  go_ret2
  exact ⟨rfl, hB4⟩

set_option maxHeartbeats 400000 in
theorem readNil_any (i : Int) (w : World) (hG : EnvE w) :
    Calls Tryd.prog 13 #[.pointer none, .int .i64 i] w fun e w' => e = .returned (.tuple #[.string ⟨#[]⟩, .int .i64 1]) ∧ Below w.heap.size w w' := by
  go_enter Tryd.func13, Tryd.ntmps13
  go_wp2_with fail
  refine (read_nil i _).mono ?_
  rintro e w1 ⟨rfl, hb1⟩
  go_wp2_with fail
  refine (dtells_bad _ _ 1 _ (hG.below hb1) (wrongV_bad _ _) (by omega)).mono ?_
  rintro e w2 ⟨rfl, hb2⟩
  go_wp2
  go_ret2
  exact ⟨rfl, hb1.trans (hb2.mono hb1.size)⟩
end Go.Proofs.YtpafpmefhfmndaaDoor
