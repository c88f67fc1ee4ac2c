/- Contracts of tell of package disk, and of New: a new disk in memory. -/
import Derived.Test.YtpafpmefhfmndaaDoorKCheck
import Derived.Laws.MakeOwn
set_option linter.unusedVariables false
set_option linter.unusedSimpArgs false
namespace Go.Proofs.YtpafpmefhfmndaaDoor
open Go.RowKit Go.Extern.Stop Go.Stop Go.Extern

set_option maxHeartbeats 400000 in
theorem dtells_ok (s : ByteArray) (w : World) :
    Calls Tryd.prog 26 #[.string s, .nilIface] w fun e w' => e = .returned (.tuple #[.string s, .int .i64 0]) ∧ Below w.heap.size w w' := by
  go_enter Tryd.func26, Tryd.ntmps26
  go_wp2_with fail
  refine (number_nil _).mono ?_
  rintro e w1 ⟨rfl, hb1⟩
  go_wp2
  go_ret2
  exact ⟨rfl, hb1⟩

set_option maxHeartbeats 400000 in
theorem dtells_bad (s v : Value) (k : Int) (w : World) (hG : EnvE w) (hv : Wrong k v) (hk : k ≠ 0) :
    Calls Tryd.prog 26 #[s, v] w fun e w' => e = .returned (.tuple #[.string ⟨#[]⟩, .int .i64 k]) ∧ Below w.heap.size w w' := by
  have HV := Lib.hid hv
  clear hv
  have hk' : (k == 0) = false := by simpa using hk
  go_enter Tryd.func26, Tryd.ntmps26
  go_wp2_with fail
  refine (number_bad v k _ hG HV.out).mono ?_
  rintro e w1 ⟨rfl, hb1⟩
  go_wp2
  go_ret2
  exact ⟨rfl, hb1⟩

set_option maxHeartbeats 400000 in
theorem dtellp_ok (p : Option Addr) (w : World) :
    Calls Tryd.prog 24 #[.pointer p, .nilIface] w fun e w' => e = .returned (.tuple #[.pointer p, .int .i64 0]) ∧ Below w.heap.size w w' := by
  go_enter Tryd.func24, Tryd.ntmps24
  go_wp2_with fail
  refine (number_nil _).mono ?_
  rintro e w1 ⟨rfl, hb1⟩
  go_wp2
  go_ret2
  exact ⟨rfl, hb1⟩

set_option maxHeartbeats 400000 in
theorem dtellp_bad (s v : Value) (k : Int) (w : World) (hG : EnvE w) (hv : Wrong k v) (hk : k ≠ 0) :
    Calls Tryd.prog 24 #[s, v] w fun e w' => e = .returned (.tuple #[.pointer none, .int .i64 k]) ∧ Below w.heap.size w w' := by
  have HV := Lib.hid hv
  clear hv
  have hk' : (k == 0) = false := by simpa using hk
  go_enter Tryd.func24, Tryd.ntmps24
  go_wp2_with fail
  refine (number_bad v k _ hG HV.out).mono ?_
  rintro e w1 ⟨rfl, hb1⟩
  go_wp2
  go_ret2
  exact ⟨rfl, hb1⟩

theorem sector_info : (Tryd.prog.info? 80).map (fun i => (i.zero, i.size, i.bytes)) = some (some (.agg (Array.replicate 64 (.int .u8 0))), 64, 64) := by kernel_rfl

theorem made_at (n j : Nat) (hj : j < n) : (madeCells (Array.replicate 64 (Value.int .u8 0)) n)[j]? = some (.int .u8 0) := by
  unfold madeCells
  rw [Array.getElem?_map, Array.getElem?_range, if_pos hj]
  simp
  rw [getElem!_pos _ _ (by simp; omega)]
  simp

theorem newD_get {m i : Nat} {s : ByteArray} (h : (newD m).ss[i]? = some s) : i < m ∧ s = ⟨Array.replicate 64 0⟩ := by
  obtain ⟨hi, e⟩ := List.getElem?_eq_some_iff.1 h
  have hi' : i < m := by simpa [newD] using hi
  exact ⟨hi', by rw [← e]; simp [newD]⟩

theorem zero_cells : Lib.byteCells (⟨Array.replicate 64 0⟩ : ByteArray).data.toList = List.replicate 64 (Value.int .u8 0) := by rfl

/-- A disk that was just made. -/
theorem newD_at (w : World) (m : Nat) (h1 : 1 ≤ m) (h2 : m ≤ 256) (M : Array Value) (hM : M = madeCells (Array.replicate 64 (.int .u8 0)) (m * 64)) (t t' : TypeId) :
    DAt (w.heap.size + 1) w.heap.size (newD m) ((w.alloc (.cells M t)).alloc (.cells #[.slice (some ⟨w.heap.size, 0, none⟩) m m, .int .i64 0, .int .i64 0, .bool false, .int .i64 0] t')) := by
  have hb : ((w.alloc (.cells M t)).alloc (.cells #[.slice (some ⟨w.heap.size, 0, none⟩) m m, .int .i64 0, .int .i64 0, .bool false, .int .i64 0] t')).heap[w.heap.size]? = some (.cells M t (0, 0)) := heap_alloc2_old _ _ _
  have hl : (newD m).ss.length = m := by simp [newD]
  refine ⟨⟨?_, ⟨0, ?_, fun h => by simp [newD] at h⟩, ?_, ?_, ?_, ?_, ?_, ?_⟩, ?_, by omega, ?_, ?_, newD_ok h1 h2⟩
  · go_simp; rfl
  · go_simp
  · go_simp; rfl
  · go_simp; rfl
  · go_simp
  · go_simp
  · go_simp
  · go_simp
  · rw [hl]; go_simp
  · intro i s hs j v hv
    obtain ⟨hi, rfl⟩ := newD_get hs
    have hj : j < 64 := by
      have := (List.getElem?_eq_some_iff.1 hv).1
      rw [Lib.byteCells_length] at this
      simpa using this
    have hv' : v = .int .u8 0 := by
      rw [zero_cells, List.getElem?_replicate, if_pos hj] at hv
      exact (Option.some.inj hv).symm
    rw [cell_of_row _ _ _ _ _ _ hb, hM, made_at _ _ (by omega), hv']
  · intro i hi j hj
    rw [hl] at hi
    refine ⟨by rw [cell_of_row _ _ _ _ _ _ hb, hM, made_at _ _ (by omega)]; rfl, ?_⟩
    unfold World.frozen?
    simp [hb]

/-- What New answers of a right number: a new disk. -/
def NewR (m : Nat) (w : World) (e : Ending) (w' : World) : Prop :=
  ∃ a b, e = .returned (.tuple #[.pointer (some ⟨a, 0, none⟩), .int .i64 0]) ∧ DAt a b (newD m) w' ∧ w.heap.size ≤ a ∧ w.heap.size ≤ b ∧ Below w.heap.size w w'

def BlankR (m : Nat) (w : World) (e : Ending) (w' : World) : Prop :=
  ∃ a b, e = .returned (.tuple #[.pointer (some ⟨a, 0, none⟩), .nilIface]) ∧ DAt a b (newD m) w' ∧ w.heap.size ≤ a ∧ w.heap.size ≤ b ∧ Below w.heap.size w w'

set_option maxRecDepth 100000 in
set_option maxHeartbeats 1000000 in
theorem blank_ok (m : Nat) (w : World) (h1 : 1 ≤ m) (h2 : m ≤ 256) :
    Calls Tryd.prog 25 #[.int .i64 (m : Int)] w (BlankR m w) := by
  obtain ⟨i0, hi, hz0, hz1, hz2⟩ := info_parts sector_info
  obtain ⟨M, hM⟩ : ∃ M, M = madeCells (Value.agg (Array.replicate 64 (.int .u8 0))).cells ((m : Int).toNat * i0.size) := ⟨_, rfl⟩
  have hmk : ∀ W : World, (Instr.makeSlice 62 (.int .i64 (m : Int)) (.int .i64 (m : Int))).run Tryd.prog W = .ok (.slice (some ⟨W.heap.size, 0, none⟩) m m) (W.alloc (.cells M 80)) := fun W => by
    have h := run_make (P := Tryd.prog) W 62 80 i0 _ Tryd.underlying62 hi hz0 .i64 .i64 (m : Int) (m : Int) (by omega) (by omega) (by rw [hz2]; omega) (by omega)
    rw [← hM] at h
    simpa using h
  have hM' : M = madeCells (Array.replicate 64 (.int .u8 0)) (m * 64) := by rw [hM, hz1]; rfl
  have HM := Lib.hid hM'
  clear hM hM' hz1 hz2
  have hw : withinB (m : Int) 1 256 = true := by unfold withinB; simp; omega
  go_enter Tryd.func25, Tryd.ntmps25
  go_wp2_with fail
  refine (within_any _ _ _ _).mono ?_
  rintro e w' ⟨rfl, rfl⟩
  rw [hw]
  go_wp2_with fail
  refine (check_any _ w.heap.size 1 [(true, 2)] _ (by decide) (rules_of_block _ (heap_alloc_new w _))).mono ?_
  rintro e w1 ⟨rfl, hb1⟩
  simp only [firstBad, wrongV]
  go_wp2
  refine bodyPost_ret (v := .tuple #[.pointer (some ⟨w1.heap.size + 1, 0, none⟩), .nilIface]) (by simp [results, Tryd.results25, go_sem]) rfl ?_
  have hB : Below w.heap.size w w1 := ((Below.refl _ _).alloc (Nat.le_refl _) _).trans (hb1.mono (by simp))
  exact ⟨_, _, rfl, newD_at w1 m h1 h2 M HM.out _ _, by have := hB.size; omega, hB.size, (hB.alloc hB.size _).alloc (by have := hB.size; simp; omega) _⟩

set_option maxRecDepth 100000 in
set_option maxHeartbeats 1000000 in
theorem blank_bad (m : Int) (w : World) (h : m < 1 ∨ 256 < m) :
    Calls Tryd.prog 25 #[.int .i64 m] w fun e w' => e = .returned (.tuple #[.pointer none, wrongV ⟨#[78, 101, 119]⟩ (some 2)]) ∧ Below w.heap.size w w' := by
  have hw : withinB m 1 256 = false := by unfold withinB; simp; omega
  go_enter Tryd.func25, Tryd.ntmps25
  go_wp2_with fail
  refine (within_any _ _ _ _).mono ?_
  rintro e w' ⟨rfl, rfl⟩
  rw [hw]
  go_wp2_with fail
  refine (check_any _ w.heap.size 1 [(false, 2)] _ (by decide) (rules_of_block _ (heap_alloc_new w _))).mono ?_
  rintro e w1 ⟨rfl, hb1⟩
  simp only [firstBad, wrongV]
  go_wp2
  go_ret2
  exact ⟨rfl, ((Below.refl _ _).alloc (Nat.le_refl _) _).trans (hb1.mono (by simp))⟩

set_option maxHeartbeats 400000 in
theorem new_ok (m : Nat) (w : World) (h1 : 1 ≤ m) (h2 : m ≤ 256) :
    Calls Tryd.prog 11 #[.int .i64 (m : Int)] w (NewR m w) := by
  go_enter Tryd.func11, Tryd.ntmps11
  go_wp2_with fail
  refine (blank_ok m _ h1 h2).mono ?_
  rintro e w1 ⟨a, b, rfl, hD, ha, hb, hb1⟩
  go_wp2_with fail
  refine (dtellp_ok _ _).mono ?_
  rintro e w2 ⟨rfl, hb2⟩
  go_wp2
  go_ret2
  exact ⟨a, b, rfl, hD.below hb2, ha, hb, hb1.trans (hb2.mono hb1.size)⟩

set_option maxHeartbeats 400000 in
theorem new_bad (m : Int) (w : World) (hG : EnvE w) (h : m < 1 ∨ 256 < m) :
    Calls Tryd.prog 11 #[.int .i64 m] w fun e w' => e = .returned (.tuple #[.pointer none, .int .i64 2]) ∧ Below w.heap.size w w' := by
  go_enter Tryd.func11, Tryd.ntmps11
  go_wp2_with fail
  refine (blank_bad m _ h).mono ?_
  rintro e w1 ⟨rfl, hb1⟩
  go_wp2_with fail
  refine (dtellp_bad _ _ 2 _ (hG.below hb1) (wrongV_bad _ _) (by omega)).mono ?_
  rintro e w2 ⟨rfl, hb2⟩
  go_wp2
  go_ret2
  exact ⟨rfl, hb1.trans (hb2.mono hb1.size)⟩
end Go.Proofs.YtpafpmefhfmndaaDoor
