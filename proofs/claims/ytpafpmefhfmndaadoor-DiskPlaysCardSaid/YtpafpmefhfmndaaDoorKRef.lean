/- Contracts of the document's disk: Read, Bytes, Arm, Restart. -/
import Derived.Test.YtpafpmefhfmndaaDoorKRefN
set_option linter.unusedVariables false
set_option linter.unusedSimpArgs false
namespace Go.Proofs.YtpafpmefhfmndaaDoor
open Go.RowKit

set_option maxHeartbeats 1000000 in
theorem rread_any (a b : Nat) (D : Dk) (i : Int) (w : World) (h : RAt a b D w) :
    Calls Tryd.prog 29 #[.pointer (some ⟨a, 0, none⟩), .int .i64 i] w fun e w' => e = .returned (.tuple #[.string (readR D i).1, .int .i64 (readR D i).2]) ∧ w = w' := by
  have c3 := h.hd.c3
  obtain ⟨cap, c0⟩ := h.c0
  have hm := h.ok.m256
  rcases readR_cases D i with ⟨hd, hr⟩ | ⟨hd, hi, hr⟩ | ⟨hd, j, s, rfl, hs, hr⟩
  · rw [hr]
    rw [hd] at c3
    clear hr hd
    go_enter Tryd.func29, Tryd.ntmps29
    go_wp2
    go_ret2
    exact ⟨rfl, rfl⟩
  · rw [hr]
    rw [hd] at c3
    clear hr hd
    unfold inD at hi
    by_cases h0 : i < 0
    · have g0 : decide (i < 0) = true := by simpa using h0
      clear hi
      go_enter Tryd.func29, Tryd.ntmps29
      go_wp2
      go_ret2
      exact ⟨rfl, rfl⟩
    · have g0 : decide (i < 0) = false := by simpa using h0
      have g1 : decide (i ≥ (D.ss.length : Int)) = true := by simp; omega
      clear hi
      go_enter Tryd.func29, Tryd.ntmps29
      go_wp2
      go_ret2
      exact ⟨rfl, rfl⟩
  · rw [hr]
    rw [hd] at c3
    have hlt : j < D.ss.length := (List.getElem?_eq_some_iff.1 hs).1
    have hc := (h.rg j s hs).1
    have g1 : decide (D.ss.length ≤ j) = false := by simp; omega
    clear hr hd hs
    go_enter Tryd.func29, Tryd.ntmps29
    go_wp2
    go_ret2
    exact ⟨rfl, rfl⟩

set_option maxHeartbeats 1000000 in
theorem rrestart_any (a b : Nat) (D : Dk) (w : World) (h : RAt a b D w) :
    Calls Tryd.prog 32 #[.pointer (some ⟨a, 0, none⟩)] w fun e w' => e = .returned (.int .i64 0) ∧ RAt a b (restD D) w' ∧ Only a b w w' := by
  have hne := h.ne
  obtain ⟨q, hc, hq⟩ := h.hd.hc
  have k1 := hc.c1
  have k3 := hc.c3
  have f1 := hc.f1
  have f3 := hc.f3
  clear hq
  go_enter Tryd.func32, Tryd.ntmps32
  go_wp2
  go_ret
  refine ⟨rfl, h.turn rfl (Hc.hd (D := restD D) ((hc.s3 false).s1 0) rfl rfl rfl (fun h => by simp [restD] at h)) ?_ ?_ (restD_ok h.ok), ((Only.refl a b w).sa 3 _).sa 1 _⟩
  · rw [World.cell?_setCell_other _ _ _ _ (by simp), World.cell?_setCell_other _ _ _ _ (by simp)]
  · rw [Below.heap_setCell _ _ _ _ (Ne.symm hne), Below.heap_setCell _ _ _ _ (Ne.symm hne)]

set_option maxHeartbeats 1000000 in
theorem rarm_any (a b : Nat) (D : Dk) (n c : Int) (w : World) (h : RAt a b D w) (hn' : n ≤ 9223372036854775807) :
    Calls Tryd.prog 31 #[.pointer (some ⟨a, 0, none⟩), .int .i64 n, .int .i64 c] w fun e w' => e = .returned (.int .i64 (armE n c)) ∧ RAt a b (armD D n c) w' ∧ Only a b w w' := by
  have hne := h.ne
  obtain ⟨q, hc, hq⟩ := h.hd.hc
  have k1 := hc.c1
  have k2 := hc.c2
  have f1 := hc.f1
  have f2 := hc.f2
  clear hq
  by_cases hb : armB n c
  · have hE : armE n c = 0 := if_pos hb
    have hA : armD D n c = { D with left := n.toNat, cut := c.toNat } := if_pos hb
    obtain ⟨h1, h2, h3⟩ := hb
    have g1 : decide (n < 1) = false := by simp; omega
    have g2 : decide (c < 0) = false := by simp; omega
    have g3 : decide (c > 64) = false := by simp; omega
    rw [hE]
    have HA := Lib.hid hA
    clear hE hA
    go_enter Tryd.func31, Tryd.ntmps31
    go_wp2
    go_ret
    have hA := HA.out
    refine ⟨rfl, h.turn (by rw [hA]) (Hc.hd (D := armD D n c) ((hc.s1 n).s2 c) (by rw [hA]; simp; omega) (by rw [hA]) (by rw [hA]) (fun h => by rw [hA]; simp; omega)) ?_ ?_ (armD_ok h.ok n c hn'), ((Only.refl a b w).sa 1 _).sa 2 _⟩
    · rw [World.cell?_setCell_other _ _ _ _ (by simp), World.cell?_setCell_other _ _ _ _ (by simp)]
    · rw [Below.heap_setCell _ _ _ _ (Ne.symm hne), Below.heap_setCell _ _ _ _ (Ne.symm hne)]
  · have hE : armE n c = 2 := if_neg hb
    have hA : armD D n c = D := if_neg hb
    rw [hE, hA]
    unfold armB at hb
    clear hE hA
    by_cases h1 : n < 1
    · have g1 : decide (n < 1) = true := by simpa using h1
      clear hb
      go_enter Tryd.func31, Tryd.ntmps31
      go_wp2
      go_ret
      exact ⟨rfl, h, Only.refl a b w⟩
    · have g1 : decide (n < 1) = false := by simpa using h1
      by_cases h2 : c < 0
      · have g2 : decide (c < 0) = true := by simpa using h2
        clear hb
        go_enter Tryd.func31, Tryd.ntmps31
        go_wp2
        go_ret
        exact ⟨rfl, h, Only.refl a b w⟩
      · have g2 : decide (c < 0) = false := by simpa using h2
        have g3 : decide (c > 64) = true := by simp; omega
        clear hb
        go_enter Tryd.func31, Tryd.ntmps31
        go_wp2
        go_ret
        exact ⟨rfl, h, Only.refl a b w⟩

set_option maxHeartbeats 2000000 in
theorem rbytes_any (a b : Nat) (D : Dk) (at0 n : Int) (w : World) (h : RAt a b D w) (hat : at0 ≤ 9223372036854775807) :
    Calls Tryd.prog 30 #[.pointer (some ⟨a, 0, none⟩), .int .i64 at0, .int .i64 n] w fun e w' => e = .returned (.tuple #[.string (bytesR D at0 n).1, .int .i64 (bytesR D at0 n).2]) ∧ w = w' := by
  have c3 := h.hd.c3
  obtain ⟨cap, c0⟩ := h.c0
  have hm := h.ok.m256
  cases hd : D.down with
  | true =>
    have hr : bytesR D at0 n = (⟨#[]⟩, 180) := by simp [bytesR, hd]
    rw [hr]
    rw [hd] at c3
    clear hr hd
    go_enter Tryd.func30, Tryd.ntmps30
    go_wp2
    go_ret2
    exact ⟨rfl, rfl⟩
  | false =>
    have hr : bytesR D at0 n = cutR D.all at0 n := by simp [bytesR, hd]
    rw [hr]
    rw [hd] at c3
    clear hr hd
    go_enter Tryd.func30, Tryd.ntmps30
    go_wp2
    go_loop [8, 9] (fun s i => ∃ k : Nat, k ≤ D.ss.length ∧ i = .int .i64 k ∧ s = .string ⟨(catS (D.ss.take k)).toArray⟩) (fun _ i => D.ss.length - (intOf i).toNat)
    case atStart => exact ⟨0, Nat.zero_le _, rfl, rfl⟩
    case round =>
      obtain ⟨k, hk, rfl, rfl⟩ := hrel
      by_cases hlt : k < D.ss.length
      · obtain ⟨s, hs⟩ : ∃ s, D.ss[k]? = some s := ⟨_, List.getElem?_eq_getElem hlt⟩
        have hc := (h.rg k s hs).1
        have e : (⟨(catS (D.ss.take k)).toArray⟩ : ByteArray) ++ s = ⟨(catS (D.ss.take (k + 1))).toArray⟩ := by
          apply ByteArray.ext
          apply Array.toList_inj.1
          rw [ByteArray.data_append, Array.toList_append, List.take_add_one, hs]
          show catS (D.ss.take k) ++ s.data.toList = catS (D.ss.take k ++ [s])
          rw [catS_snoc]
        have hsz1 := joinB_size D h.ok k hk
        have hsz2 := h.ok.a64.get hs
        have HE := Lib.hid e
        have H1 := Lib.hid hsz1
        have H2 := Lib.hid hsz2
        have hcl : (catS (D.ss.take k)).length + s.size ≤ 9223372036854775807 := by
          rw [catS_length _ (h.ok.a64.take k), List.length_take]; omega
        clear e hs hsz1 hsz2
        go_wp2
        exact ⟨⟨k + 1, by omega, by go_num, by rw [HE.out]⟩, by simp [intOf]; omega⟩
      · obtain rfl : k = D.ss.length := by omega
        have hsz1 := joinB_size D h.ok _ hk
        have H1 := Lib.hid hsz1
        clear hsz1
        go_wp2_with fail
        refine (refCut_any D.all at0 n _ (by have := h.ok.all_size; omega) hat).mono ?_
        rintro e w' ⟨rfl, rfl⟩
        go_wp2
        go_ret2
        exact ⟨rfl, rfl⟩
end Go.Proofs.YtpafpmefhfmndaaDoor
