/- DiskArms: an armed disk does all writes but the last one of the number, and goes down with that. -/
import Derived.Test.YtpafpmefhfmndaaDoorKWant
import Derived.OpenShut
set_option linter.unusedVariables false
set_option linter.unusedSimpArgs false
namespace Go.Proofs.YtpafpmefhfmndaaDoor
open Go.RowKit

/-- An armed disk, before the k-th write (from 0 on). -/
structure ArmI (m n c k : Nat) (D : Dk) : Prop where
  m : D.ss.length = m
  left : D.left + k = n
  cut : D.cut = c
  down : D.down = false
  n : D.n = k

theorem ArmI.start {m n c : Nat} (h1 : 1 ≤ n) (h2 : c ≤ 64) : ArmI m n c 0 (armD (newD m) (n : Int) (c : Int)) := by
  have e : armD (newD m) (n : Int) (c : Int) = { newD m with left := n, cut := c } := by
    unfold armD
    rw [if_pos ⟨by omega, by omega, by omega⟩]
    simp
  rw [e]
  exact ⟨by simp [newD], rfl, rfl, rfl, rfl⟩

def sX : ByteArray := ⟨Array.replicate 64 120⟩
theorem sX_size : sX.size = 64 := by kernel_rfl

theorem ArmI.step {m n c k : Nat} {D : Dk} (h : ArmI m n c k D) (hk : k < n) (r : Nat) (hr : r < m) :
    writeE D (r : Int) sX = (if k + 1 = n then 180 else 0) ∧ (writeD D (r : Int) sX).down = decide (k + 1 = n) ∧ (writeD D (r : Int) sX).n = k + 1 ∧ (k + 1 < n → ArmI m n c (k + 1) (writeD D (r : Int) sX)) := by
  have hi : inD D (r : Int) := ⟨by omega, by rw [h.m]; omega⟩
  have hl := h.left
  have e : writeD D (r : Int) sX = { D with ss := D.ss.set r (mixS sX (D.ss.getD r ⟨#[]⟩) D.reach), left := D.left - 1, down := decide (D.left = 1), n := D.n + 1 } := by
    unfold writeD
    rw [if_pos ⟨h.down, hi, sX_size⟩]
    rfl
  have hq : (D.left = 1) ↔ (k + 1 = n) := by omega
  refine ⟨?_, ?_, ?_, fun hk1 => ?_⟩
  · unfold writeE
    rw [h.down, if_neg (by simp), if_pos ⟨hi, sX_size⟩]
    by_cases h1 : D.left = 1
    · rw [if_pos h1, if_pos (hq.1 h1)]
    · rw [if_neg h1, if_neg (fun e => h1 (hq.2 e))]
  · rw [e]; simp only [hq]
  · rw [e]; show D.n + 1 = k + 1; rw [h.n]
  · rw [e]
    exact ⟨by simp [h.m], by show D.left - 1 + (k + 1) = n; omega, h.cut, by show decide (D.left = 1) = false; simp; omega, by show D.n + 1 = k + 1; rw [h.n]⟩

set_option maxRecDepth 100000 in
set_option maxHeartbeats 4000000 in
theorem arms_of (m n c : Nat) (w : World) (hE : DEnv w) (h1 : 1 ≤ m) (h2 : m ≤ 256) (hn1 : 1 ≤ n) (hn2 : n ≤ 9223372036854775807) (hc : c ≤ 64) :
    Calls Tryd.prog 7 #[.int .i64 (m : Int), .int .i64 (n : Int), .int .i64 (c : Int)] w fun e w' => e = .returned (.bool true) ∧ Below w.heap.size w w' := by
  have hA0 := ArmI.start (m := m) hn1 hc
  have hae : armE (n : Int) (c : Int) = 0 := if_pos ⟨by omega, by omega, by omega⟩
  have HAE := Lib.hid hae
  have HA0 := Lib.hid hA0
  clear hae hA0
  go_enter Tryd.func7, Tryd.ntmps7
  go_wp2_with fail
  refine (shown_any _ hE).mono ?_
  rintro e w0 ⟨rfl, hb0⟩
  go_wp2_with fail
  refine (new_ok m _ h1 h2).mono ?_
  rintro e w1 ⟨a, b, rfl, hD, ha, hb, hb1⟩
  have hl1 := LAt.new hb0 hD ha hb hb1
  clear hb0 hD ha hb hb1
  go_wp2_with fail
  refine (larm_any hE a b _ (n : Int) (c : Int) _ (by omega) hl1).mono ?_
  rintro e w2 ⟨rfl, hl2, _⟩
  rw [HAE.out]
  clear hl1
  have HL2 := Lib.hid hl2
  clear hl2
  go_wp2_with fail
  go_loopw [11] (fun i wr => ∃ (k : Nat) (D : Dk), k ≤ 100 ∧ k ≤ n ∧ i = .int .i64 ((k : Int) + 1) ∧ LAt w a b D wr ∧ (k < n → ArmI m n c k D)) (fun i _ => 101 - (intOf i).toNat)
  case atStart => exact ⟨0, _, by omega, by omega, rfl, HL2.out, fun _ => HA0.out⟩
  case round =>
    obtain ⟨k, D, hk, hkn, rfl, hl, hA⟩ := hrel
    have HL := Lib.hid hl
    have HA := Lib.hid hA
    clear hl hA
    by_cases hgo : k < n ∧ k < 100
    · obtain ⟨hk1, hk2⟩ := hgo
      obtain ⟨r, hr⟩ : ∃ r, (k + 1) % m = r := ⟨_, rfl⟩
      have hrm : r < m := by rw [← hr]; exact Nat.mod_lt _ (by omega)
      have ht : ((k : Int) + 1).tmod (m : Int) = (r : Int) := by
        rw [show ((k : Int) + 1) = ((k + 1 : Nat) : Int) by omega, ← Int.ofNat_tmod, hr]
      obtain ⟨hs1, hs2, hs3, hs4⟩ := (HA.out hk1).step hk1 r hrm
      have HS1 := Lib.hid hs1
      have HS2 := Lib.hid hs2
      have HS3 := Lib.hid hs3
      have HS4 := Lib.hid hs4
      have hDn : D.n < 1000000 := by rw [(HA.out hk1).n]; omega
      have g1 : decide ((k : Int) + 1 ≤ (n : Int)) = true := by simp; omega
      have g2 : decide ((k : Int) + 1 ≤ 100) = true := by simp; omega
      clear hr hs1 hs2 hs3 hs4
      have hmod : IntKind.i64.wrap ((k : Int) + 1) = (k : Int) + 1 := by rw [IntKind.wrap_i64]; omega
      have hm0 : ((m : Int) = 0) = False := by simp; omega
      have hm1 : (m = 0) = False := by simp; omega
      have hwr : IntKind.i64.wrap (r : Int) = (r : Int) := by rw [IntKind.wrap_i64]; omega
      go_wp2_with fail
      have hl0 := HL.out
      have hcum : LAt w a b D wr.drew := ⟨hl0.be.drew, hl0.d.same rfl rfl, hl0.ga, hl0.gb⟩
      clear hl0
      go_region_held3 (fun w' => True)
        (trivial)
        (first
          | ((go_at_call 23; refine (full_any 120 _).mono ?_; rintro e v1 ⟨rfl, hb1⟩; replace hcum := hcum.below hb1; clear hb1))
          | ((go_at_call 19; refine (lwrite_any hE a b D (r : Int) sX _ hDn hcum).mono ?_; rintro e v2 ⟨rfl, hl3, _⟩)))
      rw [HS1.out]
      have hnn := HS3.out
      by_cases hlast : k + 1 = n
      · have hdd : (writeD D (r : Int) sX).down = true := by rw [HS2.out]; simpa using hlast
        have g5 : (((k : Int) + 1) == (n : Int)) = true := by simp; omega
        have g6 : decide ((k : Int) + 1 < (n : Int)) = false := by simp; omega
        rw [if_pos hlast]
        have HLA := Lib.hid hlast
        have HNN := Lib.hid hnn
        clear hlast hcum hnn
        go_wp2_with fail
        refine (isDown_any a _ _ hl3.d.hd).mono ?_
        rintro e w' ⟨rfl, rfl⟩
        rw [hdd]
        go_wp2_with fail
        refine (writes_any a _ _ hl3.d.hd).mono ?_
        rintro e w' ⟨rfl, rfl⟩
        rw [HNN.out]
        have g7 : (((k + 1 : Nat) : Int) != (k : Int) + 1) = false := by simp
        go_wp2
        go_roundw
        case rel => exact ⟨k + 1, _, by omega, by omega, by go_num, hl3, fun h => by have := HLA.out; omega⟩
        case measure => simp [intOf]; omega
      · have hdd : (writeD D (r : Int) sX).down = false := by rw [HS2.out]; simpa using hlast
        have g5 : (((k : Int) + 1) == (n : Int)) = false := by simp; omega
        rw [if_neg hlast]
        have HNN := Lib.hid hnn
        have HLA := Lib.hid (HS4.out (by omega))
        clear hlast hcum hnn
        go_wp2_with fail
        refine (isDown_any a _ _ hl3.d.hd).mono ?_
        rintro e w' ⟨rfl, rfl⟩
        rw [hdd]
        go_wp2_with fail
        refine (writes_any a _ _ hl3.d.hd).mono ?_
        rintro e w' ⟨rfl, rfl⟩
        rw [HNN.out]
        have g7 : (((k + 1 : Nat) : Int) != (k : Int) + 1) = false := by simp
        go_wp2
        go_roundw
        case rel => exact ⟨k + 1, _, by omega, by omega, by go_num, hl3, fun _ => HLA.out⟩
        case measure => simp [intOf]; omega
    · by_cases hk1 : k < n
      · have g1 : decide ((k : Int) + 1 ≤ (n : Int)) = true := by simp; omega
        have g2 : decide ((k : Int) + 1 ≤ 100) = false := by simp; omega
        go_wp2
        go_ret
        exact ⟨rfl, HL.out.be⟩
      · have g1 : decide ((k : Int) + 1 ≤ (n : Int)) = false := by simp; omega
        go_wp2
        go_ret
        exact ⟨rfl, HL.out.be⟩

set_option maxRecDepth 100000 in
set_option maxHeartbeats 1000000 in
theorem arms_bad (m n c : Int) (w : World) (hE : DEnv w) (h : m < 1 ∨ 256 < m) :
    Calls Tryd.prog 7 #[.int .i64 m, .int .i64 n, .int .i64 c] w fun e w' => e = .returned (.bool true) ∧ Below w.heap.size w w' := by
  have H := Lib.hid h
  clear h
  go_enter Tryd.func7, Tryd.ntmps7
  go_wp2_with fail
  refine (shown_any _ hE).mono ?_
  rintro e w0 ⟨rfl, hb0⟩
  go_wp2_with fail
  refine (new_bad m _ (hE.below hb0).e H.out).mono ?_
  rintro e w1 ⟨rfl, hb1⟩
  go_wp2
  go_ret
  exact ⟨rfl, hb0.trans (hb1.mono hb0.size)⟩

set_option maxRecDepth 100000 in
set_option maxHeartbeats 1000000 in
theorem arms_no (m : Nat) (n c : Int) (w : World) (hE : DEnv w) (h1 : 1 ≤ m) (h2 : m ≤ 256) (hn : n ≤ 9223372036854775807) (h : ¬ armB n c) :
    Calls Tryd.prog 7 #[.int .i64 (m : Int), .int .i64 n, .int .i64 c] w fun e w' => e = .returned (.bool true) ∧ Below w.heap.size w w' := by
  have hae : armE n c = 2 := if_neg h
  have HAE := Lib.hid hae
  unfold armB at h
  have hc : (n < 1) ∨ (¬ n < 1 ∧ c < 0) ∨ (¬ n < 1 ∧ ¬ c < 0 ∧ 64 < c) := by omega
  clear hae h
  rcases hc with hc | ⟨hc, hd⟩ | ⟨hc, hd, hd2⟩
  · have g1 : decide (n < 1) = true := by simpa using hc
    go_enter Tryd.func7, Tryd.ntmps7
    go_wp2_with fail
    refine (shown_any _ hE).mono ?_
    rintro e w0 ⟨rfl, hb0⟩
    go_wp2_with fail
    refine (new_ok m _ h1 h2).mono ?_
    rintro e w1 ⟨a, b, rfl, hD, ha, hb, hb1⟩
    have hl1 := LAt.new hb0 hD ha hb hb1
    go_wp2_with fail
    refine (larm_any hE a b _ n c _ hn hl1).mono ?_
    rintro e w2 ⟨rfl, hl2, _⟩
    rw [HAE.out]
    go_wp2
    go_ret
    exact ⟨rfl, hl2.be⟩
  · have g1 : decide (n < 1) = false := by simpa using hc
    have g2 : decide (c < 0) = true := by simpa using hd
    go_enter Tryd.func7, Tryd.ntmps7
    go_wp2_with fail
    refine (shown_any _ hE).mono ?_
    rintro e w0 ⟨rfl, hb0⟩
    go_wp2_with fail
    refine (new_ok m _ h1 h2).mono ?_
    rintro e w1 ⟨a, b, rfl, hD, ha, hb, hb1⟩
    have hl1 := LAt.new hb0 hD ha hb hb1
    go_wp2_with fail
    refine (larm_any hE a b _ n c _ hn hl1).mono ?_
    rintro e w2 ⟨rfl, hl2, _⟩
    rw [HAE.out]
    go_wp2
    go_ret
    exact ⟨rfl, hl2.be⟩
  · have g1 : decide (n < 1) = false := by simpa using hc
    have g2 : decide (c < 0) = false := by simpa using hd
    have g3 : decide (c > 64) = true := by simpa using hd2
    go_enter Tryd.func7, Tryd.ntmps7
    go_wp2_with fail
    refine (shown_any _ hE).mono ?_
    rintro e w0 ⟨rfl, hb0⟩
    go_wp2_with fail
    refine (new_ok m _ h1 h2).mono ?_
    rintro e w1 ⟨a, b, rfl, hD, ha, hb, hb1⟩
    have hl1 := LAt.new hb0 hD ha hb hb1
    go_wp2_with fail
    refine (larm_any hE a b _ n c _ hn hl1).mono ?_
    rintro e w2 ⟨rfl, hl2, _⟩
    rw [HAE.out]
    go_wp2
    go_ret
    exact ⟨rfl, hl2.be⟩

theorem arms_walk (m n c : Int) (w : World) (hE : DEnv w) (_ : (Lit.int .i64 m).wf = true) (hn : (Lit.int .i64 n).wf = true) (_ : (Lit.int .i64 c).wf = true) :
    Calls Tryd.prog 7 #[.int .i64 m, .int .i64 n, .int .i64 c] w fun e w' => e = .returned (.bool true) ∧ Below w.heap.size w w' := by
  have hn' := (bounds_i64 hn).2
  by_cases h : 1 ≤ m ∧ m ≤ 256
  · obtain ⟨k, rfl⟩ := Int.eq_ofNat_of_zero_le (show 0 ≤ m by omega)
    by_cases ha : armB n c
    · obtain ⟨h1, h2, h3⟩ := ha
      obtain ⟨n, rfl⟩ := Int.eq_ofNat_of_zero_le (show 0 ≤ n by omega)
      obtain ⟨c, rfl⟩ := Int.eq_ofNat_of_zero_le h2
      exact arms_of k n c w hE (by omega) (by omega) (by omega) (by omega) (by omega)
    · exact arms_no k n c w hE (by omega) (by omega) hn' ha
  · exact arms_bad m n c w hE (by omega)
end Go.Proofs.YtpafpmefhfmndaaDoor
