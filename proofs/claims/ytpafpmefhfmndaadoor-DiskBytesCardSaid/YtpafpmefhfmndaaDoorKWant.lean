/- The statements' package 18: calls as data, carried out on the document's disk; shown. -/
import Derived.Test.YtpafpmefhfmndaaDoorKDo
set_option linter.unusedVariables false
set_option linter.unusedSimpArgs false
namespace Go.Proofs.YtpafpmefhfmndaaDoor
open Go.RowKit

def WantR (a b : Nat) (D : Dk) (x : OpR) (w : World) (e : Ending) (w' : World) : Prop :=
  e = .returned (.tuple #[.string (opR D x).1, .int .i64 (opR D x).2]) ∧ RAt a b (opD D x) w' ∧ Only a b w w'

set_option maxRecDepth 100000 in
set_option maxHeartbeats 2000000 in
theorem want_any (a b : Nat) (D : Dk) (x : OpR) (w : World) (hx : x.ok) (hn : D.n < 1000000) (h : RAt a b D w) :
    Calls Tryd.prog 17 #[.pointer (some ⟨a, 0, none⟩), x.v] w (WantR a b D x w) := by
  obtain ⟨k, u, v, s⟩ := x
  obtain ⟨hu, hv, hs⟩ := hx
  simp only at hu hv hs
  simp only [OpR.v]
  have h' : RAt a b D (w.alloc (.cells #[.int .i64 k, .int .i64 u, .int .i64 v, .string s] 37)) := h.below ((Below.refl _ _).alloc (Nat.le_refl _) _)
  have hO : Only a b w (w.alloc (.cells #[.int .i64 k, .int .i64 u, .int .i64 v, .string s] 37)) := (Only.refl a b w).alloc _
  by_cases k0 : k = 0
  · subst k0
    have e1 : opR D ⟨0, u, v, s⟩ = (⟨#[]⟩, writeE D u s) := by simp [opR]
    have e2 : opD D ⟨0, u, v, s⟩ = writeD D u s := by simp [opD]
    unfold WantR
    rw [e1, e2]
    clear e1 e2
    go_enter Tryd.func17, Tryd.ntmps17
    go_wp2_with fail
    refine (rwrite_any a b D u s _ h' hn).mono ?_
    rintro e w1 ⟨rfl, hl1, ho1⟩
    go_wp2
    go_ret2
    exact ⟨rfl, hl1, hO.trans ho1⟩
  · by_cases k1 : k = 1
    · subst k1
      have e1 : opR D ⟨1, u, v, s⟩ = readR D u := by simp [opR]
      have e2 : opD D ⟨1, u, v, s⟩ = D := by simp [opD]
      unfold WantR
      rw [e1, e2]
      clear e1 e2 k0
      go_enter Tryd.func17, Tryd.ntmps17
      go_wp2_with fail
      refine (rread_any a b D u _ h').mono ?_
      rintro e w1 ⟨rfl, rfl⟩
      go_wp2
      go_ret2
      exact ⟨rfl, h', hO⟩
    · by_cases k2 : k = 2
      · subst k2
        have e1 : opR D ⟨2, u, v, s⟩ = bytesR D u v := by simp [opR]
        have e2 : opD D ⟨2, u, v, s⟩ = D := by simp [opD]
        unfold WantR
        rw [e1, e2]
        clear e1 e2 k0 k1
        go_enter Tryd.func17, Tryd.ntmps17
        go_wp2_with fail
        refine (rbytes_any a b D u v _ h' hu).mono ?_
        rintro e w1 ⟨rfl, rfl⟩
        go_wp2
        go_ret2
        exact ⟨rfl, h', hO⟩
      · by_cases k3 : k = 3
        · subst k3
          have e1 : opR D ⟨3, u, v, s⟩ = (⟨#[]⟩, armE u v) := by simp [opR]
          have e2 : opD D ⟨3, u, v, s⟩ = armD D u v := by simp [opD]
          unfold WantR
          rw [e1, e2]
          clear e1 e2 k0 k1 k2
          go_enter Tryd.func17, Tryd.ntmps17
          go_wp2_with fail
          refine (rarm_any a b D u v _ h' hu).mono ?_
          rintro e w1 ⟨rfl, hl1, ho1⟩
          go_wp2
          go_ret2
          exact ⟨rfl, hl1, hO.trans ho1⟩
        · by_cases k4 : k = 4
          · subst k4
            have e1 : opR D ⟨4, u, v, s⟩ = (⟨#[]⟩, 0) := by simp [opR]
            have e2 : opD D ⟨4, u, v, s⟩ = restD D := by simp [opD]
            unfold WantR
            rw [e1, e2]
            clear e1 e2 k0 k1 k2 k3
            go_enter Tryd.func17, Tryd.ntmps17
            go_wp2_with fail
            refine (rrestart_any a b D _ h').mono ?_
            rintro e w1 ⟨rfl, hl1, ho1⟩
            go_wp2
            go_ret2
            exact ⟨rfl, hl1, hO.trans ho1⟩
          · have e1 : opR D ⟨k, u, v, s⟩ = (⟨#[]⟩, 0) := by simp [opR, k0, k1, k2, k3]
            have e2 : opD D ⟨k, u, v, s⟩ = D := by simp [opD, k0, k3, k4]
            have b0 : (k == 0) = false := by simpa using k0
            have b1 : (k == 1) = false := by simpa using k1
            have b2 : (k == 2) = false := by simpa using k2
            have b3 : (k == 3) = false := by simpa using k3
            have b4 : (k == 4) = false := by simpa using k4
            unfold WantR
            rw [e1, e2]
            clear e1 e2 k0 k1 k2 k3 k4
            go_enter Tryd.func17, Tryd.ntmps17
            go_wp2
            go_ret2
            exact ⟨rfl, h', hO⟩

def sA : ByteArray := ⟨Array.replicate 64 97⟩
def sB : ByteArray := ⟨Array.replicate 64 98⟩
def d1 : Dk := armD (newD 2) 2 3
def d2 : Dk := writeD d1 0 sA
def d3 : Dk := writeD d2 1 sB
def d4 : Dk := restD d3
theorem d_e1 : armE 2 3 = 0 := by decide
theorem d_e2 : writeE d1 0 sA = 0 := by kernel_rfl
theorem d_e3 : writeE d2 1 sB = 180 := by kernel_rfl
theorem d_down : d3.down = true := by kernel_rfl
theorem d_read : (readR d4 1).2 = 0 := by kernel_rfl
theorem d_read1 : (readR d4 1).1 = mixS sB zeroS 3 := by kernel_rfl
theorem d_bytes : (bytesR d4 127 2).2 = 11 := by kernel_rfl
theorem d_arm0 : armE 0 0 = 2 := by decide
theorem d_armD0 : armD d4 0 0 = d4 := by kernel_rfl
theorem d_n : d4.n = 2 := by kernel_rfl
theorem d_n1 : d1.n < 1000000 := by
  have : d1.n = 0 := by kernel_rfl
  omega
theorem d_n2 : d2.n < 1000000 := by
  have : d2.n = 1 := by kernel_rfl
  omega
theorem d_four : (mixS sB zeroS 3).extract 0 4 = ⟨#[98, 98, 98, 0]⟩ := by kernel_rfl
theorem d_size : (mixS sB zeroS 3).size = 64 := by kernel_rfl
theorem d_m : d4.ss.length = 2 := by kernel_rfl

set_option maxRecDepth 100000 in
set_option maxHeartbeats 2000000 in
theorem shown_any (w : World) (hE : DEnv w) :
    Calls Tryd.prog 9 #[] w fun e w' => e = .returned (.bool true) ∧ Below w.heap.size w w' := by
  go_enter Tryd.func9, Tryd.ntmps9
  go_wp2_with fail
  refine (new_ok 2 w (by omega) (by omega)).mono ?_
  rintro e w1 ⟨a, b, rfl, hD, ha, hb, hb1⟩
  have hl1 := LAt.new (Below.refl _ w) hD ha hb hb1
  clear hD ha hb hb1
  go_wp2_with fail
  refine (larm_any hE a b _ 2 3 _ (by omega) hl1).mono ?_
  rintro e w2 ⟨rfl, hl2', _⟩
  have hl2 : LAt w a b d1 w2 := hl2'
  clear hl1 hl2'
  rw [d_e1]
  go_wp2_with fail
  refine (full_any 97 _).mono ?_
  rintro e w3 ⟨rfl, hb3⟩
  have hl3 := hl2.below hb3
  clear hl2 hb3
  go_wp2_with fail
  refine (lwrite_any hE a b d1 0 sA _ d_n1 hl3).mono ?_
  rintro e w4 ⟨rfl, hl4', _⟩
  have hl4 : LAt w a b d2 w4 := hl4'
  clear hl3 hl4'
  rw [d_e2]
  go_wp2_with fail
  refine (full_any 98 _).mono ?_
  rintro e w5 ⟨rfl, hb5⟩
  have hl5 := hl4.below hb5
  clear hl4 hb5
  go_wp2_with fail
  refine (lwrite_any hE a b d2 1 sB _ d_n2 hl5).mono ?_
  rintro e w6 ⟨rfl, hl6', _⟩
  have hl6 : LAt w a b d3 w6 := hl6'
  clear hl5 hl6'
  rw [d_e3]
  go_wp2_with fail
  refine (isDown_any a d3 _ hl6.d.hd).mono ?_
  rintro e w' ⟨rfl, rfl⟩
  rw [d_down]
  go_wp2_with fail
  refine (lrest_any a b d3 _ hl6).mono ?_
  rintro e w7 ⟨rfl, hl7', _⟩
  have hl7 : LAt w a b d4 w7 := hl7'
  clear hl6 hl7'
  go_wp2_with fail
  refine (lread_any hE a b d4 1 _ hl7).mono ?_
  rintro e w8 ⟨rfl, hl8, _⟩
  clear hl7
  rw [d_read, d_read1]
  go_wp2_with fail
  refine (lbytes_any hE a b d4 127 2 _ (by omega) hl8).mono ?_
  rintro e w9 ⟨rfl, hl9, _⟩
  clear hl8
  rw [d_bytes]
  generalize (bytesR d4 127 2).1 = bb
  go_wp2_with fail
  refine (larm_any hE a b d4 0 0 _ (by omega) hl9).mono ?_
  rintro e w10 ⟨rfl, hl10, _⟩
  clear hl9
  rw [d_armD0] at hl10
  rw [d_arm0]
  have hf := d_four
  have hsz := d_size
  generalize mixS sB zeroS 3 = S at *
  have h4 : 4 ≤ S.size := by omega
  have HSZ := Lib.hid hsz
  clear hsz
  go_wp2_with fail
  refine (writes_any a d4 _ hl10.d.hd).mono ?_
  rintro e w' ⟨rfl, rfl⟩
  rw [d_n]
  go_wp2_with fail
  refine (sectors_any a b d4 _ hl10.d).mono ?_
  rintro e w' ⟨rfl, rfl⟩
  rw [d_m]
  go_wp2
  go_ret
  exact ⟨rfl, hl10.be⟩
end Go.Proofs.YtpafpmefhfmndaaDoor
