/- DiskBytes: bytes are those of the sectors in which they lie. -/
import Derived.Test.YtpafpmefhfmndaaDoorKRun
set_option linter.unusedVariables false
set_option linter.unusedSimpArgs false
namespace Go.Proofs.YtpafpmefhfmndaaDoor
open Go.RowKit

set_option maxRecDepth 100000 in
set_option maxHeartbeats 4000000 in
theorem bytesL_of (m p : Nat) (xs : List OpR) (A : Option Addr) (c : Nat) (w : World) (hE : DEnv w) (h1 : 1 ≤ m) (h2 : m ≤ 256) (hp : p < 64 * m) (hl : xs.length ≤ maxLen) (hI : OpsIn w A xs) :
    Calls Tryd.prog 5 #[.int .i64 (m : Int), .slice A xs.length c, .int .i64 (p : Int)] w fun e w' => e = .returned (.bool true) ∧ Below w.heap.size w w' := by
  have HI := Lib.hid hI
  clear hI
  go_enter Tryd.func5, Tryd.ntmps5
  go_wp2_with fail
  refine (shown_any _ hE).mono ?_
  rintro e w0 ⟨rfl, hb0⟩
  go_wp2_with fail
  refine (lcut_any xs A c _ hl (HI.out.below hb0)).mono ?_
  rintro e w1 ⟨v, rfl, hO, hb1⟩
  have hok := cuts_ok HI.out
  have hyl : ((xs.map cutO).take 40).length ≤ 40 := by rw [List.length_take]; omega
  generalize (xs.map cutO).take 40 = ys at *
  obtain ⟨A1, c1, rfl, hO⟩ := hO
  have hb01 := hb0.trans (hb1.mono hb0.size)
  have HOK := Lib.hid hok
  have HO := Lib.hid (show OpsOwn w1.heap.size w1 (.slice A1 ys.length c1) ys from ⟨A1, c1, rfl, hO⟩)
  clear hb0 hb1 hok hO
  go_wp2_with fail
  refine (new_ok m _ h1 h2).mono ?_
  rintro e w2 ⟨a, b, rfl, hD, ha, hb, hb2⟩
  have HL2 := Lib.hid (LAt.new hb01 hD ha hb hb2)
  have HO2 := Lib.hid (HO.out.below hb2)
  clear hb01 hD hb2
  have g1 : decide ((p : Int) < 0) = false := by simp
  have g2 : decide ((p : Int) ≥ 64 * (m : Int)) = false := by simp; omega
  have g3 : decide (64 * (m : Int) ≤ (p : Int)) = false := by simp; omega
  go_wp2_with fail
  go_loopw [10] (fun i wr => ∃ k : Nat, k ≤ ys.length ∧ i = .int .i64 k ∧ LAt w a b (runD (newD m) (ys.take k)) wr ∧ OpsOwn w1.heap.size wr (.slice A1 ys.length c1) ys) (fun i _ => ys.length - (intOf i).toNat)
  case atStart => exact ⟨0, Nat.zero_le _, rfl, HL2.out, HO2.out⟩
  case round =>
    obtain ⟨k, hk, rfl, hL, hOw⟩ := hrel
    have HL := Lib.hid hL
    have HOw := Lib.hid hOw
    clear hL
    by_cases hlt : k < ys.length
    · obtain ⟨x, hx⟩ : ∃ x, ys[k]? = some x := ⟨_, List.getElem?_eq_getElem hlt⟩
      obtain ⟨A2, c2, hv, hO⟩ := hOw
      obtain ⟨g, hA, hg, q0, q1, q2, q3⟩ := hO k x hx
      have e2 : A2 = A1 := by injection hv with e; exact e.symm
      subst e2
      subst hA
      have hxo := HOK.out x (List.mem_of_getElem? hx)
      have hsn := runD_small m ys hyl k
      have HX := Lib.hid (runD_succ (D := newD m) hx)
      clear hO hv hx
      go_wp2_with fail
      refine (do_any hE a b _ x _ hxo hsn HL.out).mono ?_
      rintro e w3 ⟨rfl, hl3, ho3⟩
      have hO3 := HOw.out.only ho3 ha hb
      clear q0 q1 q2 q3
      go_wp2
      go_roundw
      case rel => exact ⟨k + 1, by omega, by go_num, by rw [HX.out]; exact hl3, hO3⟩
      case measure => simp [intOf]; omega
    · obtain rfl : k = ys.length := by omega
      have hl4 := HL.out
      rw [List.take_length] at hl4
      have HL4 := Lib.hid hl4
      have hm4 := runD_len m ys
      have hn4 := runD_small' m ys hyl
      clear hl4 hOw
      generalize runD (newD m) ys = D at *
      have hok4 := restD_ok HL4.out.d.ok
      have hm5 : (restD D).ss.length = m := hm4
      have e1 := bytes_one hok4 rfl p (by rw [hm5]; exact hp)
      obtain ⟨t, ht, ht64, hte, hts⟩ := all_extract hok4 p (by rw [hm5]; exact hp)
      have e2 : readR (restD D) ((p : Int) / 64) = (t, 0) := by
        rw [show ((p : Int) / 64) = ((p / 64 : Nat) : Int) by omega]
        exact read_at (D := restD D) rfl ht
      have e3 := bytes_all hok4 rfl m hm5
      have hall := hok4.all_size
      rw [hm5] at hall
      have E1 := Lib.hid e1
      have E2 := Lib.hid e2
      have E3 := Lib.hid e3
      have hte' := hte
      clear hm4 hm5 e1 e2 e3 hte ht hok4
      go_wp2_with fail
      refine (lrest_any a b D _ HL4.out).mono ?_
      rintro e w5 ⟨rfl, hl5, _⟩
      go_wp2_with fail
      refine (lbytes_any hE a b (restD D) (p : Int) 1 _ (by omega) hl5).mono ?_
      rintro e w6 ⟨rfl, hl6, _⟩
      rw [E1.out]
      go_wp2_with fail
      refine (lread_any hE a b (restD D) ((p : Int) / 64) _ hl6).mono ?_
      rintro e w7 ⟨rfl, hl7, _⟩
      rw [E2.out]
      go_wp2_with fail
      refine (lbytes_any hE a b (restD D) 0 (64 * (m : Int)) _ (by omega) hl7).mono ?_
      rintro e w8 ⟨rfl, hl8, _⟩
      rw [E3.out]
      clear E1 E2 E3
      have HTE := Lib.hid hte'
      have b0 : (0 : Int) ≤ (p : Int) % 64 := by omega
      have b1 : (p : Int) % 64 + 1 ≤ 64 := by omega
      have b2 : (p : Int) + 1 ≤ 64 * (m : Int) := by omega
      have b3 : min (p % 64 + 1) 64 - p % 64 = 1 := by omega
      go_wp2
      go_ret
      exact ⟨rfl, hl8.be⟩

set_option maxRecDepth 100000 in
set_option maxHeartbeats 2000000 in
theorem bytesL_bad (m : Int) (p : Int) (xs : List OpR) (A : Option Addr) (c : Nat) (w : World) (hE : DEnv w) (h : m < 1 ∨ 256 < m) (hl : xs.length ≤ maxLen) (hI : OpsIn w A xs) :
    Calls Tryd.prog 5 #[.int .i64 m, .slice A xs.length c, .int .i64 p] w fun e w' => e = .returned (.bool true) ∧ Below w.heap.size w w' := by
  have HI := Lib.hid hI
  have H := Lib.hid h
  clear hI h
  go_enter Tryd.func5, Tryd.ntmps5
  go_wp2_with fail
  refine (shown_any _ hE).mono ?_
  rintro e w0 ⟨rfl, hb0⟩
  go_wp2_with fail
  refine (lcut_any xs A c _ hl (HI.out.below hb0)).mono ?_
  rintro e w1 ⟨v, rfl, ⟨A1, c1, rfl, hO⟩, hb1⟩
  have hb01 := hb0.trans (hb1.mono hb0.size)
  go_wp2_with fail
  refine (new_bad m _ (hE.below hb01).e H.out).mono ?_
  rintro e w2 ⟨rfl, hb2⟩
  clear hO
  go_wp2
  go_ret
  exact ⟨rfl, hb01.trans (hb2.mono hb01.size)⟩

set_option maxRecDepth 100000 in
set_option maxHeartbeats 2000000 in
theorem bytesL_no (m : Nat) (p : Int) (xs : List OpR) (A : Option Addr) (c : Nat) (w : World) (hE : DEnv w) (h1 : 1 ≤ m) (h2 : m ≤ 256) (hp : p < 0 ∨ 64 * (m : Int) ≤ p) (hl : xs.length ≤ maxLen) (hI : OpsIn w A xs) :
    Calls Tryd.prog 5 #[.int .i64 (m : Int), .slice A xs.length c, .int .i64 p] w fun e w' => e = .returned (.bool true) ∧ Below w.heap.size w w' := by
  have HI := Lib.hid hI
  clear hI
  have hc : p < 0 ∨ (¬ p < 0 ∧ 64 * (m : Int) ≤ p) := by omega
  clear hp
  rcases hc with hc | ⟨hc, hd⟩
  · have g1 : decide (p < 0) = true := by simpa using hc
    go_enter Tryd.func5, Tryd.ntmps5
    go_wp2_with fail
    refine (shown_any _ hE).mono ?_
    rintro e w0 ⟨rfl, hb0⟩
    go_wp2_with fail
    refine (lcut_any xs A c _ hl (HI.out.below hb0)).mono ?_
    rintro e w1 ⟨v, rfl, ⟨A1, c1, rfl, hO⟩, hb1⟩
    have hb01 := hb0.trans (hb1.mono hb0.size)
    clear hO
    go_wp2_with fail
    refine (new_ok m _ h1 h2).mono ?_
    rintro e w2 ⟨a, b, rfl, hD, ha, hb, hb2⟩
    clear hD
    go_wp2
    go_ret
    exact ⟨rfl, hb01.trans (hb2.mono hb01.size)⟩
  · have g1 : decide (p < 0) = false := by simpa using hc
    have g2 : decide (p ≥ 64 * (m : Int)) = true := by simpa using hd
    go_enter Tryd.func5, Tryd.ntmps5
    go_wp2_with fail
    refine (shown_any _ hE).mono ?_
    rintro e w0 ⟨rfl, hb0⟩
    go_wp2_with fail
    refine (lcut_any xs A c _ hl (HI.out.below hb0)).mono ?_
    rintro e w1 ⟨v, rfl, ⟨A1, c1, rfl, hO⟩, hb1⟩
    have hb01 := hb0.trans (hb1.mono hb0.size)
    clear hO
    go_wp2_with fail
    refine (new_ok m _ h1 h2).mono ?_
    rintro e w2 ⟨a, b, rfl, hD, ha, hb, hb2⟩
    clear hD
    go_wp2
    go_ret
    exact ⟨rfl, hb01.trans (hb2.mono hb01.size)⟩

theorem bytesL_walk (m : Int) (xs : List OpR) (A : Option Addr) (c : Nat) (p : Int) (w : World) (hE : DEnv w) (_ : (Lit.int .i64 m).wf = true) (hI : OpsIn w A xs) (hl : xs.length ≤ maxLen) (_ : (Lit.int .i64 p).wf = true) :
    Calls Tryd.prog 5 #[.int .i64 m, .slice A xs.length c, .int .i64 p] w fun e w' => e = .returned (.bool true) ∧ Below w.heap.size w w' := by
  by_cases h : 1 ≤ m ∧ m ≤ 256
  · obtain ⟨k, rfl⟩ := Int.eq_ofNat_of_zero_le (show 0 ≤ m by omega)
    by_cases hp : 0 ≤ p ∧ p < 64 * (k : Int)
    · obtain ⟨p, rfl⟩ := Int.eq_ofNat_of_zero_le hp.1
      exact bytesL_of k p xs A c w hE (by omega) (by omega) (by omega) hl hI
    · exact bytesL_no k p xs A c w hE (by omega) (by omega) (by omega) hl hI
  · exact bytesL_bad m p xs A c w hE (by omega) hl hI
end Go.Proofs.YtpafpmefhfmndaaDoor
