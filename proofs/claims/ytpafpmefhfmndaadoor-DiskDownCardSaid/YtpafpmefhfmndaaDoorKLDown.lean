/- DiskDown: what is down answers nothing, and writes nothing, till it is restarted. -/
import Derived.Test.YtpafpmefhfmndaaDoorKRun
set_option linter.unusedVariables false
set_option linter.unusedSimpArgs false
namespace Go.Proofs.YtpafpmefhfmndaaDoor
open Go.RowKit

def sQ (x : UInt8) : ByteArray := ⟨Array.replicate 64 x⟩
theorem sQ_size (x : UInt8) : (sQ x).size = 64 := by show (Array.replicate 64 x).size = 64; simp
theorem fullQ_any (x : UInt8) (w : World) :
    Calls Tryd.prog 23 #[.int .u8 (x.toNat : Int)] w fun e w' => e = .returned (.string (sQ x)) ∧ Below w.heap.size w w' := full_any x w

set_option maxRecDepth 100000 in
set_option maxHeartbeats 8000000 in
theorem downL_of (m : Nat) (i cc : Int) (xs : List OpR) (A : Option Addr) (c : Nat) (w : World) (hE : DEnv w) (h1 : 1 ≤ m) (h2 : m ≤ 256) (hl : xs.length ≤ maxLen) (hI : OpsIn w A xs) :
    Calls Tryd.prog 6 #[.int .i64 (m : Int), .slice A xs.length c, .int .i64 i, .int .i64 cc] w fun e w' => e = .returned (.bool true) ∧ Below w.heap.size w w' := by
  have HI := Lib.hid hI
  clear hI
  go_enter Tryd.func6, Tryd.ntmps6
  go_wp2_with fail
  refine (shown_any _ hE).mono ?_
  rintro e w0 ⟨rfl, hb0⟩
  go_wp2_with fail
  refine (lcut_any xs A c _ hl (HI.out.below hb0)).mono ?_
  rintro e w1 ⟨v, rfl, hO, hb1⟩
  have hok := cuts_ok HI.out
  have hyl : ((xs.map cutO).take 40).length ≤ 40 := by rw [List.length_take]; omega
  generalize (xs.map cutO).take 40 = ys at *
  obtain ⟨A1, c1, rfl, hO⟩ := hO
  have hb01 := hb0.trans (hb1.mono hb0.size)
  have HOK := Lib.hid hok
  have HO := Lib.hid (show OpsOwn w1.heap.size w1 (.slice A1 ys.length c1) ys from ⟨A1, c1, rfl, hO⟩)
  clear hb0 hb1 hok hO
  go_wp2_with fail
  refine (new_ok m _ h1 h2).mono ?_
  rintro e w2 ⟨a, b, rfl, hD, ha, hb, hb2⟩
  have HL2 := Lib.hid (LAt.new hb01 hD ha hb hb2)
  have HO2 := Lib.hid (HO.out.below hb2)
  clear hb01 hD hb2
  go_wp2_with fail
  go_loopw [12] (fun i wr => ∃ k : Nat, k ≤ ys.length ∧ i = .int .i64 k ∧ LAt w a b (runD (newD m) (ys.take k)) wr ∧ OpsOwn w1.heap.size wr (.slice A1 ys.length c1) ys) (fun i _ => ys.length - (intOf i).toNat)
  case atStart => exact ⟨0, Nat.zero_le _, rfl, HL2.out, HO2.out⟩
  case round =>
    obtain ⟨k, hk, rfl, hL, hOw⟩ := hrel
    have HL := Lib.hid hL
    have HOw := Lib.hid hOw
    clear hL
    by_cases hlt : k < ys.length
    · obtain ⟨x, hx⟩ : ∃ x, ys[k]? = some x := ⟨_, List.getElem?_eq_getElem hlt⟩
      obtain ⟨A2, c2, hv, hO⟩ := hOw
      obtain ⟨g, hA, hg, q0, q1, q2, q3⟩ := hO k x hx
      have e2 : A2 = A1 := by injection hv with e; exact e.symm
      subst e2
      subst hA
      have hxo := HOK.out x (List.mem_of_getElem? hx)
      have hsn := runD_small m ys hyl k
      have HX := Lib.hid (runD_succ (D := newD m) hx)
      clear hO hv hx
      go_wp2_with fail
      refine (do_any hE a b _ x _ hxo hsn HL.out).mono ?_
      rintro e w3 ⟨rfl, hl3, ho3⟩
      have hO3 := HOw.out.only ho3 ha hb
      clear q0 q1 q2 q3
      go_wp2
      go_roundw
      case rel => exact ⟨k + 1, by omega, by go_num, by rw [HX.out]; exact hl3, hO3⟩
      case measure => simp [intOf]; omega
    · obtain rfl : k = ys.length := by omega
      have hl4 := HL.out
      rw [List.take_length] at hl4
      have HL4 := Lib.hid hl4
      have hm4 := runD_len m ys
      have hn4 := runD_small' m ys hyl
      clear hl4 hOw
      generalize runD (newD m) ys = D at *
      have hok4 := HL4.out.d.ok
      by_cases hcc : 0 ≤ cc ∧ cc ≤ 64
      · by_cases hi : inD D i
        · obtain ⟨e1, e2, e3, e4, e5, e6, e7, e8, e9, e10, e11, e12, e13⟩ := down_seq hok4 hn4 hi cc hcc.1 hcc.2 (sQ 120) (sQ 121) (sQ 122) (sQ_size _) (sQ_size _) (sQ_size _)
          have HE1 := Lib.hid e1
          have HE2 := Lib.hid e2
          have HE3 := Lib.hid e3
          have HE4 := Lib.hid e4
          have HE5 := Lib.hid e5
          have HE6 := Lib.hid e6
          have HE7 := Lib.hid e7
          have HE8 := Lib.hid e8
          have HE9 := Lib.hid e9
          have HE10 := Lib.hid e10
          have HE11 := Lib.hid e11
          have hB13 : (restD (writeD (armD (restD D) 1 cc) i (sQ 120))).n < 1000000 := e13
          have h0n : (restD D).n = D.n := rfl
          clear e1 e2 e3 e4 e5 e6 e7 e8 e9 e10 e11 hm4 hcc hi
          go_wp2_with fail
          refine (lrest_any a b D _ HL4.out).mono ?_
          rintro e w5 ⟨rfl, hl5, _⟩
          go_wp2_with fail
          refine (writes_any a _ _ hl5.d.hd).mono ?_
          rintro e w' ⟨rfl, rfl⟩
          rw [h0n]
          go_wp2_with fail
          refine (larm_any hE a b _ 1 cc _ (by omega) hl5).mono ?_
          rintro e w6 ⟨rfl, hl6, _⟩
          rw [HE1.out]
          go_wp2_with fail
          refine (fullQ_any 120 _).mono ?_
          rintro e w7 ⟨rfl, hb7⟩
          have hl7 := hl6.below hb7
          go_wp2_with fail
          refine (lwrite_any hE a b _ i (sQ 120) _ e12 hl7).mono ?_
          rintro e w8 ⟨rfl, hl8, _⟩
          rw [HE2.out]
          clear hl5 hl6 hb7 hl7
          go_wp2_with fail
          refine (isDown_any a _ _ hl8.d.hd).mono ?_
          rintro e w' ⟨rfl, rfl⟩
          rw [HE3.out]
          go_wp2_with fail
          refine (fullQ_any 121 _).mono ?_
          rintro e w9 ⟨rfl, hb9⟩
          have hl9 := hl8.below hb9
          go_wp2_with fail
          refine (lwrite_any hE a b _ i (sQ 121) _ e13 hl9).mono ?_
          rintro e w10 ⟨rfl, hl10', _⟩
          rw [HE4.out]
          rw [HE5.out] at hl10'
          clear hl8 hb9 hl9
          go_wp2_with fail
          refine (lread_any hE a b _ i _ hl10').mono ?_
          rintro e w11 ⟨rfl, hl11, _⟩
          rw [HE6.out]
          generalize (readR (writeD (armD (restD D) 1 cc) i (sQ 120)) i).1 = r1
          go_wp2_with fail
          refine (lbytes_any hE a b _ 0 1 _ (by omega) hl11).mono ?_
          rintro e w12 ⟨rfl, hl12, _⟩
          rw [HE7.out]
          generalize (bytesR (writeD (armD (restD D) 1 cc) i (sQ 120)) 0 1).1 = r2
          clear hl10' hl11
          go_wp2_with fail
          refine (lrest_any a b _ _ hl12).mono ?_
          rintro e w13 ⟨rfl, hl13, _⟩
          go_wp2_with fail
          refine (fullQ_any 122 _).mono ?_
          rintro e w14 ⟨rfl, hb14⟩
          have hl14 := hl13.below hb14
          go_wp2_with fail
          refine (lwrite_any hE a b _ i (sQ 122) _ hB13 hl14).mono ?_
          rintro e w15 ⟨rfl, hl15, _⟩
          rw [HE8.out]
          clear hl12 hl13 hb14 hl14
          go_wp2_with fail
          refine (lread_any hE a b _ i _ hl15).mono ?_
          rintro e w16 ⟨rfl, hl16, _⟩
          rw [HE9.out]
          go_wp2_with fail
          refine (fullQ_any 122 _).mono ?_
          rintro e w17 ⟨rfl, hb17⟩
          have hl17 := hl16.below hb17
          clear hl15 hl16 hb17
          go_wp2_with fail
          refine (writes_any a _ _ hl17.d.hd).mono ?_
          rintro e w' ⟨rfl, rfl⟩
          rw [HE11.out]
          have hn2 : ((((D.n + 2 : Nat) : Int)) == (D.n : Int) + 2) = true := by simp
          go_wp2_with fail
          refine (isDown_any a _ _ hl17.d.hd).mono ?_
          rintro e w' ⟨rfl, rfl⟩
          rw [HE10.out]
          go_wp2
          go_ret
          exact ⟨rfl, hl17.be⟩
        · have e1 : armE 1 cc = 0 := if_pos ⟨by omega, hcc.1, hcc.2⟩
          have hiA : ¬ inD (armD (restD D) 1 cc) i := fun e => hi ⟨e.1, by have := e.2; rw [armD_m] at this; exact this⟩
          have hdA : (armD (restD D) 1 cc).down = false := by unfold armD; split <;> rfl
          have e2 : writeE (armD (restD D) 1 cc) i (sQ 120) = 181 := by
            unfold writeE
            rw [hdA, if_neg (by simp), if_neg (fun e => hiA e.1)]
          have e3 : (armD (restD D) 1 cc).n < 1000000 := by rw [armD_n]; show D.n < 1000000; omega
          have HE1 := Lib.hid e1
          have HE2 := Lib.hid e2
          clear e1 e2 hiA hdA hm4 hcc hi
          go_wp2_with fail
          refine (lrest_any a b D _ HL4.out).mono ?_
          rintro e w5 ⟨rfl, hl5, _⟩
          go_wp2_with fail
          refine (writes_any a _ _ hl5.d.hd).mono ?_
          rintro e w' ⟨rfl, rfl⟩
          go_wp2_with fail
          refine (larm_any hE a b _ 1 cc _ (by omega) hl5).mono ?_
          rintro e w6 ⟨rfl, hl6, _⟩
          rw [HE1.out]
          go_wp2_with fail
          refine (fullQ_any 120 _).mono ?_
          rintro e w7 ⟨rfl, hb7⟩
          have hl7 := hl6.below hb7
          go_wp2_with fail
          refine (lwrite_any hE a b _ i (sQ 120) _ e3 hl7).mono ?_
          rintro e w8 ⟨rfl, hl8, _⟩
          rw [HE2.out]
          clear hl5 hl6 hb7 hl7
          go_wp2
          go_ret
          exact ⟨rfl, hl8.be⟩
      · have e1 : armE 1 cc = 2 := if_neg (fun e => hcc e.2)
        have e3 : (armD (restD D) 1 cc).n < 1000000 := by rw [armD_n]; show D.n < 1000000; omega
        have HE1 := Lib.hid e1
        clear e1 hm4 hcc
        go_wp2_with fail
        refine (lrest_any a b D _ HL4.out).mono ?_
        rintro e w5 ⟨rfl, hl5, _⟩
        go_wp2_with fail
        refine (writes_any a _ _ hl5.d.hd).mono ?_
        rintro e w' ⟨rfl, rfl⟩
        go_wp2_with fail
        refine (larm_any hE a b _ 1 cc _ (by omega) hl5).mono ?_
        rintro e w6 ⟨rfl, hl6, _⟩
        rw [HE1.out]
        go_wp2_with fail
        refine (fullQ_any 120 _).mono ?_
        rintro e w7 ⟨rfl, hb7⟩
        have hl7 := hl6.below hb7
        go_wp2_with fail
        refine (lwrite_any hE a b _ i (sQ 120) _ e3 hl7).mono ?_
        rintro e w8 ⟨rfl, hl8, _⟩
        generalize writeE (armD (restD D) 1 cc) i (sQ 120) = gg
        clear hl5 hl6 hb7 hl7
        go_wp2
        go_ret
        exact ⟨rfl, hl8.be⟩

set_option maxRecDepth 100000 in
set_option maxHeartbeats 2000000 in
theorem downL_bad (m : Int) (i cc : Int) (xs : List OpR) (A : Option Addr) (c : Nat) (w : World) (hE : DEnv w) (h : m < 1 ∨ 256 < m) (hl : xs.length ≤ maxLen) (hI : OpsIn w A xs) :
    Calls Tryd.prog 6 #[.int .i64 m, .slice A xs.length c, .int .i64 i, .int .i64 cc] w fun e w' => e = .returned (.bool true) ∧ Below w.heap.size w w' := by
  have HI := Lib.hid hI
  have H := Lib.hid h
  clear hI h
  go_enter Tryd.func6, Tryd.ntmps6
  go_wp2_with fail
  refine (shown_any _ hE).mono ?_
  rintro e w0 ⟨rfl, hb0⟩
  go_wp2_with fail
  refine (lcut_any xs A c _ hl (HI.out.below hb0)).mono ?_
  rintro e w1 ⟨v, rfl, ⟨A1, c1, rfl, hO⟩, hb1⟩
  have hb01 := hb0.trans (hb1.mono hb0.size)
  go_wp2_with fail
  refine (new_bad m _ (hE.below hb01).e H.out).mono ?_
  rintro e w2 ⟨rfl, hb2⟩
  clear hO
  go_wp2
  go_ret
  exact ⟨rfl, hb01.trans (hb2.mono hb01.size)⟩

theorem downL_walk (m : Int) (xs : List OpR) (A : Option Addr) (c : Nat) (i cc : Int) (w : World) (hE : DEnv w) (_ : (Lit.int .i64 m).wf = true) (hI : OpsIn w A xs) (hl : xs.length ≤ maxLen) (_ : (Lit.int .i64 i).wf = true) (_ : (Lit.int .i64 cc).wf = true) :
    Calls Tryd.prog 6 #[.int .i64 m, .slice A xs.length c, .int .i64 i, .int .i64 cc] w fun e w' => e = .returned (.bool true) ∧ Below w.heap.size w w' := by
  by_cases h : 1 ≤ m ∧ m ≤ 256
  · obtain ⟨k, rfl⟩ := Int.eq_ofNat_of_zero_le (show 0 ≤ m by omega)
    exact downL_of k i cc xs A c w hE (by omega) (by omega) hl hI
  · exact downL_bad m i cc xs A c w hE (by omega) hl hI
end Go.Proofs.YtpafpmefhfmndaaDoor
