/- DiskPlays: what the disk answers, and is after each call, is what the document's disk answers and is. -/
import Derived.Test.YtpafpmefhfmndaaDoorKRun
import Derived.Deep.QuietTactic
set_option linter.unusedVariables false
set_option linter.unusedSimpArgs false
namespace Go.Proofs.YtpafpmefhfmndaaDoor
open Go.RowKit

theorem LAt.other {W w w' : World} {a b a' b' : Nat} {D : Dk} (h : LAt W a b D w) (ho : Only a' b' w w') (g1 : W.heap.size ≤ a') (g2 : W.heap.size ≤ b') (h1 : a ≠ a') (h2 : a ≠ b') (h3 : b ≠ a') (h4 : b ≠ b') : LAt W a b D w' :=
  ⟨ho.toBelow h.be g1 g2 h.be.size, h.d.only ho h1 h2 h3 h4, h.ga, h.gb⟩
theorem pbelN {f : Nat} {w w' : World} (h : Below f w w') (k : Nat) : Below f w (w'.drewN k) := ⟨h.os, h.tape, h.output, h.size, h.block⟩
theorem LAt.drewN {W w : World} {a b : Nat} {D : Dk} (h : LAt W a b D w) (k : Nat) : LAt W a b D (w.drewN k) := ⟨pbelN h.be k, h.d.same rfl rfl, h.ga, h.gb⟩
theorem OpsOwn.drewN {n : Nat} {w : World} {v : Value} {xs : List OpR} (h : OpsOwn n w v xs) (k : Nat) : OpsOwn n (w.drewN k) v xs := h.kept fun p x _ e => e

theorem isDown_q (a : Nat) (D : Dk) (w : World) (n : Nat) (h : HdAt a D w) :
    Calls Tryd.prog 14 #[.pointer (some ⟨a, 0, none⟩)] (w.drewN n) fun e w' => e = .returned (.bool D.down) ∧ w' = w.drewN n :=
  (isDown_any a D (w.drewN n) (h.same rfl)).mono fun e w' ⟨h1, h2⟩ => ⟨h1, h2.symm⟩
theorem writes_q (a : Nat) (D : Dk) (w : World) (n : Nat) (h : HdAt a D w) :
    Calls Tryd.prog 18 #[.pointer (some ⟨a, 0, none⟩)] (w.drewN n) fun e w' => e = .returned (.int .i64 (D.n : Int)) ∧ w' = w.drewN n :=
  (writes_any a D (w.drewN n) (h.same rfl)).mono fun e w' ⟨h1, h2⟩ => ⟨h1, h2.symm⟩
theorem sectors_q (a b m : Nat) (D : Dk) (w : World) (n : Nat) (h : DAt a b D w) (hm : D.ss.length = m) :
    Calls Tryd.prog 15 #[.pointer (some ⟨a, 0, none⟩)] (w.drewN n) fun e w' => e = .returned (.int .i64 (m : Int)) ∧ w' = w.drewN n :=
  (sectors_any a b D (w.drewN n) (h.same rfl rfl)).mono fun e w' ⟨h1, h2⟩ => ⟨by rw [h1, hm], h2.symm⟩

set_option maxRecDepth 100000 in
set_option maxHeartbeats 2000000 in
theorem playsL_of (m : Nat) (xs : List OpR) (A : Option Addr) (c : Nat) (w : World) (hE : DEnv w) (h1 : 1 ≤ m) (h2 : m ≤ 256) (hl : xs.length ≤ maxLen) (hI : OpsIn w A xs) :
    Calls Tryd.prog 3 #[.int .i64 (m : Int), .slice A xs.length c] w fun e w' => e = .returned (.bool true) ∧ Below w.heap.size w w' := by
  have HI := Lib.hid hI
  clear hI
  go_enter Tryd.func3, Tryd.ntmps3
  go_wp2_with fail
  refine (shown_any _ hE).mono ?_
  rintro e w0 ⟨rfl, hb0⟩
  go_wp2_with fail
  refine (lcut_any xs A c _ hl (HI.out.below hb0)).mono ?_
  rintro e w1 ⟨v, rfl, hO, hb1⟩
  have hok := cuts_ok HI.out
  have hyl : ((xs.map cutO).take 40).length ≤ 40 := by rw [List.length_take]; omega
  generalize (xs.map cutO).take 40 = ys at *
  obtain ⟨A1, c1, rfl, hO⟩ := hO
  have hb01 := hb0.trans (hb1.mono hb0.size)
  have HOK := Lib.hid hok
  have HO := Lib.hid (show OpsOwn w1.heap.size w1 (.slice A1 ys.length c1) ys from ⟨A1, c1, rfl, hO⟩)
  clear hb0 hb1 hok hO
  go_wp2_with fail
  refine (new_ok m _ h1 h2).mono ?_
  rintro e w2 ⟨a, b, rfl, hD, ha, hb, hb2⟩
  have HL2 := Lib.hid (LAt.new hb01 hD ha hb hb2)
  have HO2 := Lib.hid (HO.out.below hb2)
  have al := hD.lta
  have bl := hD.lt
  have hs1 := hb01.size
  have hs2 := hb2.size
  clear hb01 hD hb2
  go_wp2_with fail
  refine (rnew_ok m _ h1 h2).mono ?_
  rintro e w3 ⟨a', b', rfl, hR, ha', hb', hb3⟩
  have HL3 := Lib.hid (HL2.out.below hb3)
  have HO3 := Lib.hid (HO2.out.below hb3)
  have HR3 := Lib.hid hR
  have n1 : a ≠ a' := by omega
  have n2 : a ≠ b' := by omega
  have n3 : b ≠ a' := by omega
  have n4 : b ≠ b' := by omega
  have g1 : w.heap.size ≤ a' := by omega
  have g2 : w.heap.size ≤ b' := by omega
  have g3 : w1.heap.size ≤ a' := by omega
  have g4 : w1.heap.size ≤ b' := by omega
  clear hR hb3 HL2 HO2 HO al bl hs1 hs2 ha' hb'
  go_wp2_with fail
  go_loopw [12] (fun i wr => ∃ k : Nat, k ≤ ys.length ∧ i = .int .i64 k ∧ LAt w a b (runD (newD m) (ys.take k)) wr ∧ RAt a' b' (runD (newD m) (ys.take k)) wr ∧ OpsOwn w1.heap.size wr (.slice A1 ys.length c1) ys) (fun i _ => ys.length - (intOf i).toNat)
  case atStart => exact ⟨0, Nat.zero_le _, rfl, HL3.out, HR3.out, HO3.out⟩
  case round =>
    obtain ⟨k, hk, rfl, hL, hR, hOw⟩ := hrel
    have HL := Lib.hid hL
    have HR := Lib.hid hR
    have HOw := Lib.hid hOw
    clear hL hR
    by_cases hlt : k < ys.length
    · obtain ⟨x, hx⟩ : ∃ x, ys[k]? = some x := ⟨_, List.getElem?_eq_getElem hlt⟩
      obtain ⟨A2, c2, hv, hO⟩ := hOw
      obtain ⟨g, hA, hg, q0, q1, q2, q3⟩ := hO k x hx
      have e2 : A2 = A1 := by injection hv with e; exact e.symm
      subst e2
      subst hA
      have hxo := HOK.out x (List.mem_of_getElem? hx)
      have hsn := runD_small m ys hyl k
      have hme : (opD (runD (newD m) (ys.take k)) x).ss.length = m := by rw [opD_m]; exact runD_len m _
      have HM := Lib.hid hme
      have HX := Lib.hid (runD_succ (D := newD m) hx)
      clear hO hv hme
      go_wp2_with fail
      refine (do_any hE a b _ x _ hxo hsn HL.out).mono ?_
      rintro e w4 ⟨rfl, hl4, ho4⟩
      have HO4 := Lib.hid (HOw.out.only ho4 ha hb)
      have HR4 := Lib.hid (HR.out.only ho4 (Ne.symm n1) (Ne.symm n3) (Ne.symm n2) (Ne.symm n4))
      have HL4 := Lib.hid hl4
      clear q0 q1 q2 q3 hl4 ho4 HOw HR HL
      obtain ⟨A2', c2', hv, hO⟩ := HO4.out
      obtain ⟨g', hA, hg', q0, q1, q2, q3⟩ := hO k x hx
      have e2 : g' = g := by injection hv with e; rw [hA] at e; injection e with e; exact congrArg Addr.block e.symm
      subst e2
      clear hO hv hA hx hg'
      go_wp2_with fail
      refine (want_any a' b' _ x _ hxo hsn HR4.out).mono ?_
      rintro e w5 ⟨rfl, hr5, ho5⟩
      have HO5 := Lib.hid (HO4.out.only ho5 g3 g4)
      have hl5 := HL4.out.other ho5 g1 g2 n1 n2 n3 n4
      have hm5 := HM.out
      clear q0 q1 q2 q3 ho5 HO4 HR4 HL4 HM hsn hxo
      generalize (opR (runD (newD m) (ys.take k)) x).1 = tx at *
      generalize (opR (runD (newD m) (ys.take k)) x).2 = ex at *
      generalize hDD : opD (runD (newD m) (ys.take k)) x = D at *
      have HDD := Lib.hid hDD
      have r3 := hr5.hd.c3
      have r4 := hr5.hd.c4
      have HD5 := Lib.hid hl5.d
      have HL5 := Lib.hid hl5
      have HR5 := Lib.hid hr5
      have HM5 := Lib.hid hm5
      clear hl5 hr5 hm5 hDD
      go_wp2_with fail
      go_quiet (first
        | (go_at_call 14; exact Calls.quiet_of_same (isDown_q a D _ _ HD5.out.hd))
        | (go_at_call 18; exact Calls.quiet_of_same (writes_q a D _ _ HD5.out.hd))
        | (go_at_call 15; exact Calls.quiet_of_same (sectors_q a b m D _ _ HD5.out HM5.out)))
      go_wp2
      go_roundw
      case rel => exact ⟨k + 1, by omega, by go_num, by rw [HX.out]; exact HL5.out.drewN _, by rw [HX.out]; exact HR5.out.same rfl rfl, HO5.out.drewN _⟩
      case measure => simp [intOf]; omega
    · obtain rfl : k = ys.length := by omega
      go_wp2
      go_ret
      exact ⟨rfl, HL.out.be⟩

set_option maxRecDepth 100000 in
theorem playsL_bad (m : Int) (xs : List OpR) (A : Option Addr) (c : Nat) (w : World) (hE : DEnv w) (h : m < 1 ∨ 256 < m) (hl : xs.length ≤ maxLen) (hI : OpsIn w A xs) :
    Calls Tryd.prog 3 #[.int .i64 m, .slice A xs.length c] w fun e w' => e = .returned (.bool true) ∧ Below w.heap.size w w' := by
  have HI := Lib.hid hI
  have H := Lib.hid h
  clear hI h
  go_enter Tryd.func3, Tryd.ntmps3
  go_wp2_with fail
  refine (shown_any _ hE).mono ?_
  rintro e w0 ⟨rfl, hb0⟩
  go_wp2_with fail
  refine (lcut_any xs A c _ hl (HI.out.below hb0)).mono ?_
  rintro e w1 ⟨v, rfl, ⟨A1, c1, rfl, hO⟩, hb1⟩
  have hb01 := hb0.trans (hb1.mono hb0.size)
  go_wp2_with fail
  refine (new_bad m _ (hE.below hb01).e H.out).mono ?_
  rintro e w2 ⟨rfl, hb2⟩
  have hb02 := hb01.trans (hb2.mono hb01.size)
  clear hO hb0 hb1 hb2 hb01
  go_wp2_with fail
  refine (rnew_bad m _ H.out).mono ?_
  rintro e w' ⟨rfl, rfl⟩
  go_wp2_with fail
  refine (readNil_any 0 _ (hE.below hb02).e).mono ?_
  rintro e w3 ⟨rfl, hb3⟩
  have hb03 := hb02.trans (hb3.mono hb02.size)
  clear hb02 hb3
  go_wp2_with fail
  refine (isDown_nil _).mono ?_
  rintro e w' ⟨rfl, rfl⟩
  go_wp2_with fail
  refine (sectors_nil _).mono ?_
  rintro e w' ⟨rfl, rfl⟩
  go_wp2
  go_ret
  exact ⟨rfl, hb03⟩

set_option maxRecDepth 100000 in
theorem playsL_walk (m : Int) (xs : List OpR) (A : Option Addr) (c : Nat) (w : World) (hE : DEnv w) (_ : (Lit.int .i64 m).wf = true) (hI : OpsIn w A xs) (hl : xs.length ≤ maxLen) :
    Calls Tryd.prog 3 #[.int .i64 m, .slice A xs.length c] w fun e w' => e = .returned (.bool true) ∧ Below w.heap.size w w' := by
  by_cases h : 1 ≤ m ∧ m ≤ 256
  · obtain ⟨k, rfl⟩ := Int.eq_ofNat_of_zero_le (show 0 ≤ m by omega)
    exact playsL_of k xs A c w hE (by omega) (by omega) hl hI
  · exact playsL_bad m xs A c w hE (by omega) hl hI
end Go.Proofs.YtpafpmefhfmndaaDoor
