/- The walk of FrameCuts. -/
import Derived.Test.YtdlkmdjhjdpmeaaGreatDoorL1
import Derived.LoopTactic
set_option linter.unusedVariables false
set_option linter.unusedSimpArgs false
namespace Go.Proofs.YtdlkmdjhjdpmeaaGreatDoor
open Go.RowKit

theorem sl_recs (A : Option Addr) (k n c : Nat) (hk : k ≤ c) (w : World) : (Instr.slice 25 (.slice A n c) none (some (.int .i64 (k : Int))) none).run Tryz.prog w = .ok (.slice A k c) w := by
  go_simp
theorem RcsOwn.take {n : Nat} {w : World} {A : Option Addr} {c k m : Nat} {l : List Rc} (h : RcsOwn n w (.slice A m c) l) (hk : k ≤ l.length) : RcsOwn n w (.slice A k c) (l.take k) := by
  obtain ⟨A', c', e, hc, hr⟩ := h
  injection e with e1 e2 e3
  subst e1
  subst e3
  have hl : (l.take k).length = k := by rw [List.length_take]; omega
  refine ⟨A, c, by rw [hl], by omega, fun j r hj => hr j r ?_⟩
  have hjk : j < k := by
    have := (List.getElem?_eq_some_iff.1 hj).1
    omega
  rw [← hj, List.getElem?_take, if_pos hjk]
theorem layL_take {l : List Rc} {k : Nat} {x : Rc} (h : l[k]? = some x) : (layL (l.take (k + 1))).length = (layL (l.take k)).length + 14 + x.data.size := by
  rw [List.take_add_one, h]
  show (layL (l.take k ++ [x])).length = _
  rw [layL_snoc, List.length_append, frL_length]
  omega

set_option maxRecDepth 100000 in
set_option maxHeartbeats 4000000 in
theorem frameCuts_walk (l : List Rc) (A : Option Addr) (c : Nat) (at_ : Int) (w : World) (hE : FrOK w) (hl : RcsIn w A l) (hll : l.length ≤ maxLen) (hat : (Lit.int .i64 at_).wf = true) :
    Calls Tryz.prog 6 #[.slice A l.length c, .int .i64 at_] w fun e w' => e = .returned (.bool true) ∧ Below w.heap.size w w' := by
  have HL := Lib.hid hl
  clear hl
  go_enter Tryz.func6, Tryz.ntmps6
  go_wp2_with fail
  refine (fshown_any _ hE).mono ?_
  rintro e w0 ⟨rfl, hb0⟩
  go_wp2_with fail
  refine (flcuts_any l A c _ hll (HL.out.below hb0)).mono ?_
  rintro e w1 ⟨v, rfl, hv, hb1⟩
  have HF := Lib.hid (cutsC_fit l)
  have hle : (cutsC l).length ≤ 10 := cutsC_len l
  have hle2 : (cutsC l).length ≤ 1000000 := by omega
  have hb1' := hb0.trans (hb1.mono hb0.size)
  have hE1 := hE.below hb1'
  generalize cutsC l = q at *
  have HV := Lib.hid hv
  clear hb0 hb1 hv HL
  go_wp2_with fail
  refine (flays_any _ v q _ hE1 HV.out (Nat.le_refl _) HF.out hle2).mono ?_
  rintro e w2 ⟨rfl, hb2⟩
  have hb2' := hb1'.trans (hb2.mono hb1'.size)
  have hE2 := hE1.below hb2
  have HV2 := Lib.hid (HV.out.below hb2)
  clear hb1' hb2 hE1 HV
  rcases layRv_ways q with ⟨hq, e⟩ | ⟨hq, e⟩
  · have hsz : (layL q).length ≤ 2014 * q.length := layL_le q hq
    rw [e]
    obtain ⟨P, hP⟩ : ∃ P : ByteArray, P = ⟨(layL q).toArray⟩ := ⟨_, rfl⟩
    have hPs : P.size = (layL q).length := by rw [hP]; exact lay_size q
    rw [← hP]
    have hPl : P.data.toList = layL q := by rw [hP]
    have HPl := Lib.hid hPl
    clear hP hPl e
    by_cases hbad : at_ < 0 ∨ (P.size : Int) < at_
    · by_cases h0 : at_ < 0
      · have g1 : decide (at_ < 0) = true := decide_eq_true h0
        go_wp2_with fail
        go_ret
        exact ⟨rfl, hb2'⟩
      · have g1 : decide (at_ < 0) = false := decide_eq_false h0
        have g2 : decide ((P.size : Int) < at_) = true := decide_eq_true (by omega)
        have g3 : decide (at_ > (P.size : Int)) = true := decide_eq_true (by omega)
        go_wp2_with fail
        go_ret
        exact ⟨rfl, hb2'⟩
    · obtain ⟨a, rfl⟩ : ∃ a : Nat, at_ = a := ⟨at_.toNat, by omega⟩
      have hle3 : a ≤ P.size := by omega
      have g1 : decide ((a : Int) < 0) = false := decide_eq_false (by omega)
      have g2 : decide ((P.size : Int) < (a : Int)) = false := decide_eq_false (by omega)
      have g3 : decide ((a : Int) > (P.size : Int)) = false := decide_eq_false (by omega)
      obtain ⟨B, d, rfl, hd, hcell⟩ := HV2.out
      have HC := Lib.hid hcell
      have HQ := Lib.hid hq
      clear hcell hq hbad hat
      go_wp2_with fail
      go_loopw [8, 9, 10] (fun n u i wr => ∃ k : Nat, k ≤ q.length ∧ i = .int .i64 (k : Int) ∧ u = .int .i64 (k : Int) ∧ n = .int .i64 (((layL (q.take k)).length : Nat) : Int) ∧ (layL (q.take k)).length ≤ a ∧ wr = w2) (fun _ _ i _ => q.length - (intOf i).toNat)
      case atStart => exact ⟨0, Nat.zero_le _, rfl, rfl, rfl, Nat.zero_le _, rfl⟩
      case round =>
        obtain ⟨k, hk, rfl, rfl, rfl, hn, rfl⟩ := hrel
        by_cases hlt : k < q.length
        · obtain ⟨r, hx⟩ : ∃ r, q[k]? = some r := ⟨_, List.getElem?_eq_getElem hlt⟩
          obtain ⟨g, rfl, hg', p0, p1, p2⟩ := HC.out k r hx
          have hlt' := layL_take hx
          have hrs : r.data.size ≤ 2000 := by
            obtain ⟨_, _, _, _, _, _, _, hd⟩ := rcB_iff.1 (rcs_mem HQ.out r (List.mem_of_getElem? hx))
            exact hd
          obtain ⟨N, hN⟩ : ∃ N, (layL (q.take k)).length = N := ⟨_, rfl⟩
          rw [hN] at hlt' hn ⊢
          have e1 : IntKind.i64.wrap ((N : Int) + 14) = (N : Int) + 14 := IntWalk.i64_in _ (by omega)
          have e2 : IntKind.i64.wrap ((N : Int) + 14 + (r.data.size : Int)) = (N : Int) + 14 + (r.data.size : Int) := IntWalk.i64_in _ (by omega)
          have hi1 : (0 : Int) ≤ (k : Int) := by omega
          have hi2 : (k : Int) < (q.length : Int) := by omega
          have g4 : decide (k < q.length) = true := decide_eq_true hlt
          have HX := Lib.hid hx
          have HN := Lib.hid hN
          have HLT := Lib.hid hlt'
          clear hx hN hlt' p0 p1
          by_cases hfit : N + 14 + r.data.size ≤ a
          · have g5 : decide ((N : Int) + 14 + (r.data.size : Int) ≤ (a : Int)) = true := decide_eq_true (by omega)
            go_wp2_with fail
            go_roundw
            case rel => exact ⟨k + 1, by omega, by go_num, by go_num, by rw [HLT.out]; go_num, by rw [HLT.out]; exact hfit, by first | rfl | trivial⟩
            case measure => simp [intOf]; omega
          · have g5 : decide ((N : Int) + 14 + (r.data.size : Int) ≤ (a : Int)) = false := decide_eq_false (by omega)
            have hsc : ∀ T : ByteArray, T.data.toList = (layL q).take a → ScanOf T (q.take k) N := fun T hT =>
              scan_cut HQ.out (by omega) hT HN.out hn (fun x hx => by
                obtain rfl : r = x := Option.some.inj (HX.out.symm.trans hx)
                omega)
            have HSC := Lib.hid hsc
            clear hsc
            have hsl := sl_to P a hle3
            go_wp2_with fail
            refine (scan_any _ _ hE2 (by rw [ByteArray.size_extract]; omega)).mono ?_
            rintro e w3 ⟨m, n, v3, hs3, rfl, hv3, hb3⟩
            obtain ⟨rfl, rfl⟩ := hs3.one (HSC.out _ (by rw [← HPl.out]; simp [ByteArray.extract, ByteArray.copySlice]))
            have HV3 := Lib.hid hv3
            have HV4 := Lib.hid ((HV2.out.below hb3).take (k := k) (by omega))
            have hml : (q.take k).length ≤ 1000000 := by rw [List.length_take]; omega
            have hsr := sl_recs (some ⟨g, 0, none⟩) k q.length d (by omega)
            clear hs3 hv3
            go_wp2_with fail
            refine (rsame_any _ _ _ _ _ _ _ HV3.out HV4.out hml hml).mono ?_
            rintro e w4 ⟨rfl, hb4⟩
            rw [sameR_self]
            go_wp2_with fail
            go_ret
            exact ⟨rfl, hb2'.trans ((hb3.trans (hb4.mono hb3.size)).mono hb2'.size)⟩
        · obtain rfl : k = q.length := by omega
          have g4 : decide (q.length < q.length) = false := decide_eq_false (by omega)
          have hsc : ∀ T : ByteArray, T.data.toList = (layL q).take a → ScanOf T (q.take q.length) (layL (q.take q.length)).length := fun T hT =>
              scan_cut HQ.out (by omega) hT rfl hn (fun x hx => by simp at hx)
          have HSC := Lib.hid hsc
          clear hsc
          have hsl := sl_to P a hle3
          obtain ⟨N, hN⟩ : ∃ N, (layL (q.take q.length)).length = N := ⟨_, rfl⟩
          rw [hN] at HSC hn ⊢
          go_wp2_with fail
          refine (scan_any _ _ hE2 (by rw [ByteArray.size_extract]; omega)).mono ?_
          rintro e w3 ⟨m, n, v3, hs3, rfl, hv3, hb3⟩
          obtain ⟨rfl, rfl⟩ := hs3.one (HSC.out _ (by rw [← HPl.out]; simp [ByteArray.extract, ByteArray.copySlice]))
          have HV3 := Lib.hid hv3
          have HV4 := Lib.hid ((HV2.out.below hb3).take (k := q.length) (by omega))
          have hml : (q.take q.length).length ≤ 1000000 := by rw [List.length_take]; omega
          have hsr := sl_recs B q.length q.length d (by omega)
          clear hs3 hv3
          go_wp2_with fail
          refine (rsame_any _ _ _ _ _ _ _ HV3.out HV4.out hml hml).mono ?_
          rintro e w4 ⟨rfl, hb4⟩
          rw [sameR_self]
          go_wp2_with fail
          go_ret
          exact ⟨rfl, hb2'.trans ((hb3.trans (hb4.mono hb3.size)).mono hb2'.size)⟩
  · rw [e]
    go_wp2_with fail
    go_ret
    exact ⟨rfl, hb2'⟩
end Go.Proofs.YtdlkmdjhjdpmeaaGreatDoor
