/- DiskApart: a write changes its sector alone, and that to what is written, or to a beginning of it and the old end. -/
import Derived.Test.YtpafpmefhfmndaaDoorKRun
set_option linter.unusedVariables false
set_option linter.unusedSimpArgs false
namespace Go.Proofs.YtpafpmefhfmndaaDoor
open Go.RowKit

theorem mixS_get {s t : ByteArray} {r n : Nat} (hs : s.size = 64) (ht : t.size = 64) (hr : r ≤ 64) (hn : n < r) (h1 : n < (mixS s t r).size) (h2 : n < s.size) : (mixS s t r)[n] = s[n] := by
  have e : (mixS s t r).data.toList[n]? = s.data.toList[n]? := by
    rw [mixS_toList, List.getElem?_append_left (by rw [List.length_take, Array.length_toList]; have : s.data.size = 64 := hs; omega), List.getElem?_take, if_pos hn]
  have l1 : n < (mixS s t r).data.toList.length := by rw [Array.length_toList]; exact h1
  have l2 : n < s.data.toList.length := by rw [Array.length_toList]; exact h2
  rw [List.getElem?_eq_getElem l1, List.getElem?_eq_getElem l2] at e
  have := Option.some.inj e
  rw [Array.getElem_toList, Array.getElem_toList] at this
  exact this
theorem mixS_end {s t : ByteArray} {r n : Nat} (hs : s.size = 64) (ht : t.size = 64) (hn : r ≤ n) (hr : r ≤ 64) : (mixS s t r).extract n 64 = t.extract n 64 := by
  apply ByteArray.ext
  apply Array.toList_inj.1
  rw [ByteArray.data_extract, ByteArray.data_extract, Array.toList_extract, Array.toList_extract, mixS_toList]
  unfold List.extract
  have hl : (s.data.toList.take r).length = r := by rw [List.length_take, Array.length_toList]; have : s.data.size = 64 := hs; omega
  rw [List.drop_append, List.drop_of_length_le (by rw [hl]; exact hn), List.nil_append, List.drop_drop, hl]
  congr 2
  omega
theorem extract_end (s : ByteArray) (h : s.size = 64) : s.extract 64 64 = ⟨#[]⟩ := by
  apply ByteArray.ext
  apply Array.toList_inj.1
  rw [ByteArray.data_extract, Array.toList_extract]
  unfold List.extract
  simp

theorem belN {f : Nat} {w w' : World} (h : Below f w w') (k : Nat) : Below f w (w'.drewN k) := by
  induction k with
  | zero => exact h
  | succ k ih => exact ih.drew
theorem byte_eq {x y : UInt8} (h : x = y) : (((x.toNat : Nat) : Int) == ((y.toNat : Nat) : Int)) = true := by rw [h]; exact beq_self_eq_true _
theorem byte_ne {x y : UInt8} (h : x ≠ y) : (((x.toNat : Nat) : Int) == ((y.toNat : Nat) : Int)) = false := by
  refine beq_eq_false_iff_ne.2 fun e => h (UInt8.toNat_inj.1 ?_)
  omega

/-- What a write leaves of another sector. -/
theorem other_same {D : Dk} (ok : D.Ok) (hd : D.down = false) {i o : Int} {s : ByteArray} (hi : inD D i) (hs : s.size = 64) :
    (readR (restD (writeD D i s)) o).2 = (readR D o).2 ∧ (o ≠ i → (readR (restD (writeD D i s)) o).1 = (readR D o).1) := by
  have e := writeD_eq hd hi hs
  have hin : inD (restD (writeD D i s)) o ↔ inD D o := by
    unfold inD
    show (0 ≤ o ∧ o < (((writeD D i s).ss.length : Nat) : Int)) ↔ _
    rw [writeD_m]
  by_cases ho : inD D o
  · have h1 : readR D o = (D.ss.getD o.toNat ⟨#[]⟩, 0) := by unfold readR; rw [hd, if_neg (by simp), if_pos ho]
    have h2 : readR (restD (writeD D i s)) o = ((writeD D i s).ss.getD o.toNat ⟨#[]⟩, 0) := by
      unfold readR
      rw [if_neg (by show ¬ (false = true); simp), if_pos (hin.2 ho)]
      rfl
    rw [h1, h2]
    refine ⟨rfl, fun hne => ?_⟩
    show (writeD D i s).ss.getD o.toNat ⟨#[]⟩ = D.ss.getD o.toNat ⟨#[]⟩
    rw [e]
    show (D.ss.set i.toNat _).getD o.toNat ⟨#[]⟩ = _
    have h0 := ho.1
    have h3 := hi.1
    simp only [List.getD]
    rw [List.getElem?_set_ne (by omega)]
  · have h1 : readR D o = (⟨#[]⟩, 181) := by unfold readR; rw [hd, if_neg (by simp), if_neg ho]
    have h2 : readR (restD (writeD D i s)) o = (⟨#[]⟩, 181) := by
      unfold readR
      rw [if_neg (by show ¬ (false = true); simp), if_neg (fun e => ho (hin.1 e))]
    rw [h1, h2]
    exact ⟨rfl, fun _ => rfl⟩

/-- What a write leaves of its own sector. -/
theorem own_mix {D : Dk} (ok : D.Ok) (hd : D.down = false) {i : Int} {s : ByteArray} (hi : inD D i) (hs : s.size = 64) :
    ∃ t, t.size = 64 ∧ readR D i = (t, 0) ∧ readR (restD (writeD D i s)) i = (mixS s t D.reach, 0) ∧ ((writeE D i s = 0 ∧ D.reach = 64) ∨ writeE D i s = 180) := by
  obtain ⟨t, ht, htd, ht64⟩ := ok.get hi
  have e := writeD_eq hd hi hs
  rw [htd] at e
  have hlt : i.toNat < D.ss.length := by have := hi.1; have := hi.2; omega
  refine ⟨t, ht64, ?_, ?_, ?_⟩
  · unfold readR; rw [hd, if_neg (by simp), if_pos hi, htd]
  · have hin : inD (restD (writeD D i s)) i := ⟨hi.1, by show i < (((writeD D i s).ss.length : Nat) : Int); rw [writeD_m]; exact hi.2⟩
    unfold readR
    rw [if_neg (by show ¬ (false = true); simp), if_pos hin]
    show ((writeD D i s).ss.getD i.toNat ⟨#[]⟩, (0 : Int)) = _
    rw [e]
    simp [List.getD, hlt]
  · by_cases h1 : D.left = 1
    · exact .inr (by rw [writeE_eq hd hi hs, if_pos h1])
    · exact .inl ⟨by rw [writeE_eq hd hi hs, if_neg h1], if_neg h1⟩

set_option maxRecDepth 100000 in
set_option maxHeartbeats 1500000 in
theorem apartL_of (m : Nat) (i o : Int) (s S : ByteArray) (xs : List OpR) (A : Option Addr) (c : Nat) (w : World) (hE : DEnv w) (h1 : 1 ≤ m) (h2 : m ≤ 256) (hl : xs.length ≤ maxLen) (hI : OpsIn w A xs) (hs : s.size ≤ maxLen) (hS : s.extract 0 (min (s.size : Int) 65).toNat = S) (hS65 : S.size ≤ 65) :
    Calls Tryd.prog 4 #[.int .i64 (m : Int), .slice A xs.length c, .int .i64 i, .string s, .int .i64 o] w fun e w' => e = .returned (.bool true) ∧ Below w.heap.size w w' := by
  have HI := Lib.hid hI
  have HSS := Lib.hid hS
  clear hI hS
  go_enter Tryd.func4, Tryd.ntmps4
  go_wp2_with fail
  refine (shown_any _ hE).mono ?_
  rintro e w0 ⟨rfl, hb0⟩
  go_wp2_with fail
  refine (lcut_any xs A c _ hl (HI.out.below hb0)).mono ?_
  rintro e w1 ⟨v, rfl, hO, hb1⟩
  have hok := cuts_ok HI.out
  have hyl : ((xs.map cutO).take 40).length ≤ 40 := by rw [List.length_take]; omega
  generalize (xs.map cutO).take 40 = ys at *
  obtain ⟨A1, c1, rfl, hO⟩ := hO
  have hb01 := hb0.trans (hb1.mono hb0.size)
  have HOK := Lib.hid hok
  have HO := Lib.hid (show OpsOwn w1.heap.size w1 (.slice A1 ys.length c1) ys from ⟨A1, c1, rfl, hO⟩)
  clear hb0 hb1 hok hO
  go_wp2_with fail
  rw [HSS.out]
  refine (new_ok m _ h1 h2).mono ?_
  rintro e w2 ⟨a, b, rfl, hD, ha, hb, hb2⟩
  have HL2 := Lib.hid (LAt.new hb01 hD ha hb hb2)
  have HO2 := Lib.hid (HO.out.below hb2)
  clear hb01 hD hb2
  go_wp2_with fail
  go_loopw [14] (fun i wr => ∃ k : Nat, k ≤ ys.length ∧ i = .int .i64 k ∧ LAt w a b (runD (newD m) (ys.take k)) wr ∧ OpsOwn w1.heap.size wr (.slice A1 ys.length c1) ys) (fun i _ => ys.length - (intOf i).toNat)
  case atStart => exact ⟨0, Nat.zero_le _, rfl, HL2.out, HO2.out⟩
  case round =>
    obtain ⟨k, hk, rfl, hL, hOw⟩ := hrel
    have HL := Lib.hid hL
    have HOw := Lib.hid hOw
    clear hL
    by_cases hlt : k < ys.length
    · obtain ⟨x, hx⟩ : ∃ x, ys[k]? = some x := ⟨_, List.getElem?_eq_getElem hlt⟩
      obtain ⟨A2, c2, hv, hO⟩ := hOw
      obtain ⟨g, hA, hg, q0, q1, q2, q3⟩ := hO k x hx
      have e2 : A2 = A1 := by injection hv with e; exact e.symm
      subst e2
      subst hA
      have hxo := HOK.out x (List.mem_of_getElem? hx)
      have hsn := runD_small m ys hyl k
      have HX := Lib.hid (runD_succ (D := newD m) hx)
      clear hO hv hx
      go_wp2_with fail
      refine (do_any hE a b _ x _ hxo hsn HL.out).mono ?_
      rintro e w3 ⟨rfl, hl3, ho3⟩
      have hO3 := HOw.out.only ho3 ha hb
      clear q0 q1 q2 q3
      go_wp2
      go_roundw
      case rel => exact ⟨k + 1, by omega, by go_num, by rw [HX.out]; exact hl3, hO3⟩
      case measure => simp [intOf]; omega
    · obtain rfl : k = ys.length := by omega
      have hl4 := HL.out
      rw [List.take_length] at hl4
      have HL4 := Lib.hid hl4
      have hm4 := runD_len m ys
      have hn4 := runD_small' m ys hyl
      clear hl4 hOw
      generalize runD (newD m) ys = D at *
      have hok4 := HL4.out.d.ok
      have hnD : D.n < 1000000 := by omega
      clear hm4
      go_wp2_with fail
      refine (lread_any hE a b D o _ HL4.out).mono ?_
      rintro e w5 ⟨rfl, hl5, _⟩
      go_wp2_with fail
      refine (lread_any hE a b D i _ hl5).mono ?_
      rintro e w6 ⟨rfl, hl6, _⟩
      go_wp2_with fail
      refine (lwrite_any hE a b D i S _ hnD hl6).mono ?_
      rintro e w7 ⟨rfl, hl7, _⟩
      clear hl5 hl6
      by_cases hdn : D.down = true
      · have e1 : writeE D i S = 180 := by simp [writeE, hdn]
        have e2 : (readR D i).2 = 180 := by simp [readR, hdn]
        rw [e1, e2]
        clear e1 e2
        generalize (readR D i).1 = r1
        generalize (readR D o).1 = r2
        generalize (readR D o).2 = r3
        go_wp2_with fail
        refine (lrest_any a b _ _ hl7).mono ?_
        rintro e w8 ⟨rfl, hl8, _⟩
        go_wp2_with fail
        refine (lread_any hE a b _ o _ hl8).mono ?_
        rintro e w9 ⟨rfl, hl9, _⟩
        go_wp2_with fail
        refine (lread_any hE a b _ i _ hl9).mono ?_
        rintro e w10 ⟨rfl, hl10, _⟩
        generalize readR (restD (writeD D i S)) i = r4
        generalize readR (restD (writeD D i S)) o = r5
        clear hl7 hl8 hl9
        go_wp2
        go_ret
        exact ⟨rfl, hl10.be⟩
      · have hdf : D.down = false := by simpa using hdn
        clear hdn
        by_cases hgood : inD D i ∧ S.size = 64
        · obtain ⟨hi, hs64⟩ := hgood
          obtain ⟨B, hB64, e1, e2, e3⟩ := own_mix hok4 hdf hi hs64
          obtain ⟨e4, e5⟩ := other_same hok4 hdf hi hs64 (o := o)
          have hrl := hok4.reach_le
          have hT64 := mixS_size hs64 hB64 hrl
          have hget := fun n hn h1 h2 => mixS_get (n := n) hs64 hB64 hrl hn h1 h2
          have hend := fun n hn => mixS_end (n := n) hs64 hB64 hn hrl
          have hfull : D.reach = 64 → mixS S B D.reach = S := fun e => by rw [e]; exact mixS_all hs64 hB64
          have HR := Lib.hid e2
          have H4 := Lib.hid e4
          have H5 := Lib.hid e5
          have hgc : (writeE D i S = 0 ∧ mixS S B D.reach = S) ∨ writeE D i S = 180 := by
            rcases e3 with ⟨h0, h1⟩ | h0
            · exact .inl ⟨h0, hfull h1⟩
            · exact .inr h0
          rw [e1]
          clear e1 e2 e4 e5 hi hdf e3 hfull
          rcases hgc with ⟨hg, hfl⟩ | hg
          · rw [hg]
            have HFULL := Lib.hid hfl
            clear hg
            go_wp2_with fail
            refine (lrest_any a b _ _ hl7).mono ?_
            rintro e w8 ⟨rfl, hl8, _⟩
            go_wp2_with fail
            refine (lread_any hE a b _ o _ hl8).mono ?_
            rintro e w9 ⟨rfl, hl9, _⟩
            rw [H4.out]
            go_wp2_with fail
            refine (lread_any hE a b _ i _ hl9).mono ?_
            rintro e w10 ⟨rfl, hl10, _⟩
            rw [HR.out]
            have h5 := H5.out
            have HL10 := Lib.hid hl10.be
            clear H4 H5 HR hl7 hl8 hl9 hl10
            generalize (readR (restD (writeD D i S)) o).1 = c0 at *
            generalize (readR D o).2 = f0 at *
            generalize (readR D o).1 = a0 at *
            have hfl := HFULL.out
            clear HFULL
            generalize D.reach = r at *
            have H5 := Lib.hid h5
            clear h5
            generalize mixS S B r = T at *
            have HT := Lib.hid hT64
            have HB := Lib.hid hB64
            have HS := Lib.hid hs64
            have HG := Lib.hid hget
            have HEND := Lib.hid hend
            clear hT64 hB64 hs64 hget hend
            have t1 : ((T.size : Int) != 64) = false := by rw [HT.out]; rfl
            have t2 : ((B.size : Int) != 64) = false := by rw [HB.out]; rfl
            have t3 : ((S.size : Int) != 64) = false := by rw [HS.out]; rfl
            subst hfl
            go_wp2_with fail
            go_loopw [24] (fun q wr => ∃ n : Nat, n ≤ 64 ∧ q = .int .i64 n ∧ Below w.heap.size w wr) (fun q _ => 64 - (intOf q).toNat)
            case atStart => exact ⟨0, Nat.zero_le _, rfl, HL10.out⟩
            case round =>
              obtain ⟨n, hn, rfl, hBr⟩ := hrel
              by_cases hn64 : n < 64
              · have b1 : n < T.size := by have := HT.out; omega
                have b2 : n < T.size := by have := HS.out; omega
                have i1 : (n : Int) < (T.size : Int) := by omega
                have i2 : (n : Int) < (T.size : Int) := by omega
                have g1 : decide ((n : Int) < 64) = true := by simp; omega
                have g2 : decide (n < 64) = true := by simpa using hn64
                by_cases heq : T[n]'b1 = T[n]'b2
                · have g3 : ((((T[n]'b1).toNat : Int)) == (((T[n]'b2).toNat : Int))) = true := byte_eq heq
                  go_wp2_with fail
                  go_quiet (fail)
                  go_wp2
                  go_roundw
                  case rel => exact ⟨n + 1, by omega, by go_num, belN hBr _⟩
                  case measure => simp [intOf]; omega
                · exact absurd rfl heq
              · obtain rfl : n = 64 := by omega
                have g1 : decide (((64 : Nat) : Int) < 64) = false := by decide
                have hrn : r ≤ 64 := hrl
                have HX := Lib.hid (HEND.out 64 hrn)
                clear HG HEND
                go_wp2_with fail
                go_quiet (fail)
                have hT := HT.out
                have hBs := HB.out
                have b3 : 64 ≤ T.size := by omega
                have b4 : 64 ≤ B.size := by omega
                have b5 : ((64 : Nat) : Int) ≤ (T.size : Int) := by omega
                have b6 : ((64 : Nat) : Int) ≤ (B.size : Int) := by omega
                have s1 : T.extract 64 T.size = B.extract 64 B.size := by rw [hT, hBs]; exact HX.out
                clear hT hBs
                by_cases ho : o = i
                · subst ho
                  go_wp2_with fail
                  go_quiet (fail)
                  go_wp2
                  go_ret
                  exact ⟨rfl, belN (belN hBr _) _⟩
                · have h6 : c0 = a0 := H5.out ho
                  have o1 : (o == i) = false := beq_eq_false_iff_ne.2 ho
                  subst h6
                  go_wp2_with fail
                  go_quiet (fail)
                  go_wp2
                  go_ret
                  exact ⟨rfl, belN (belN hBr _) _⟩
          · rw [hg]
            have HFULL := Lib.hid (True.intro : True)
            clear hg
            go_wp2_with fail
            refine (lrest_any a b _ _ hl7).mono ?_
            rintro e w8 ⟨rfl, hl8, _⟩
            go_wp2_with fail
            refine (lread_any hE a b _ o _ hl8).mono ?_
            rintro e w9 ⟨rfl, hl9, _⟩
            rw [H4.out]
            go_wp2_with fail
            refine (lread_any hE a b _ i _ hl9).mono ?_
            rintro e w10 ⟨rfl, hl10, _⟩
            rw [HR.out]
            have h5 := H5.out
            have HL10 := Lib.hid hl10.be
            clear H4 H5 HR hl7 hl8 hl9 hl10
            generalize (readR (restD (writeD D i S)) o).1 = c0 at *
            generalize (readR D o).2 = f0 at *
            generalize (readR D o).1 = a0 at *
            have hfl := HFULL.out
            clear HFULL
            generalize D.reach = r at *
            have H5 := Lib.hid h5
            clear h5
            generalize mixS S B r = T at *
            have HT := Lib.hid hT64
            have HB := Lib.hid hB64
            have HS := Lib.hid hs64
            have HG := Lib.hid hget
            have HEND := Lib.hid hend
            clear hT64 hB64 hs64 hget hend
            have t1 : ((T.size : Int) != 64) = false := by rw [HT.out]; rfl
            have t2 : ((B.size : Int) != 64) = false := by rw [HB.out]; rfl
            have t3 : ((S.size : Int) != 64) = false := by rw [HS.out]; rfl
            go_wp2_with fail
            go_loopw [24] (fun q wr => ∃ n : Nat, n ≤ 64 ∧ q = .int .i64 n ∧ Below w.heap.size w wr) (fun q _ => 64 - (intOf q).toNat)
            case atStart => exact ⟨0, Nat.zero_le _, rfl, HL10.out⟩
            case round =>
              obtain ⟨n, hn, rfl, hBr⟩ := hrel
              by_cases hn64 : n < 64
              · have b1 : n < T.size := by have := HT.out; omega
                have b2 : n < S.size := by have := HS.out; omega
                have i1 : (n : Int) < (T.size : Int) := by omega
                have i2 : (n : Int) < (S.size : Int) := by omega
                have g1 : decide ((n : Int) < 64) = true := by simp; omega
                have g2 : decide (n < 64) = true := by simpa using hn64
                by_cases heq : T[n]'b1 = S[n]'b2
                · have g3 : ((((T[n]'b1).toNat : Int)) == (((S[n]'b2).toNat : Int))) = true := byte_eq heq
                  go_wp2_with fail
                  go_quiet (fail)
                  go_wp2
                  go_roundw
                  case rel => exact ⟨n + 1, by omega, by go_num, belN hBr _⟩
                  case measure => simp [intOf]; omega
                · have g3 : ((((T[n]'b1).toNat : Int)) == (((S[n]'b2).toNat : Int))) = false := byte_ne heq
                  have hrn : r ≤ n := Nat.not_lt.1 fun hc => heq (HG.out n hc b1 b2)
                  have HX := Lib.hid (HEND.out n hrn)
                  clear HG HEND
                  go_wp2_with fail
                  go_quiet (fail)
                  have hT := HT.out
                  have hBs := HB.out
                  have b3 : n ≤ T.size := by omega
                  have b4 : n ≤ B.size := by omega
                  have b5 : (n : Int) ≤ (T.size : Int) := by omega
                  have b6 : (n : Int) ≤ (B.size : Int) := by omega
                  have s1 : T.extract n T.size = B.extract n B.size := by rw [hT, hBs]; exact HX.out
                  clear hT hBs
                  by_cases ho : o = i
                  · subst ho
                    go_wp2_with fail
                    go_quiet (fail)
                    go_wp2
                    go_ret
                    exact ⟨rfl, belN (belN hBr _) _⟩
                  · have h6 : c0 = a0 := H5.out ho
                    have o1 : (o == i) = false := beq_eq_false_iff_ne.2 ho
                    subst h6
                    go_wp2_with fail
                    go_quiet (fail)
                    go_wp2
                    go_ret
                    exact ⟨rfl, belN (belN hBr _) _⟩
              · obtain rfl : n = 64 := by omega
                have g1 : decide (((64 : Nat) : Int) < 64) = false := by decide
                have hrn : r ≤ 64 := hrl
                have HX := Lib.hid (HEND.out 64 hrn)
                clear HG HEND
                go_wp2_with fail
                go_quiet (fail)
                have hT := HT.out
                have hBs := HB.out
                have b3 : 64 ≤ T.size := by omega
                have b4 : 64 ≤ B.size := by omega
                have b5 : ((64 : Nat) : Int) ≤ (T.size : Int) := by omega
                have b6 : ((64 : Nat) : Int) ≤ (B.size : Int) := by omega
                have s1 : T.extract 64 T.size = B.extract 64 B.size := by rw [hT, hBs]; exact HX.out
                clear hT hBs
                by_cases ho : o = i
                · subst ho
                  go_wp2_with fail
                  go_quiet (fail)
                  go_wp2
                  go_ret
                  exact ⟨rfl, belN (belN hBr _) _⟩
                · have h6 : c0 = a0 := H5.out ho
                  have o1 : (o == i) = false := beq_eq_false_iff_ne.2 ho
                  subst h6
                  go_wp2_with fail
                  go_quiet (fail)
                  go_wp2
                  go_ret
                  exact ⟨rfl, belN (belN hBr _) _⟩
        · have e1 : writeE D i S = 181 := by unfold writeE; rw [hdf, if_neg (by simp), if_neg hgood]
          rw [e1]
          by_cases hi : inD D i
          · have hsz : ((S.size : Int) != 64) = true := by
              have : S.size ≠ 64 := fun e => hgood ⟨hi, e⟩
              simp; omega
            clear e1 hgood hi
            generalize readR D i = r1
            generalize readR D o = r2
            go_wp2
            all_goals
              go_ret
              exact ⟨rfl, hl7.be⟩
          · have e2 : (readR D i).2 = 181 := by unfold readR; rw [hdf, if_neg (by simp), if_neg hi]
            rw [e2]
            clear e1 e2 hgood hi
            generalize (readR D i).1 = r1
            generalize readR D o = r2
            go_wp2
            go_ret
            exact ⟨rfl, hl7.be⟩

set_option maxRecDepth 100000 in
theorem apartL_bad (m : Int) (i o : Int) (s S : ByteArray) (xs : List OpR) (A : Option Addr) (c : Nat) (w : World) (hE : DEnv w) (h : m < 1 ∨ 256 < m) (hl : xs.length ≤ maxLen) (hI : OpsIn w A xs) (hs : s.size ≤ maxLen) (hS : s.extract 0 (min (s.size : Int) 65).toNat = S) (hS65 : S.size ≤ 65) :
    Calls Tryd.prog 4 #[.int .i64 m, .slice A xs.length c, .int .i64 i, .string s, .int .i64 o] w fun e w' => e = .returned (.bool true) ∧ Below w.heap.size w w' := by
  have HI := Lib.hid hI
  have HSS := Lib.hid hS
  have H := Lib.hid h
  clear hI hS h
  go_enter Tryd.func4, Tryd.ntmps4
  go_wp2_with fail
  refine (shown_any _ hE).mono ?_
  rintro e w0 ⟨rfl, hb0⟩
  go_wp2_with fail
  refine (lcut_any xs A c _ hl (HI.out.below hb0)).mono ?_
  rintro e w1 ⟨v, rfl, ⟨A1, c1, rfl, hO⟩, hb1⟩
  have hb01 := hb0.trans (hb1.mono hb0.size)
  go_wp2_with fail
  rw [HSS.out]
  refine (new_bad m _ (hE.below hb01).e H.out).mono ?_
  rintro e w2 ⟨rfl, hb2⟩
  clear hO
  go_wp2
  go_ret
  exact ⟨rfl, hb01.trans (hb2.mono hb01.size)⟩

set_option maxRecDepth 100000 in
theorem apartL_walk (m : Int) (xs : List OpR) (A : Option Addr) (c : Nat) (i : Int) (s : ByteArray) (o : Int) (w : World) (hE : DEnv w) (_ : (Lit.int .i64 m).wf = true) (hI : OpsIn w A xs) (hl : xs.length ≤ maxLen) (_ : (Lit.int .i64 i).wf = true) (hs : s.size ≤ maxLen) (_ : (Lit.int .i64 o).wf = true) :
    Calls Tryd.prog 4 #[.int .i64 m, .slice A xs.length c, .int .i64 i, .string s, .int .i64 o] w fun e w' => e = .returned (.bool true) ∧ Below w.heap.size w w' := by
  have h65 : (s.extract 0 (min (s.size : Int) 65).toNat).size ≤ 65 := by
    have := extract_le s 0 (min (s.size : Int) 65).toNat
    rw [ByteArray.size_extract]
    omega
  by_cases h : 1 ≤ m ∧ m ≤ 256
  · obtain ⟨k, rfl⟩ := Int.eq_ofNat_of_zero_le (show 0 ≤ m by omega)
    exact apartL_of k i o s _ xs A c w hE (by omega) (by omega) hl hI hs rfl h65
  · exact apartL_bad m i o s _ xs A c w hE (by omega) hl hI hs rfl h65
end Go.Proofs.YtpafpmefhfmndaaDoor
