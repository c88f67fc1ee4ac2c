/- Two neighbours that are turned, and not the same, make another sum: the walk of CrcTurns. -/
import Derived.Test.YtpccbiopljmnlaaDoorCStr
import Derived.Test.YtpccbiopljmnlaaDoorCLaw
set_option linter.unusedVariables false
set_option linter.unusedSimpArgs false
namespace Go.Proofs.YtpccbiopljmnlaaDoor
open Go.RowKit

set_option maxRecDepth 100000 in
set_option maxHeartbeats 2000000 in
theorem turns_yes (k : Int) (s q : ByteArray) (at0 : Nat) (n : Int) (u v t p1 p2 p3 p4 p12 p123 : ByteArray) (x y : Nat) (w : World) (hC : CrcOK w) (hs : s.size ≤ maxLen) (hq : s.extract 0 (min s.size 200) = q) (hql : q.size ≤ 200) (hn : sizR k = n) (hn0 : (n == 0) = false) (hat : at0 + 1 < q.size)
    (hu : ofR k q = (u, 0)) (hv : ofR k t = (v, 0)) (htl : t.size ≤ 1000)
    (s1 : ∀ w, (Instr.slice 9 (.string q) none (some (.int .i64 (at0 : Int))) none).run Tryd.prog w = .ok (.string p1) w)
    (s2 : ∀ w, (Instr.slice 9 (.string q) (some (.int .i64 ((at0 : Int) + 1))) (some (.int .i64 ((at0 : Int) + 2))) none).run Tryd.prog w = .ok (.string p2) w)
    (s3 : ∀ w, (Instr.slice 9 (.string q) (some (.int .i64 (at0 : Int))) (some (.int .i64 ((at0 : Int) + 1))) none).run Tryd.prog w = .ok (.string p3) w)
    (s4 : ∀ w, (Instr.slice 9 (.string q) (some (.int .i64 ((at0 : Int) + 2))) none none).run Tryd.prog w = .ok (.string p4) w)
    (c1 : ∀ w, (Op.stringOp .add p1 p2).run Tryd.prog w = .ok (.string p12) w) (c2 : ∀ w, (Op.stringOp .add p12 p3).run Tryd.prog w = .ok (.string p123) w) (c3 : ∀ w, (Op.stringOp .add p123 p4).run Tryd.prog w = .ok (.string t) w)
    (x1 : ∀ w, (Instr.index 9 (.string q) (.int .i64 (at0 : Int))).run Tryd.prog w = .ok (.int .u8 (x : Int)) w) (x2 : ∀ w, (Instr.index 9 (.string q) (.int .i64 ((at0 : Int) + 1))).run Tryd.prog w = .ok (.int .u8 (y : Int)) w)
    (hiff : ∃ b : Bool, (u.toList == v.toList) = b ∧ (x == y) = b ∧ ((x : Int) == (y : Int)) = b) :
    Calls Tryd.prog 8 #[.int .i64 k, .string s, .int .i64 (at0 : Int)] w fun e w' => e = .returned (.bool true) ∧ Below w.heap.size w w' := by
  obtain ⟨b, hb1, hb2, hb3⟩ := hiff
  have Q := Lib.hid hq
  have HN := Lib.hid hn
  have HU := Lib.hid hu
  have HV := Lib.hid hv
  clear hq hn hu hv
  have b0 : decide ((at0 : Int) < 0) = false := by simp
  have b1 : decide ((q.size : Int) - 1 ≤ (at0 : Int)) = false := by simp; omega
  go_enter Tryd.func8, Tryd.ntmps8
  go_wp2_with fail
  refine (shown_any _ hC).mono ?_
  rintro e w1 ⟨rfl, hw1⟩
  go_wp2_with fail
  refine (lawCut_any s _ hs).mono ?_
  rintro e w' ⟨rfl, rfl⟩
  rw [Q.out]
  go_wp2_with fail
  refine (size_any k _ (hC.below hw1)).mono ?_
  rintro e w2 ⟨rfl, hw2⟩
  replace hw2 := hw1.trans (hw2.mono hw1.size)
  rw [HN.out]
  go_wp2_with fail
  refine (of_any k q _ (hC.below hw2) (by omega)).mono ?_
  rintro e w3 ⟨rfl, hw3⟩
  replace hw3 := hw2.trans (hw3.mono hw2.size)
  rw [HU.out]
  have HB3 := Lib.hid hw3
  clear hw1 hw2 hw3
  go_wp2_with fail
  have hC3 := Lib.hid (hC.below HB3.out.drew)
  have e1 : IntKind.i64.wrap ((at0 : Int) + 1) = (at0 : Int) + 1 := IntWalk.i64_in _ (by omega)
  have e2 : IntKind.i64.wrap ((at0 : Int) + 2) = (at0 : Int) + 2 := IntWalk.i64_in _ (by omega)
  go_region_held3 (fun w' => True)
    (first | exact trivial)
    (first
      | ((go_at_call 16; refine (of_any k t _ hC3.out (by omega)).mono ?_; rintro e w4 ⟨rfl, hb4⟩; rw [HV.out])))
  have HB4 := Lib.hid (HB3.out.drew.trans (hb4.mono HB3.out.drew.size))
  clear hb4 HB3 hC3 s1 s2 s3 s4 c1 c2 c3
  go_wp2_with fail
  go_quiet (fail)
  go_wp2
  go_ret
  exact ⟨rfl, cdrewN HB4.out _⟩

set_option maxRecDepth 100000 in
set_option maxHeartbeats 2000000 in
theorem turns_out (k : Int) (s q : ByteArray) (at0 n : Int) (w : World) (hC : CrcOK w) (hs : s.size ≤ maxLen) (hq : s.extract 0 (min s.size 200) = q) (hql : q.size ≤ 200) (hn : sizR k = n)
    (h : decide (at0 < 0) = true ∨ decide (at0 < 0) = false ∧ (decide ((q.size : Int) - 1 ≤ at0) = true ∨ decide ((q.size : Int) - 1 ≤ at0) = false ∧ (n == 0) = true)) :
    Calls Tryd.prog 8 #[.int .i64 k, .string s, .int .i64 at0] w fun e w' => e = .returned (.bool true) ∧ Below w.heap.size w w' := by
  have Q := Lib.hid hq
  have HN := Lib.hid hn
  clear hq hn
  rcases h with h1 | ⟨h1, h2 | ⟨h2, h3⟩⟩
  · go_enter Tryd.func8, Tryd.ntmps8
    go_wp2_with fail
    refine (shown_any _ hC).mono ?_
    rintro e w1 ⟨rfl, hw1⟩
    go_wp2_with fail
    refine (lawCut_any s _ hs).mono ?_
    rintro e w' ⟨rfl, rfl⟩
    rw [Q.out]
    go_wp2
    go_ret
    exact ⟨rfl, hw1⟩
  · go_enter Tryd.func8, Tryd.ntmps8
    go_wp2_with fail
    refine (shown_any _ hC).mono ?_
    rintro e w1 ⟨rfl, hw1⟩
    go_wp2_with fail
    refine (lawCut_any s _ hs).mono ?_
    rintro e w' ⟨rfl, rfl⟩
    rw [Q.out]
    go_wp2
    go_ret
    exact ⟨rfl, hw1⟩
  · go_enter Tryd.func8, Tryd.ntmps8
    go_wp2_with fail
    refine (shown_any _ hC).mono ?_
    rintro e w1 ⟨rfl, hw1⟩
    go_wp2_with fail
    refine (lawCut_any s _ hs).mono ?_
    rintro e w' ⟨rfl, rfl⟩
    rw [Q.out]
    go_wp2_with fail
    refine (size_any k _ (hC.below hw1)).mono ?_
    rintro e w2 ⟨rfl, hw2⟩
    replace hw2 := hw1.trans (hw2.mono hw1.size)
    rw [HN.out]
    go_wp2
    go_ret
    exact ⟨rfl, hw2⟩

theorem split_two (l : List UInt8) (i : Nat) (h : i + 1 < l.length) : l = l.take i ++ ([l[i], l[i + 1]] ++ l.drop (i + 2)) := by
  have h1 : l.drop i = l[i] :: l.drop (i + 1) := List.drop_eq_getElem_cons (by omega)
  have h2 : l.drop (i + 1) = l[i + 1] :: l.drop (i + 2) := List.drop_eq_getElem_cons h
  conv => lhs; rw [← List.take_append_drop i l, h1, h2]
  rfl

theorem turns_walk (k : Int) (s : ByteArray) (at0 : Int) (w : World) (hC : CrcOK w) (_ : (Lit.int .i64 k).wf = true) (hs : s.size ≤ maxLen) (_ : (Lit.int .i64 at0).wf = true) :
    Calls Tryd.prog 8 #[.int .i64 k, .string s, .int .i64 at0] w fun e w' => e = .returned (.bool true) ∧ Below w.heap.size w w' := by
  have hql := cut_le s
  generalize hq : s.extract 0 (min s.size 200) = q at *
  by_cases h1 : at0 < 0
  · exact turns_out k s q at0 (sizR k) w hC hs hq hql rfl (.inl (decide_eq_true h1))
  by_cases h2 : (q.size : Int) - 1 ≤ at0
  · exact turns_out k s q at0 (sizR k) w hC hs hq hql rfl (.inr ⟨decide_eq_false h1, .inl (decide_eq_true h2)⟩)
  rcases sizR_cases k with ⟨h0, _, _⟩ | ⟨hk, hsz⟩
  · exact turns_out k s q at0 (sizR k) w hC hs hq hql rfl (.inr ⟨decide_eq_false h1, .inr ⟨decide_eq_false h2, by rw [h0]; rfl⟩⟩)
  obtain ⟨i, rfl⟩ := Int.eq_ofNat_of_zero_le (show 0 ≤ at0 by omega)
  have hi : i + 1 < q.size := by omega
  have hsq : q.data.toList.length = q.size := by simp
  obtain ⟨t, ht⟩ : ∃ t, t = q.extract 0 i ++ q.extract (i + 1) (i + 2) ++ q.extract i (i + 1) ++ q.extract (i + 2) q.size := ⟨_, rfl⟩
  have hlq := split_two q.data.toList i (by omega)
  have hX : q.data.toList[i]'(by omega) = q[i] := rfl
  have hY : q.data.toList[i + 1]'(by omega) = q[i + 1] := rfl
  rw [hX, hY] at hlq
  have hlt : t.data.toList = q.data.toList.take i ++ ([q[i + 1], q[i]] ++ q.data.toList.drop (i + 2)) := by
    rw [ht, app_list, app_list, app_list, ext_list, ext_list, ext_list, ext_list]
    have e1 : (q.data.toList.drop (i + 1)).take (i + 2 - (i + 1)) = [q[i + 1]] := by
      rw [List.drop_eq_getElem_cons (show i + 1 < q.data.toList.length by omega), show i + 2 - (i + 1) = 1 by omega]; rfl
    have e2 : (q.data.toList.drop i).take (i + 1 - i) = [q[i]] := by
      rw [List.drop_eq_getElem_cons (show i < q.data.toList.length by omega), show i + 1 - i = 1 by omega]; rfl
    have e3 : (q.data.toList.drop (i + 2)).take (q.size - (i + 2)) = q.data.toList.drop (i + 2) := List.take_of_length_le (by rw [List.length_drop]; omega)
    rw [e1, e2, e3]
    simp
  obtain ⟨u, v, hu, hv, hb, hus, hvs⟩ := of_burst hk (s := [q[i], q[i + 1]]) (t := [q[i + 1], q[i]]) (a := q.data.toList.take i) (b := q.data.toList.drop (i + 2)) rfl (by rcases hsz with h | h <;> rw [h] <;> simp) hlq hlt
  have htl : t.size ≤ 1000 := by
    have : t.size = t.data.toList.length := by simp
    rw [this, hlt]
    simp
    omega
  have z1 : (q.extract 0 i).size ≤ 200 := by rw [ByteArray.size_extract]; omega
  have z2 : (q.extract (i + 1) (i + 2)).size ≤ 200 := by rw [ByteArray.size_extract]; omega
  have z3 : (q.extract i (i + 1)).size ≤ 200 := by rw [ByteArray.size_extract]; omega
  have z4 : (q.extract (i + 2) q.size).size ≤ 200 := by rw [ByteArray.size_extract]; omega
  refine turns_yes k s q i (sizR k) u v t (q.extract 0 i) (q.extract (i + 1) (i + 2)) (q.extract i (i + 1)) (q.extract (i + 2) q.size) (q.extract 0 i ++ q.extract (i + 1) (i + 2)) (q.extract 0 i ++ q.extract (i + 1) (i + 2) ++ q.extract i (i + 1)) q[i].toNat q[i + 1].toNat w hC hs hq hql rfl (by rcases hsz with h | h <;> rw [h] <;> rfl) hi hu hv htl
    (fun w => sl_to q i (by omega) w) (fun w => sl_mid q _ _ (i + 1) (i + 2) (by omega) (by omega) (by omega) (by omega) w) (fun w => sl_mid q _ _ i (i + 1) (by omega) (by omega) (by omega) (by omega) w) (fun w => sl_from q _ (i + 2) (by omega) (by omega) w)
    (fun w => cat_str _ _ (by omega) w) (fun w => cat_str _ _ (by rw [ByteArray.size_append]; omega) w) (fun w => by rw [ht]; exact cat_str _ _ (by rw [ByteArray.size_append, ByteArray.size_append]; omega) w)
    (fun w => ix_str q _ i rfl (by omega) w) (fun w => ix_str q _ (i + 1) (by omega) hi w) ⟨decide (q[i] = q[i + 1]), ?_, ?_, ?_⟩
  · rw [hb]
    rw [decide_eq_decide]
    simp
    exact fun h => h.symm
  · rw [Bool.eq_iff_iff, beq_iff_eq, decide_eq_true_eq, UInt8.toNat_inj]
  · rw [Bool.eq_iff_iff, beq_iff_eq, decide_eq_true_eq, ← UInt8.toNat_inj]
    omega
end Go.Proofs.YtpccbiopljmnlaaDoor
