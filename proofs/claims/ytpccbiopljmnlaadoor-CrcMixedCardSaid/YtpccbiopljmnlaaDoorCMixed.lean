/- Of three texts of one length the sums, put together, are the sum of the three put together: the walk of CrcMixed. -/
import Derived.Test.YtpccbiopljmnlaaDoorCMix
set_option linter.unusedVariables false
set_option linter.unusedSimpArgs false
namespace Go.Proofs.YtpccbiopljmnlaaDoor
open Go.RowKit

theorem min4 (ts : Array TypeId) (t : TypeId) (a b c d : Nat) (w : World) : (Builtin.min_ ts t #[.int .i64 (a : Int), .int .i64 (b : Int), .int .i64 (c : Int), .int .i64 (d : Int)]).run Tryd.prog w = .ok (.int .i64 ((min (min (min a b) c) d : Nat) : Int)) w := by
  have e : ∀ x y : Nat, (if (y : Int) < (x : Int) then (y : Int) else (x : Int)) = ((min x y : Nat) : Int) := fun x y => by split <;> omega
  simp only [Builtin.min_, List.foldlM, Builtin.min2, Sem.run_bind, Sem.run_pure, Result.andThen_ok, e]

set_option maxRecDepth 100000 in
set_option maxHeartbeats 2000000 in
theorem mixed_of (k : Int) (s t u : ByteArray) (n : Nat) (p q r a b c d : ByteArray) (e0 : Int) (w : World) (hC : CrcOK w)
    (hn : min (min (min s.size t.size) u.size) 200 = n) (sp : ∀ w, (Instr.slice 9 (.string s) none (some (.int .i64 (n : Int))) none).run Tryd.prog w = .ok (.string p) w) (sq : ∀ w, (Instr.slice 9 (.string t) none (some (.int .i64 (n : Int))) none).run Tryd.prog w = .ok (.string q) w) (sr : ∀ w, (Instr.slice 9 (.string u) none (some (.int .i64 (n : Int))) none).run Tryd.prog w = .ok (.string r) w)
    (hpq : p.size = q.size) (hpr : p.size = r.size) (hp : p.size ≤ 200) (ha : ofR k p = (a, e0)) (hb : ofR k q = (b, e0)) (hc : ofR k r = (c, e0)) (hd : ofR k ⟨(mix3 p.data.toList q.data.toList r.data.toList).toArray⟩ = (d, e0)) (hml : (mix3 p.data.toList q.data.toList r.data.toList).length ≤ 200)
    (h : (e0 != 0) = true ∨ (e0 != 0) = false ∧ a.size = b.size ∧ a.size = c.size ∧ a.size ≤ 200 ∧ d = ⟨(mix3 a.data.toList b.data.toList c.data.toList).toArray⟩) :
    Calls Tryd.prog 6 #[.int .i64 k, .string s, .string t, .string u] w fun e w' => e = .returned (.bool true) ∧ Below w.heap.size w w' := by
  have hmin : ∀ w, (Builtin.min_ #[3, 3, 3, 3] 3 #[.int .i64 (s.size : Int), .int .i64 (t.size : Int), .int .i64 (u.size : Int), .int .i64 200]).run Tryd.prog w = .ok (.int .i64 (n : Int)) w := fun w => by
    have := min4 #[3, 3, 3, 3] 3 s.size t.size u.size 200 w
    rw [hn] at this
    exact this
  have HA := Lib.hid ha
  have HB := Lib.hid hb
  have HC := Lib.hid hc
  have HD := Lib.hid hd
  have HPQ := Lib.hid hpq
  have HPR := Lib.hid hpr
  have HML := Lib.hid hml
  clear ha hb hc hd hn hpq hpr hml
  rcases h with h | ⟨h, h1, h2, h3, h4⟩
  · go_enter Tryd.func6, Tryd.ntmps6
    go_wp2_with fail
    refine (shown_any _ hC).mono ?_
    rintro e w1 ⟨rfl, hw1⟩
    go_wp2_with fail
    refine (of_any k p _ (hC.below hw1) (by omega)).mono ?_
    rintro e w2 ⟨rfl, hw2⟩
    replace hw2 := hw1.trans (hw2.mono hw1.size)
    rw [HA.out]
    go_wp2_with fail
    refine (of_any k q _ (hC.below hw2) (by have := HPQ.out; omega)).mono ?_
    rintro e w3 ⟨rfl, hw3⟩
    replace hw3 := hw2.trans (hw3.mono hw2.size)
    rw [HB.out]
    go_wp2_with fail
    refine (of_any k r _ (hC.below hw3) (by have := HPR.out; omega)).mono ?_
    rintro e w4 ⟨rfl, hw4⟩
    replace hw4 := hw3.trans (hw4.mono hw3.size)
    rw [HC.out]
    go_wp2_with fail
    refine (mixed_any p q r _ HPQ.out HPR.out hp).mono ?_
    rintro e w5 ⟨rfl, hw5⟩
    replace hw5 := hw4.trans (hw5.mono hw4.size)
    generalize hmm : (⟨(mix3 p.data.toList q.data.toList r.data.toList).toArray⟩ : ByteArray) = mm at *
    have hms : mm.size ≤ 200 := by rw [← hmm]; show (mix3 _ _ _).toArray.size ≤ 200; simpa using HML.out
    clear hmm
    go_wp2_with fail
    refine (of_any k mm _ (hC.below hw5) (by omega)).mono ?_
    rintro e w6 ⟨rfl, hw6⟩
    have HW6 := Lib.hid (hw5.trans (hw6.mono hw5.size))
    rw [HD.out]
    clear hw1 hw2 hw3 hw4 hw5 hw6
    have hee : (e0 == e0) = true := by simp
    go_wp2
    go_ret
    exact ⟨rfl, HW6.out⟩
  · have hb1 : ((b.size : Int) == (a.size : Int)) = true := by rw [h1]; simp
    have hb2 : ((c.size : Int) == (a.size : Int)) = true := by rw [h2]; simp
    have H1 := Lib.hid h1
    have H2 := Lib.hid h2
    have H4 := Lib.hid h4
    clear h1 h2 h4
    go_enter Tryd.func6, Tryd.ntmps6
    go_wp2_with fail
    refine (shown_any _ hC).mono ?_
    rintro e w1 ⟨rfl, hw1⟩
    go_wp2_with fail
    refine (of_any k p _ (hC.below hw1) (by omega)).mono ?_
    rintro e w2 ⟨rfl, hw2⟩
    replace hw2 := hw1.trans (hw2.mono hw1.size)
    rw [HA.out]
    go_wp2_with fail
    refine (of_any k q _ (hC.below hw2) (by have := HPQ.out; omega)).mono ?_
    rintro e w3 ⟨rfl, hw3⟩
    replace hw3 := hw2.trans (hw3.mono hw2.size)
    rw [HB.out]
    go_wp2_with fail
    refine (of_any k r _ (hC.below hw3) (by have := HPR.out; omega)).mono ?_
    rintro e w4 ⟨rfl, hw4⟩
    replace hw4 := hw3.trans (hw4.mono hw3.size)
    rw [HC.out]
    go_wp2_with fail
    refine (mixed_any p q r _ HPQ.out HPR.out hp).mono ?_
    rintro e w5 ⟨rfl, hw5⟩
    replace hw5 := hw4.trans (hw5.mono hw4.size)
    generalize hmm : (⟨(mix3 p.data.toList q.data.toList r.data.toList).toArray⟩ : ByteArray) = mm at *
    have hms : mm.size ≤ 200 := by rw [← hmm]; show (mix3 _ _ _).toArray.size ≤ 200; simpa using HML.out
    clear hmm
    go_wp2_with fail
    refine (of_any k mm _ (hC.below hw5) (by omega)).mono ?_
    rintro e w6 ⟨rfl, hw6⟩
    have HW6 := Lib.hid (hw5.trans (hw6.mono hw5.size))
    rw [HD.out]
    clear hw1 hw2 hw3 hw4 hw5 hw6
    go_wp2_with fail
    refine (mixed_any a b c _ H1.out H2.out h3).mono ?_
    rintro e w7 ⟨rfl, hw7⟩
    have HW7 := Lib.hid (HW6.out.trans (hw7.mono HW6.out.size))
    rw [← H4.out]
    have hdd : (d.toList == d.toList) = true := by simp
    clear hw7
    go_wp2
    go_ret
    exact ⟨rfl, HW7.out⟩

theorem mixed_walk (k : Int) (s t u : ByteArray) (w : World) (hC : CrcOK w) (_ : (Lit.int .i64 k).wf = true) (hs : s.size ≤ maxLen) (ht : t.size ≤ maxLen) (hu : u.size ≤ maxLen) :
    Calls Tryd.prog 6 #[.int .i64 k, .string s, .string t, .string u] w fun e w' => e = .returned (.bool true) ∧ Below w.heap.size w w' := by
  obtain ⟨n, hn⟩ : ∃ n, min (min (min s.size t.size) u.size) 200 = n := ⟨_, rfl⟩
  have zp : (s.extract 0 n).size = n := by rw [ByteArray.size_extract]; omega
  have zq : (t.extract 0 n).size = n := by rw [ByteArray.size_extract]; omega
  have zr : (u.extract 0 n).size = n := by rw [ByteArray.size_extract]; omega
  generalize hp : s.extract 0 n = p at *
  generalize hq : t.extract 0 n = q at *
  generalize hr : u.extract 0 n = r at *
  have lp : p.data.toList.length = p.size := by simp
  have lq : q.data.toList.length = q.size := by simp
  have lr : r.data.toList.length = r.size := by simp
  have hml : (mix3 p.data.toList q.data.toList r.data.toList).length = n := by rw [mix3_length (by omega) (by omega)]; omega
  have sp : ∀ w, (Instr.slice 9 (.string s) none (some (.int .i64 (n : Int))) none).run Tryd.prog w = .ok (.string p) w := fun w => by rw [← hp]; exact sl_to s n (by omega) w
  have sq : ∀ w, (Instr.slice 9 (.string t) none (some (.int .i64 (n : Int))) none).run Tryd.prog w = .ok (.string q) w := fun w => by rw [← hq]; exact sl_to t n (by omega) w
  have sr : ∀ w, (Instr.slice 9 (.string u) none (some (.int .i64 (n : Int))) none).run Tryd.prog w = .ok (.string r) w := fun w => by rw [← hr]; exact sl_to u n (by omega) w
  have key : ∀ (p0 W z : Nat), 8 ≤ W → p0 < 2 ^ W → z ≤ 200 → (∀ x : ByteArray, ofR k x = (⟨(beL (sumT W (tabL p0) x.data.toList) z).toArray⟩, 0)) → Calls Tryd.prog 6 #[.int .i64 k, .string s, .string t, .string u] w fun e w' => e = .returned (.bool true) ∧ Below w.heap.size w w' := by
    intro p0 W z h8 hp0 hz hof
    have hsz : ∀ a : Nat, (⟨(beL a z).toArray⟩ : ByteArray).size = z := fun a => by show (beL a z).toArray.size = z; simp [beL_length]
    refine mixed_of k s t u n p q r _ _ _ _ 0 w hC hn sp sq sr (by omega) (by omega) (by omega) (hof p) (hof q) (hof r) (hof _) (by omega) (.inr ⟨rfl, by rw [hsz, hsz], by rw [hsz, hsz], by rw [hsz]; exact hz, ?_⟩)
    show (⟨(beL (sumT W (tabL p0) (mix3 p.data.toList q.data.toList r.data.toList)) z).toArray⟩ : ByteArray) = ⟨(mix3 (beL _ z) (beL _ z) (beL _ z)).toArray⟩
    rw [sumT_mix h8 hp0 (by omega) (by omega), beL_mix]
  by_cases h0 : k = 0
  · subst h0
    exact mixed_of 0 s t u n p q r ⟨#[]⟩ ⟨#[]⟩ ⟨#[]⟩ ⟨#[]⟩ 0 w hC hn sp sq sr (by omega) (by omega) (by omega) rfl rfl rfl rfl (by omega) (.inr ⟨rfl, rfl, rfl, by decide, rfl⟩)
  by_cases h1 : k = 1
  · subst h1; exact key 33800 16 2 (by omega) (by decide) (by omega) (fun x => rfl)
  by_cases h2 : k = 2
  · subst h2; exact key 2197175160 32 4 (by omega) (by decide) (by omega) (fun x => rfl)
  · exact mixed_of k s t u n p q r ⟨#[]⟩ ⟨#[]⟩ ⟨#[]⟩ ⟨#[]⟩ 2 w hC hn sp sq sr (by omega) (by omega) (by omega) (ofR_no _ h0 h1 h2) (ofR_no _ h0 h1 h2) (ofR_no _ h0 h1 h2) (ofR_no _ h0 h1 h2) (by omega) (.inl rfl)
end Go.Proofs.YtpccbiopljmnlaaDoor
