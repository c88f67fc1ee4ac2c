/- SignsBack: a bundle's flags that go up come down as they were, with their class, and the other way about. -/
import Derived.Test.YtlddkoblicnepaaDoorGRefC
import Derived.OpenShut
set_option linter.unusedVariables false
set_option linter.unusedSimpArgs false
namespace Go.Proofs.YtlddkoblicnepaaDoor
open Go.RowKit Go.Extern.Stop Go.Stop Go.Extern

set_option maxRecDepth 100000 in
set_option maxHeartbeats 8000000 in
theorem back_of (b : Nat → Addr) (x g p a e1 pr h r i d j k l m o : Int) (c cu n : Bool)
    (hU : ∀ w, EnvG b w → Calls Tryd.prog 10 #[.int .i64 x] w fun e w' => e = .returned (.tuple #[.int .i64 a, .int .i64 e1]) ∧ Below w.heap.size w w')
    (hC : ∀ w, EnvG b w → Calls Tryd.prog 14 #[.int .i64 x] w fun e w' => e = .returned (.tuple #[.int .i64 pr, .bool cu, .int .i64 h]) ∧ Below w.heap.size w w')
    (hD : ∀ w, EnvG b w → Calls Tryd.prog 12 #[.int .i64 a, .int .i64 pr, .bool cu] w fun e w' => e = .returned (.tuple #[.int .i64 r, .int .i64 i]) ∧ Below w.heap.size w w')
    (hD2 : ∀ w, EnvG b w → Calls Tryd.prog 12 #[.int .i64 g, .int .i64 p, .bool c] w fun e w' => e = .returned (.tuple #[.int .i64 d, .int .i64 j]) ∧ Below w.heap.size w w')
    (hU2 : ∀ w, EnvG b w → Calls Tryd.prog 10 #[.int .i64 d] w fun e w' => e = .returned (.tuple #[.int .i64 k, .int .i64 l]) ∧ Below w.heap.size w w')
    (hC2 : ∀ w, EnvG b w → Calls Tryd.prog 14 #[.int .i64 d] w fun e w' => e = .returned (.tuple #[.int .i64 m, .bool n, .int .i64 o]) ∧ Below w.heap.size w w')
    (f1 : e1 = 0 → h = 0 ∧ i = 0 ∧ r = x) (f2 : e1 ≠ 0 → a = 0) (f3 : j ≠ 0 → d = 0) (f4 : j = 0 → l = 0 ∧ k = g ∧ o = 0 ∧ m = p ∧ n = c) (w : World) (hE : EnvG b w) :
    Calls Tryd.prog 5 #[.int .i64 x, .int .i64 g, .int .i64 p, .bool c] w fun e w' => e = .returned (.bool true) ∧ Below w.heap.size w w' := by
  have HU := Lib.hid hU
  have HC := Lib.hid hC
  have HD := Lib.hid hD
  have HD2 := Lib.hid hD2
  have HU2 := Lib.hid hU2
  have HC2 := Lib.hid hC2
  clear hU hC hD hD2 hU2 hC2
  by_cases he : e1 = 0
  · obtain ⟨rfl, rfl, rfl⟩ := f1 he
    subst he
    clear f1 f2
    by_cases hj : j = 0
    · obtain ⟨rfl, rfl, rfl, rfl, rfl⟩ := f4 hj
      subst hj
      clear f3 f4
      go_enter Tryd.func5, Tryd.ntmps5
      go_wp2_with fail
      refine (gshown_any b _ hE).mono ?_
      rintro e w1 ⟨rfl, hb1⟩
      go_wp2_with fail
      refine (HU.out _ (hE.below hb1)).mono ?_
      rintro e w2 ⟨rfl, hb⟩
      have hb2 := hb1.trans (hb.mono hb1.size)
      clear hb hb1
      go_wp2_with fail
      refine (HC.out _ (hE.below hb2)).mono ?_
      rintro e w3 ⟨rfl, hb⟩
      have hb3 := hb2.trans (hb.mono hb2.size)
      clear hb hb2
      go_wp2_with fail
      refine (HD.out _ (hE.below hb3)).mono ?_
      rintro e w4 ⟨rfl, hb⟩
      have hb4 := hb3.trans (hb.mono hb3.size)
      clear hb hb3
      go_wp2_with fail
      refine (HD2.out _ (hE.below hb4)).mono ?_
      rintro e w5 ⟨rfl, hb⟩
      have hb5 := hb4.trans (hb.mono hb4.size)
      clear hb hb4
      go_wp2_with fail
      refine (HU2.out _ (hE.below hb5)).mono ?_
      rintro e w6 ⟨rfl, hb⟩
      have hb6 := hb5.trans (hb.mono hb5.size)
      clear hb hb5
      go_wp2_with fail
      refine (HC2.out _ (hE.below hb6)).mono ?_
      rintro e w7 ⟨rfl, hb⟩
      have hb7 := hb6.trans (hb.mono hb6.size)
      clear hb hb6
      go_wp2
      go_ret
      exact ⟨rfl, hb7⟩
    · obtain rfl := f3 hj
      have qj0 : (j == 0) = false := by simpa using hj
      have qj1 : (j != 0) = true := by simpa using hj
      clear f3 f4 hj
      go_enter Tryd.func5, Tryd.ntmps5
      go_wp2_with fail
      refine (gshown_any b _ hE).mono ?_
      rintro e w1 ⟨rfl, hb1⟩
      go_wp2_with fail
      refine (HU.out _ (hE.below hb1)).mono ?_
      rintro e w2 ⟨rfl, hb⟩
      have hb2 := hb1.trans (hb.mono hb1.size)
      clear hb hb1
      go_wp2_with fail
      refine (HC.out _ (hE.below hb2)).mono ?_
      rintro e w3 ⟨rfl, hb⟩
      have hb3 := hb2.trans (hb.mono hb2.size)
      clear hb hb2
      go_wp2_with fail
      refine (HD.out _ (hE.below hb3)).mono ?_
      rintro e w4 ⟨rfl, hb⟩
      have hb4 := hb3.trans (hb.mono hb3.size)
      clear hb hb3
      go_wp2_with fail
      refine (HD2.out _ (hE.below hb4)).mono ?_
      rintro e w5 ⟨rfl, hb⟩
      have hb5 := hb4.trans (hb.mono hb4.size)
      clear hb hb4
      go_wp2_with fail
      refine (HU2.out _ (hE.below hb5)).mono ?_
      rintro e w6 ⟨rfl, hb⟩
      have hb6 := hb5.trans (hb.mono hb5.size)
      clear hb hb5
      go_wp2_with fail
      refine (HC2.out _ (hE.below hb6)).mono ?_
      rintro e w7 ⟨rfl, hb⟩
      have hb7 := hb6.trans (hb.mono hb6.size)
      clear hb hb6
      go_wp2
      go_ret
      exact ⟨rfl, hb7⟩
  · obtain rfl := f2 he
    have qe0 : (e1 == 0) = false := by simpa using he
    clear f1 f2 he
    by_cases hj : j = 0
    · obtain ⟨rfl, rfl, rfl, rfl, rfl⟩ := f4 hj
      subst hj
      clear f3 f4
      go_enter Tryd.func5, Tryd.ntmps5
      go_wp2_with fail
      refine (gshown_any b _ hE).mono ?_
      rintro e w1 ⟨rfl, hb1⟩
      go_wp2_with fail
      refine (HU.out _ (hE.below hb1)).mono ?_
      rintro e w2 ⟨rfl, hb⟩
      have hb2 := hb1.trans (hb.mono hb1.size)
      clear hb hb1
      go_wp2_with fail
      refine (HC.out _ (hE.below hb2)).mono ?_
      rintro e w3 ⟨rfl, hb⟩
      have hb3 := hb2.trans (hb.mono hb2.size)
      clear hb hb2
      go_wp2_with fail
      refine (HD.out _ (hE.below hb3)).mono ?_
      rintro e w4 ⟨rfl, hb⟩
      have hb4 := hb3.trans (hb.mono hb3.size)
      clear hb hb3
      go_wp2_with fail
      refine (HD2.out _ (hE.below hb4)).mono ?_
      rintro e w5 ⟨rfl, hb⟩
      have hb5 := hb4.trans (hb.mono hb4.size)
      clear hb hb4
      go_wp2_with fail
      refine (HU2.out _ (hE.below hb5)).mono ?_
      rintro e w6 ⟨rfl, hb⟩
      have hb6 := hb5.trans (hb.mono hb5.size)
      clear hb hb5
      go_wp2_with fail
      refine (HC2.out _ (hE.below hb6)).mono ?_
      rintro e w7 ⟨rfl, hb⟩
      have hb7 := hb6.trans (hb.mono hb6.size)
      clear hb hb6
      go_wp2
      go_ret
      exact ⟨rfl, hb7⟩
    · obtain rfl := f3 hj
      have qj0 : (j == 0) = false := by simpa using hj
      have qj1 : (j != 0) = true := by simpa using hj
      clear f3 f4 hj
      go_enter Tryd.func5, Tryd.ntmps5
      go_wp2_with fail
      refine (gshown_any b _ hE).mono ?_
      rintro e w1 ⟨rfl, hb1⟩
      go_wp2_with fail
      refine (HU.out _ (hE.below hb1)).mono ?_
      rintro e w2 ⟨rfl, hb⟩
      have hb2 := hb1.trans (hb.mono hb1.size)
      clear hb hb1
      go_wp2_with fail
      refine (HC.out _ (hE.below hb2)).mono ?_
      rintro e w3 ⟨rfl, hb⟩
      have hb3 := hb2.trans (hb.mono hb2.size)
      clear hb hb2
      go_wp2_with fail
      refine (HD.out _ (hE.below hb3)).mono ?_
      rintro e w4 ⟨rfl, hb⟩
      have hb4 := hb3.trans (hb.mono hb3.size)
      clear hb hb3
      go_wp2_with fail
      refine (HD2.out _ (hE.below hb4)).mono ?_
      rintro e w5 ⟨rfl, hb⟩
      have hb5 := hb4.trans (hb.mono hb4.size)
      clear hb hb4
      go_wp2_with fail
      refine (HU2.out _ (hE.below hb5)).mono ?_
      rintro e w6 ⟨rfl, hb⟩
      have hb6 := hb5.trans (hb.mono hb5.size)
      clear hb hb5
      go_wp2_with fail
      refine (HC2.out _ (hE.below hb6)).mono ?_
      rintro e w7 ⟨rfl, hb⟩
      have hb7 := hb6.trans (hb.mono hb6.size)
      clear hb hb6
      go_wp2
      go_ret
      exact ⟨rfl, hb7⟩

theorem ans_bad {o : Option Nat} {n : Int} (h : errG o ≠ 0) : ansG o n = 0 := by
  cases o with
  | none => exact absurd rfl h
  | some i => rfl
theorem err_none {o : Option Nat} (hl : ∀ i, o = some i → i < 8) (h : errG o = 0) : o = none := by
  cases o with
  | none => rfl
  | some i =>
    exfalso
    have h8 := hl i rfl
    have : ∀ i : Fin 8, codeG i.val ≠ 0 := by decide
    exact this ⟨i, h8⟩ h

theorem sback_walk (f g p : Int) (c : Bool) (w : World) (hE : ∃ b, EnvG b w) (hf : (Lit.int .i64 f).wf = true) (hg : (Lit.int .i64 g).wf = true) (_ : (Lit.int .i64 p).wf = true) :
    Calls Tryd.prog 5 #[.int .i64 f, .int .i64 g, .int .i64 p, .bool c] w fun e w' => e = .returned (.bool true) ∧ Below w.heap.size w w' := by
  obtain ⟨b, hE⟩ := hE
  obtain ⟨X, rfl⟩ := of_i64 (bounds_i64 hf).1 (bounds_i64 hf).2
  obtain ⟨G, rfl⟩ := of_i64 (bounds_i64 hg).1 (bounds_i64 hg).2
  obtain ⟨A, hA⟩ : ∃ A, ansG (upO X) (tI (upF X)) = tI A := by
    unfold ansG
    cases (upO X).isSome
    · exact ⟨_, rfl⟩
    · exact ⟨0#64, rfl⟩
  obtain ⟨D, hD⟩ : ∃ D, ansG (downO G p) (tI (downF G p c)) = tI D := by
    unfold ansG
    cases (downO G p).isSome
    · exact ⟨_, rfl⟩
    · exact ⟨0#64, rfl⟩
  refine back_of b _ _ p (tI A) _ _ _ _ _ (tI D) _ _ _ _ _ c _ _ (fun w h => hA ▸ Up_any b X w h) (fun w h => Class_any b X w h) (fun w h => Down_any b A _ _ w h) (fun w h => hD ▸ Down_any b G p c w h) (fun w h => Up_any b D w h) (fun w h => Class_any b D w h) ?_ ?_ ?_ ?_ w hE
  · intro h
    have hn := err_none (upO_lt X) h
    obtain ⟨h1, h2⟩ := back_up hn
    have hr := (up_parts hn).1
    rw [hn] at hA
    have hA : upF X = A := tI_inj hA
    subst hA
    rw [hr]
    show (0 : Int) = 0 ∧ errG (downO (upF X) (prioI X)) = 0 ∧ ansG (downO (upF X) (prioI X)) (tI (downF (upF X) (prioI X) (!(X &&& 8#64 == 0#64)))) = tI X
    have e : downO (upF X) (prioI X) = none ∧ downF (upF X) (prioI X) (!(X &&& 8#64 == 0#64)) = X := ⟨h1, h2⟩
    rw [e.1, e.2]
    exact ⟨rfl, rfl, rfl⟩
  · intro h
    rw [← hA]
    exact ans_bad h
  · intro h
    rw [← hD]
    exact ans_bad h
  · intro h
    have hn := err_none (downO_lt G p) h
    obtain ⟨h1, h2, h3, h4, h5⟩ := back_down c hn
    rw [hn] at hD
    have hD : downF G p c = D := tI_inj hD
    subst hD
    unfold custB at h5
    rw [h1, h2, h3, h4, h5]
    exact ⟨rfl, rfl, rfl, rfl, rfl⟩
end Go.Proofs.YtlddkoblicnepaaDoor
