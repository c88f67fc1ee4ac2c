/- SignsTurns: a block's flags, and times, that go up come down as they were, and the other way about. -/
import Derived.Test.YtlddkoblicnepaaDoorGLBack
import Derived.Test.YtlddkoblicnepaaDoorGLMarks
import Derived.OpenShut
set_option linter.unusedVariables false
set_option linter.unusedSimpArgs false
namespace Go.Proofs.YtlddkoblicnepaaDoor
open Go.RowKit Go.Extern.Stop Go.Stop Go.Extern

set_option maxRecDepth 100000 in
set_option maxHeartbeats 8000000 in
theorem turns_of (b : Nat → Addr) (x g n y8 a e1 r h c i d j k l m o p q s t : Int) (last la : Bool)
    (hx : bits .and .i64 x 8 = y8) (hla : (y8 != 0) = la)
    (hU : ∀ w, EnvG b w → Calls Tryd.prog 16 #[.int .i64 x] w fun e w' => e = .returned (.tuple #[.int .i64 a, .int .i64 e1]) ∧ Below w.heap.size w w')
    (hD : ∀ w, EnvG b w → Calls Tryd.prog 18 #[.int .i64 a, .bool la] w fun e w' => e = .returned (.tuple #[.int .i64 r, .int .i64 h]) ∧ Below w.heap.size w w')
    (hD2 : ∀ w, EnvG b w → Calls Tryd.prog 18 #[.int .i64 g, .bool last] w fun e w' => e = .returned (.tuple #[.int .i64 c, .int .i64 i]) ∧ Below w.heap.size w w')
    (hU2 : ∀ w, EnvG b w → Calls Tryd.prog 16 #[.int .i64 c] w fun e w' => e = .returned (.tuple #[.int .i64 d, .int .i64 j]) ∧ Below w.heap.size w w')
    (hM : ∀ w, EnvG b w → Calls Tryd.prog 20 #[.int .i64 n] w fun e w' => e = .returned (.tuple #[.int .i64 k, .int .i64 l]) ∧ Below w.heap.size w w')
    (hS : ∀ w, EnvG b w → Calls Tryd.prog 22 #[.int .i64 k] w fun e w' => e = .returned (.tuple #[.int .i64 m, .int .i64 o]) ∧ Below w.heap.size w w')
    (hS2 : ∀ w, EnvG b w → Calls Tryd.prog 22 #[.int .i64 n] w fun e w' => e = .returned (.tuple #[.int .i64 p, .int .i64 q]) ∧ Below w.heap.size w w')
    (hM2 : ∀ w, EnvG b w → Calls Tryd.prog 20 #[.int .i64 p] w fun e w' => e = .returned (.tuple #[.int .i64 s, .int .i64 t]) ∧ Below w.heap.size w w')
    (hR : ∀ w, Calls Tryd.prog 24 #[.int .i64 k] w fun e w' => e = .returned (.bool (rightB k)) ∧ w = w')
    (f1 : e1 = 0 → h = 0 ∧ r = x) (f2 : i = 0 → j = 0 ∧ d = g) (f3 : l = 0 → rightB k = true ∧ o = 0 ∧ m = n) (f4 : q = 0 → t = 0 ∧ s = n) (w : World) (hE : EnvG b w) :
    Calls Tryd.prog 6 #[.int .i64 x, .int .i64 g, .int .i64 n, .bool last] w fun e w' => e = .returned (.bool true) ∧ Below w.heap.size w w' := by
  have HU := Lib.hid hU
  have HD := Lib.hid hD
  have HD2 := Lib.hid hD2
  have HU2 := Lib.hid hU2
  have HM := Lib.hid hM
  have HS := Lib.hid hS
  have HS2 := Lib.hid hS2
  have HM2 := Lib.hid hM2
  have HR := Lib.hid hR
  clear hU hD hD2 hU2 hM hS hS2 hM2 hR
  by_cases he : e1 = 0
  · obtain ⟨rfl, rfl⟩ := f1 he
    subst he
    clear f1
    by_cases hi : i = 0
    · obtain ⟨rfl, rfl⟩ := f2 hi
      subst hi
      clear f2
      by_cases hl : l = 0
      · obtain ⟨hk, rfl, rfl⟩ := f3 hl
        rw [hk] at HR
        subst hl
        clear f3 hk
        by_cases hq : q = 0
        · obtain ⟨rfl, rfl⟩ := f4 hq
          subst hq
          clear f4
          go_enter Tryd.func6, Tryd.ntmps6
          go_wp2_with fail
          refine (gshown_any b _ hE).mono ?_
          rintro e w1 ⟨rfl, hb1⟩
          go_wp2_with fail
          refine (HU.out _ (hE.below hb1)).mono ?_
          rintro e w2 ⟨rfl, hb⟩
          have hb2 := hb1.trans (hb.mono hb1.size)
          clear hb hb1
          go_wp2_with fail
          refine (HD.out _ (hE.below hb2)).mono ?_
          rintro e w3 ⟨rfl, hb⟩
          have hb3 := hb2.trans (hb.mono hb2.size)
          clear hb hb2
          go_wp2_with fail
          refine (HD2.out _ (hE.below hb3)).mono ?_
          rintro e w4 ⟨rfl, hb⟩
          have hb4 := hb3.trans (hb.mono hb3.size)
          clear hb hb3
          go_wp2_with fail
          refine (HU2.out _ (hE.below hb4)).mono ?_
          rintro e w5 ⟨rfl, hb⟩
          have hb5 := hb4.trans (hb.mono hb4.size)
          clear hb hb4
          go_wp2_with fail
          refine (HM.out _ (hE.below hb5)).mono ?_
          rintro e w6 ⟨rfl, hb⟩
          have hb6 := hb5.trans (hb.mono hb5.size)
          clear hb hb5
          go_wp2_with fail
          refine (HS.out _ (hE.below hb6)).mono ?_
          rintro e w7 ⟨rfl, hb⟩
          have hb7 := hb6.trans (hb.mono hb6.size)
          clear hb hb6
          go_wp2_with fail
          refine (HS2.out _ (hE.below hb7)).mono ?_
          rintro e w8 ⟨rfl, hb⟩
          have hb8 := hb7.trans (hb.mono hb7.size)
          clear hb hb7
          go_wp2_with fail
          refine (HM2.out _ (hE.below hb8)).mono ?_
          rintro e w9 ⟨rfl, hb⟩
          have hb9 := hb8.trans (hb.mono hb8.size)
          clear hb hb8
          go_wp2_with fail
          refine (HR.out _).mono ?_
          rintro e w' ⟨rfl, rfl⟩
          go_wp2
          go_ret
          exact ⟨rfl, hb9⟩
        · clear f4
          have qq0 : (q == 0) = false := by simpa using hq
          have qq1 : (q != 0) = true := by simpa using hq
          clear hq
          go_enter Tryd.func6, Tryd.ntmps6
          go_wp2_with fail
          refine (gshown_any b _ hE).mono ?_
          rintro e w1 ⟨rfl, hb1⟩
          go_wp2_with fail
          refine (HU.out _ (hE.below hb1)).mono ?_
          rintro e w2 ⟨rfl, hb⟩
          have hb2 := hb1.trans (hb.mono hb1.size)
          clear hb hb1
          go_wp2_with fail
          refine (HD.out _ (hE.below hb2)).mono ?_
          rintro e w3 ⟨rfl, hb⟩
          have hb3 := hb2.trans (hb.mono hb2.size)
          clear hb hb2
          go_wp2_with fail
          refine (HD2.out _ (hE.below hb3)).mono ?_
          rintro e w4 ⟨rfl, hb⟩
          have hb4 := hb3.trans (hb.mono hb3.size)
          clear hb hb3
          go_wp2_with fail
          refine (HU2.out _ (hE.below hb4)).mono ?_
          rintro e w5 ⟨rfl, hb⟩
          have hb5 := hb4.trans (hb.mono hb4.size)
          clear hb hb4
          go_wp2_with fail
          refine (HM.out _ (hE.below hb5)).mono ?_
          rintro e w6 ⟨rfl, hb⟩
          have hb6 := hb5.trans (hb.mono hb5.size)
          clear hb hb5
          go_wp2_with fail
          refine (HS.out _ (hE.below hb6)).mono ?_
          rintro e w7 ⟨rfl, hb⟩
          have hb7 := hb6.trans (hb.mono hb6.size)
          clear hb hb6
          go_wp2_with fail
          refine (HS2.out _ (hE.below hb7)).mono ?_
          rintro e w8 ⟨rfl, hb⟩
          have hb8 := hb7.trans (hb.mono hb7.size)
          clear hb hb7
          go_wp2_with fail
          refine (HM2.out _ (hE.below hb8)).mono ?_
          rintro e w9 ⟨rfl, hb⟩
          have hb9 := hb8.trans (hb.mono hb8.size)
          clear hb hb8
          go_wp2_with fail
          refine (HR.out _).mono ?_
          rintro e w' ⟨rfl, rfl⟩
          go_wp2
          go_ret
          exact ⟨rfl, hb9⟩
      · clear f3
        have ql0 : (l == 0) = false := by simpa using hl
        have ql1 : (l != 0) = true := by simpa using hl
        clear hl
        by_cases hq : q = 0
        · obtain ⟨rfl, rfl⟩ := f4 hq
          subst hq
          clear f4
          go_enter Tryd.func6, Tryd.ntmps6
          go_wp2_with fail
          refine (gshown_any b _ hE).mono ?_
          rintro e w1 ⟨rfl, hb1⟩
          go_wp2_with fail
          refine (HU.out _ (hE.below hb1)).mono ?_
          rintro e w2 ⟨rfl, hb⟩
          have hb2 := hb1.trans (hb.mono hb1.size)
          clear hb hb1
          go_wp2_with fail
          refine (HD.out _ (hE.below hb2)).mono ?_
          rintro e w3 ⟨rfl, hb⟩
          have hb3 := hb2.trans (hb.mono hb2.size)
          clear hb hb2
          go_wp2_with fail
          refine (HD2.out _ (hE.below hb3)).mono ?_
          rintro e w4 ⟨rfl, hb⟩
          have hb4 := hb3.trans (hb.mono hb3.size)
          clear hb hb3
          go_wp2_with fail
          refine (HU2.out _ (hE.below hb4)).mono ?_
          rintro e w5 ⟨rfl, hb⟩
          have hb5 := hb4.trans (hb.mono hb4.size)
          clear hb hb4
          go_wp2_with fail
          refine (HM.out _ (hE.below hb5)).mono ?_
          rintro e w6 ⟨rfl, hb⟩
          have hb6 := hb5.trans (hb.mono hb5.size)
          clear hb hb5
          go_wp2_with fail
          refine (HS.out _ (hE.below hb6)).mono ?_
          rintro e w7 ⟨rfl, hb⟩
          have hb7 := hb6.trans (hb.mono hb6.size)
          clear hb hb6
          go_wp2_with fail
          refine (HS2.out _ (hE.below hb7)).mono ?_
          rintro e w8 ⟨rfl, hb⟩
          have hb8 := hb7.trans (hb.mono hb7.size)
          clear hb hb7
          go_wp2_with fail
          refine (HM2.out _ (hE.below hb8)).mono ?_
          rintro e w9 ⟨rfl, hb⟩
          have hb9 := hb8.trans (hb.mono hb8.size)
          clear hb hb8
          go_wp2
          go_ret
          exact ⟨rfl, hb9⟩
        · clear f4
          have qq0 : (q == 0) = false := by simpa using hq
          have qq1 : (q != 0) = true := by simpa using hq
          clear hq
          go_enter Tryd.func6, Tryd.ntmps6
          go_wp2_with fail
          refine (gshown_any b _ hE).mono ?_
          rintro e w1 ⟨rfl, hb1⟩
          go_wp2_with fail
          refine (HU.out _ (hE.below hb1)).mono ?_
          rintro e w2 ⟨rfl, hb⟩
          have hb2 := hb1.trans (hb.mono hb1.size)
          clear hb hb1
          go_wp2_with fail
          refine (HD.out _ (hE.below hb2)).mono ?_
          rintro e w3 ⟨rfl, hb⟩
          have hb3 := hb2.trans (hb.mono hb2.size)
          clear hb hb2
          go_wp2_with fail
          refine (HD2.out _ (hE.below hb3)).mono ?_
          rintro e w4 ⟨rfl, hb⟩
          have hb4 := hb3.trans (hb.mono hb3.size)
          clear hb hb3
          go_wp2_with fail
          refine (HU2.out _ (hE.below hb4)).mono ?_
          rintro e w5 ⟨rfl, hb⟩
          have hb5 := hb4.trans (hb.mono hb4.size)
          clear hb hb4
          go_wp2_with fail
          refine (HM.out _ (hE.below hb5)).mono ?_
          rintro e w6 ⟨rfl, hb⟩
          have hb6 := hb5.trans (hb.mono hb5.size)
          clear hb hb5
          go_wp2_with fail
          refine (HS.out _ (hE.below hb6)).mono ?_
          rintro e w7 ⟨rfl, hb⟩
          have hb7 := hb6.trans (hb.mono hb6.size)
          clear hb hb6
          go_wp2_with fail
          refine (HS2.out _ (hE.below hb7)).mono ?_
          rintro e w8 ⟨rfl, hb⟩
          have hb8 := hb7.trans (hb.mono hb7.size)
          clear hb hb7
          go_wp2_with fail
          refine (HM2.out _ (hE.below hb8)).mono ?_
          rintro e w9 ⟨rfl, hb⟩
          have hb9 := hb8.trans (hb.mono hb8.size)
          clear hb hb8
          go_wp2
          go_ret
          exact ⟨rfl, hb9⟩
    · clear f2
      have qi0 : (i == 0) = false := by simpa using hi
      have qi1 : (i != 0) = true := by simpa using hi
      clear hi
      by_cases hl : l = 0
      · obtain ⟨hk, rfl, rfl⟩ := f3 hl
        rw [hk] at HR
        subst hl
        clear f3 hk
        by_cases hq : q = 0
        · obtain ⟨rfl, rfl⟩ := f4 hq
          subst hq
          clear f4
          go_enter Tryd.func6, Tryd.ntmps6
          go_wp2_with fail
          refine (gshown_any b _ hE).mono ?_
          rintro e w1 ⟨rfl, hb1⟩
          go_wp2_with fail
          refine (HU.out _ (hE.below hb1)).mono ?_
          rintro e w2 ⟨rfl, hb⟩
          have hb2 := hb1.trans (hb.mono hb1.size)
          clear hb hb1
          go_wp2_with fail
          refine (HD.out _ (hE.below hb2)).mono ?_
          rintro e w3 ⟨rfl, hb⟩
          have hb3 := hb2.trans (hb.mono hb2.size)
          clear hb hb2
          go_wp2_with fail
          refine (HD2.out _ (hE.below hb3)).mono ?_
          rintro e w4 ⟨rfl, hb⟩
          have hb4 := hb3.trans (hb.mono hb3.size)
          clear hb hb3
          go_wp2_with fail
          refine (HU2.out _ (hE.below hb4)).mono ?_
          rintro e w5 ⟨rfl, hb⟩
          have hb5 := hb4.trans (hb.mono hb4.size)
          clear hb hb4
          go_wp2_with fail
          refine (HM.out _ (hE.below hb5)).mono ?_
          rintro e w6 ⟨rfl, hb⟩
          have hb6 := hb5.trans (hb.mono hb5.size)
          clear hb hb5
          go_wp2_with fail
          refine (HS.out _ (hE.below hb6)).mono ?_
          rintro e w7 ⟨rfl, hb⟩
          have hb7 := hb6.trans (hb.mono hb6.size)
          clear hb hb6
          go_wp2_with fail
          refine (HS2.out _ (hE.below hb7)).mono ?_
          rintro e w8 ⟨rfl, hb⟩
          have hb8 := hb7.trans (hb.mono hb7.size)
          clear hb hb7
          go_wp2_with fail
          refine (HM2.out _ (hE.below hb8)).mono ?_
          rintro e w9 ⟨rfl, hb⟩
          have hb9 := hb8.trans (hb.mono hb8.size)
          clear hb hb8
          go_wp2_with fail
          refine (HR.out _).mono ?_
          rintro e w' ⟨rfl, rfl⟩
          go_wp2
          go_ret
          exact ⟨rfl, hb9⟩
        · clear f4
          have qq0 : (q == 0) = false := by simpa using hq
          have qq1 : (q != 0) = true := by simpa using hq
          clear hq
          go_enter Tryd.func6, Tryd.ntmps6
          go_wp2_with fail
          refine (gshown_any b _ hE).mono ?_
          rintro e w1 ⟨rfl, hb1⟩
          go_wp2_with fail
          refine (HU.out _ (hE.below hb1)).mono ?_
          rintro e w2 ⟨rfl, hb⟩
          have hb2 := hb1.trans (hb.mono hb1.size)
          clear hb hb1
          go_wp2_with fail
          refine (HD.out _ (hE.below hb2)).mono ?_
          rintro e w3 ⟨rfl, hb⟩
          have hb3 := hb2.trans (hb.mono hb2.size)
          clear hb hb2
          go_wp2_with fail
          refine (HD2.out _ (hE.below hb3)).mono ?_
          rintro e w4 ⟨rfl, hb⟩
          have hb4 := hb3.trans (hb.mono hb3.size)
          clear hb hb3
          go_wp2_with fail
          refine (HU2.out _ (hE.below hb4)).mono ?_
          rintro e w5 ⟨rfl, hb⟩
          have hb5 := hb4.trans (hb.mono hb4.size)
          clear hb hb4
          go_wp2_with fail
          refine (HM.out _ (hE.below hb5)).mono ?_
          rintro e w6 ⟨rfl, hb⟩
          have hb6 := hb5.trans (hb.mono hb5.size)
          clear hb hb5
          go_wp2_with fail
          refine (HS.out _ (hE.below hb6)).mono ?_
          rintro e w7 ⟨rfl, hb⟩
          have hb7 := hb6.trans (hb.mono hb6.size)
          clear hb hb6
          go_wp2_with fail
          refine (HS2.out _ (hE.below hb7)).mono ?_
          rintro e w8 ⟨rfl, hb⟩
          have hb8 := hb7.trans (hb.mono hb7.size)
          clear hb hb7
          go_wp2_with fail
          refine (HM2.out _ (hE.below hb8)).mono ?_
          rintro e w9 ⟨rfl, hb⟩
          have hb9 := hb8.trans (hb.mono hb8.size)
          clear hb hb8
          go_wp2_with fail
          refine (HR.out _).mono ?_
          rintro e w' ⟨rfl, rfl⟩
          go_wp2
          go_ret
          exact ⟨rfl, hb9⟩
      · clear f3
        have ql0 : (l == 0) = false := by simpa using hl
        have ql1 : (l != 0) = true := by simpa using hl
        clear hl
        by_cases hq : q = 0
        · obtain ⟨rfl, rfl⟩ := f4 hq
          subst hq
          clear f4
          go_enter Tryd.func6, Tryd.ntmps6
          go_wp2_with fail
          refine (gshown_any b _ hE).mono ?_
          rintro e w1 ⟨rfl, hb1⟩
          go_wp2_with fail
          refine (HU.out _ (hE.below hb1)).mono ?_
          rintro e w2 ⟨rfl, hb⟩
          have hb2 := hb1.trans (hb.mono hb1.size)
          clear hb hb1
          go_wp2_with fail
          refine (HD.out _ (hE.below hb2)).mono ?_
          rintro e w3 ⟨rfl, hb⟩
          have hb3 := hb2.trans (hb.mono hb2.size)
          clear hb hb2
          go_wp2_with fail
          refine (HD2.out _ (hE.below hb3)).mono ?_
          rintro e w4 ⟨rfl, hb⟩
          have hb4 := hb3.trans (hb.mono hb3.size)
          clear hb hb3
          go_wp2_with fail
          refine (HU2.out _ (hE.below hb4)).mono ?_
          rintro e w5 ⟨rfl, hb⟩
          have hb5 := hb4.trans (hb.mono hb4.size)
          clear hb hb4
          go_wp2_with fail
          refine (HM.out _ (hE.below hb5)).mono ?_
          rintro e w6 ⟨rfl, hb⟩
          have hb6 := hb5.trans (hb.mono hb5.size)
          clear hb hb5
          go_wp2_with fail
          refine (HS.out _ (hE.below hb6)).mono ?_
          rintro e w7 ⟨rfl, hb⟩
          have hb7 := hb6.trans (hb.mono hb6.size)
          clear hb hb6
          go_wp2_with fail
          refine (HS2.out _ (hE.below hb7)).mono ?_
          rintro e w8 ⟨rfl, hb⟩
          have hb8 := hb7.trans (hb.mono hb7.size)
          clear hb hb7
          go_wp2_with fail
          refine (HM2.out _ (hE.below hb8)).mono ?_
          rintro e w9 ⟨rfl, hb⟩
          have hb9 := hb8.trans (hb.mono hb8.size)
          clear hb hb8
          go_wp2
          go_ret
          exact ⟨rfl, hb9⟩
        · clear f4
          have qq0 : (q == 0) = false := by simpa using hq
          have qq1 : (q != 0) = true := by simpa using hq
          clear hq
          go_enter Tryd.func6, Tryd.ntmps6
          go_wp2_with fail
          refine (gshown_any b _ hE).mono ?_
          rintro e w1 ⟨rfl, hb1⟩
          go_wp2_with fail
          refine (HU.out _ (hE.below hb1)).mono ?_
          rintro e w2 ⟨rfl, hb⟩
          have hb2 := hb1.trans (hb.mono hb1.size)
          clear hb hb1
          go_wp2_with fail
          refine (HD.out _ (hE.below hb2)).mono ?_
          rintro e w3 ⟨rfl, hb⟩
          have hb3 := hb2.trans (hb.mono hb2.size)
          clear hb hb2
          go_wp2_with fail
          refine (HD2.out _ (hE.below hb3)).mono ?_
          rintro e w4 ⟨rfl, hb⟩
          have hb4 := hb3.trans (hb.mono hb3.size)
          clear hb hb3
          go_wp2_with fail
          refine (HU2.out _ (hE.below hb4)).mono ?_
          rintro e w5 ⟨rfl, hb⟩
          have hb5 := hb4.trans (hb.mono hb4.size)
          clear hb hb4
          go_wp2_with fail
          refine (HM.out _ (hE.below hb5)).mono ?_
          rintro e w6 ⟨rfl, hb⟩
          have hb6 := hb5.trans (hb.mono hb5.size)
          clear hb hb5
          go_wp2_with fail
          refine (HS.out _ (hE.below hb6)).mono ?_
          rintro e w7 ⟨rfl, hb⟩
          have hb7 := hb6.trans (hb.mono hb6.size)
          clear hb hb6
          go_wp2_with fail
          refine (HS2.out _ (hE.below hb7)).mono ?_
          rintro e w8 ⟨rfl, hb⟩
          have hb8 := hb7.trans (hb.mono hb7.size)
          clear hb hb7
          go_wp2_with fail
          refine (HM2.out _ (hE.below hb8)).mono ?_
          rintro e w9 ⟨rfl, hb⟩
          have hb9 := hb8.trans (hb.mono hb8.size)
          clear hb hb8
          go_wp2
          go_ret
          exact ⟨rfl, hb9⟩
  · clear f1
    have qe0 : (e1 == 0) = false := by simpa using he
    clear he
    by_cases hi : i = 0
    · obtain ⟨rfl, rfl⟩ := f2 hi
      subst hi
      clear f2
      by_cases hl : l = 0
      · obtain ⟨hk, rfl, rfl⟩ := f3 hl
        rw [hk] at HR
        subst hl
        clear f3 hk
        by_cases hq : q = 0
        · obtain ⟨rfl, rfl⟩ := f4 hq
          subst hq
          clear f4
          go_enter Tryd.func6, Tryd.ntmps6
          go_wp2_with fail
          refine (gshown_any b _ hE).mono ?_
          rintro e w1 ⟨rfl, hb1⟩
          go_wp2_with fail
          refine (HU.out _ (hE.below hb1)).mono ?_
          rintro e w2 ⟨rfl, hb⟩
          have hb2 := hb1.trans (hb.mono hb1.size)
          clear hb hb1
          go_wp2_with fail
          refine (HD.out _ (hE.below hb2)).mono ?_
          rintro e w3 ⟨rfl, hb⟩
          have hb3 := hb2.trans (hb.mono hb2.size)
          clear hb hb2
          go_wp2_with fail
          refine (HD2.out _ (hE.below hb3)).mono ?_
          rintro e w4 ⟨rfl, hb⟩
          have hb4 := hb3.trans (hb.mono hb3.size)
          clear hb hb3
          go_wp2_with fail
          refine (HU2.out _ (hE.below hb4)).mono ?_
          rintro e w5 ⟨rfl, hb⟩
          have hb5 := hb4.trans (hb.mono hb4.size)
          clear hb hb4
          go_wp2_with fail
          refine (HM.out _ (hE.below hb5)).mono ?_
          rintro e w6 ⟨rfl, hb⟩
          have hb6 := hb5.trans (hb.mono hb5.size)
          clear hb hb5
          go_wp2_with fail
          refine (HS.out _ (hE.below hb6)).mono ?_
          rintro e w7 ⟨rfl, hb⟩
          have hb7 := hb6.trans (hb.mono hb6.size)
          clear hb hb6
          go_wp2_with fail
          refine (HS2.out _ (hE.below hb7)).mono ?_
          rintro e w8 ⟨rfl, hb⟩
          have hb8 := hb7.trans (hb.mono hb7.size)
          clear hb hb7
          go_wp2_with fail
          refine (HM2.out _ (hE.below hb8)).mono ?_
          rintro e w9 ⟨rfl, hb⟩
          have hb9 := hb8.trans (hb.mono hb8.size)
          clear hb hb8
          go_wp2_with fail
          refine (HR.out _).mono ?_
          rintro e w' ⟨rfl, rfl⟩
          go_wp2
          go_ret
          exact ⟨rfl, hb9⟩
        · clear f4
          have qq0 : (q == 0) = false := by simpa using hq
          have qq1 : (q != 0) = true := by simpa using hq
          clear hq
          go_enter Tryd.func6, Tryd.ntmps6
          go_wp2_with fail
          refine (gshown_any b _ hE).mono ?_
          rintro e w1 ⟨rfl, hb1⟩
          go_wp2_with fail
          refine (HU.out _ (hE.below hb1)).mono ?_
          rintro e w2 ⟨rfl, hb⟩
          have hb2 := hb1.trans (hb.mono hb1.size)
          clear hb hb1
          go_wp2_with fail
          refine (HD.out _ (hE.below hb2)).mono ?_
          rintro e w3 ⟨rfl, hb⟩
          have hb3 := hb2.trans (hb.mono hb2.size)
          clear hb hb2
          go_wp2_with fail
          refine (HD2.out _ (hE.below hb3)).mono ?_
          rintro e w4 ⟨rfl, hb⟩
          have hb4 := hb3.trans (hb.mono hb3.size)
          clear hb hb3
          go_wp2_with fail
          refine (HU2.out _ (hE.below hb4)).mono ?_
          rintro e w5 ⟨rfl, hb⟩
          have hb5 := hb4.trans (hb.mono hb4.size)
          clear hb hb4
          go_wp2_with fail
          refine (HM.out _ (hE.below hb5)).mono ?_
          rintro e w6 ⟨rfl, hb⟩
          have hb6 := hb5.trans (hb.mono hb5.size)
          clear hb hb5
          go_wp2_with fail
          refine (HS.out _ (hE.below hb6)).mono ?_
          rintro e w7 ⟨rfl, hb⟩
          have hb7 := hb6.trans (hb.mono hb6.size)
          clear hb hb6
          go_wp2_with fail
          refine (HS2.out _ (hE.below hb7)).mono ?_
          rintro e w8 ⟨rfl, hb⟩
          have hb8 := hb7.trans (hb.mono hb7.size)
          clear hb hb7
          go_wp2_with fail
          refine (HM2.out _ (hE.below hb8)).mono ?_
          rintro e w9 ⟨rfl, hb⟩
          have hb9 := hb8.trans (hb.mono hb8.size)
          clear hb hb8
          go_wp2_with fail
          refine (HR.out _).mono ?_
          rintro e w' ⟨rfl, rfl⟩
          go_wp2
          go_ret
          exact ⟨rfl, hb9⟩
      · clear f3
        have ql0 : (l == 0) = false := by simpa using hl
        have ql1 : (l != 0) = true := by simpa using hl
        clear hl
        by_cases hq : q = 0
        · obtain ⟨rfl, rfl⟩ := f4 hq
          subst hq
          clear f4
          go_enter Tryd.func6, Tryd.ntmps6
          go_wp2_with fail
          refine (gshown_any b _ hE).mono ?_
          rintro e w1 ⟨rfl, hb1⟩
          go_wp2_with fail
          refine (HU.out _ (hE.below hb1)).mono ?_
          rintro e w2 ⟨rfl, hb⟩
          have hb2 := hb1.trans (hb.mono hb1.size)
          clear hb hb1
          go_wp2_with fail
          refine (HD.out _ (hE.below hb2)).mono ?_
          rintro e w3 ⟨rfl, hb⟩
          have hb3 := hb2.trans (hb.mono hb2.size)
          clear hb hb2
          go_wp2_with fail
          refine (HD2.out _ (hE.below hb3)).mono ?_
          rintro e w4 ⟨rfl, hb⟩
          have hb4 := hb3.trans (hb.mono hb3.size)
          clear hb hb3
          go_wp2_with fail
          refine (HU2.out _ (hE.below hb4)).mono ?_
          rintro e w5 ⟨rfl, hb⟩
          have hb5 := hb4.trans (hb.mono hb4.size)
          clear hb hb4
          go_wp2_with fail
          refine (HM.out _ (hE.below hb5)).mono ?_
          rintro e w6 ⟨rfl, hb⟩
          have hb6 := hb5.trans (hb.mono hb5.size)
          clear hb hb5
          go_wp2_with fail
          refine (HS.out _ (hE.below hb6)).mono ?_
          rintro e w7 ⟨rfl, hb⟩
          have hb7 := hb6.trans (hb.mono hb6.size)
          clear hb hb6
          go_wp2_with fail
          refine (HS2.out _ (hE.below hb7)).mono ?_
          rintro e w8 ⟨rfl, hb⟩
          have hb8 := hb7.trans (hb.mono hb7.size)
          clear hb hb7
          go_wp2_with fail
          refine (HM2.out _ (hE.below hb8)).mono ?_
          rintro e w9 ⟨rfl, hb⟩
          have hb9 := hb8.trans (hb.mono hb8.size)
          clear hb hb8
          go_wp2
          go_ret
          exact ⟨rfl, hb9⟩
        · clear f4
          have qq0 : (q == 0) = false := by simpa using hq
          have qq1 : (q != 0) = true := by simpa using hq
          clear hq
          go_enter Tryd.func6, Tryd.ntmps6
          go_wp2_with fail
          refine (gshown_any b _ hE).mono ?_
          rintro e w1 ⟨rfl, hb1⟩
          go_wp2_with fail
          refine (HU.out _ (hE.below hb1)).mono ?_
          rintro e w2 ⟨rfl, hb⟩
          have hb2 := hb1.trans (hb.mono hb1.size)
          clear hb hb1
          go_wp2_with fail
          refine (HD.out _ (hE.below hb2)).mono ?_
          rintro e w3 ⟨rfl, hb⟩
          have hb3 := hb2.trans (hb.mono hb2.size)
          clear hb hb2
          go_wp2_with fail
          refine (HD2.out _ (hE.below hb3)).mono ?_
          rintro e w4 ⟨rfl, hb⟩
          have hb4 := hb3.trans (hb.mono hb3.size)
          clear hb hb3
          go_wp2_with fail
          refine (HU2.out _ (hE.below hb4)).mono ?_
          rintro e w5 ⟨rfl, hb⟩
          have hb5 := hb4.trans (hb.mono hb4.size)
          clear hb hb4
          go_wp2_with fail
          refine (HM.out _ (hE.below hb5)).mono ?_
          rintro e w6 ⟨rfl, hb⟩
          have hb6 := hb5.trans (hb.mono hb5.size)
          clear hb hb5
          go_wp2_with fail
          refine (HS.out _ (hE.below hb6)).mono ?_
          rintro e w7 ⟨rfl, hb⟩
          have hb7 := hb6.trans (hb.mono hb6.size)
          clear hb hb6
          go_wp2_with fail
          refine (HS2.out _ (hE.below hb7)).mono ?_
          rintro e w8 ⟨rfl, hb⟩
          have hb8 := hb7.trans (hb.mono hb7.size)
          clear hb hb7
          go_wp2_with fail
          refine (HM2.out _ (hE.below hb8)).mono ?_
          rintro e w9 ⟨rfl, hb⟩
          have hb9 := hb8.trans (hb.mono hb8.size)
          clear hb hb8
          go_wp2
          go_ret
          exact ⟨rfl, hb9⟩
    · clear f2
      have qi0 : (i == 0) = false := by simpa using hi
      have qi1 : (i != 0) = true := by simpa using hi
      clear hi
      by_cases hl : l = 0
      · obtain ⟨hk, rfl, rfl⟩ := f3 hl
        rw [hk] at HR
        subst hl
        clear f3 hk
        by_cases hq : q = 0
        · obtain ⟨rfl, rfl⟩ := f4 hq
          subst hq
          clear f4
          go_enter Tryd.func6, Tryd.ntmps6
          go_wp2_with fail
          refine (gshown_any b _ hE).mono ?_
          rintro e w1 ⟨rfl, hb1⟩
          go_wp2_with fail
          refine (HU.out _ (hE.below hb1)).mono ?_
          rintro e w2 ⟨rfl, hb⟩
          have hb2 := hb1.trans (hb.mono hb1.size)
          clear hb hb1
          go_wp2_with fail
          refine (HD.out _ (hE.below hb2)).mono ?_
          rintro e w3 ⟨rfl, hb⟩
          have hb3 := hb2.trans (hb.mono hb2.size)
          clear hb hb2
          go_wp2_with fail
          refine (HD2.out _ (hE.below hb3)).mono ?_
          rintro e w4 ⟨rfl, hb⟩
          have hb4 := hb3.trans (hb.mono hb3.size)
          clear hb hb3
          go_wp2_with fail
          refine (HU2.out _ (hE.below hb4)).mono ?_
          rintro e w5 ⟨rfl, hb⟩
          have hb5 := hb4.trans (hb.mono hb4.size)
          clear hb hb4
          go_wp2_with fail
          refine (HM.out _ (hE.below hb5)).mono ?_
          rintro e w6 ⟨rfl, hb⟩
          have hb6 := hb5.trans (hb.mono hb5.size)
          clear hb hb5
          go_wp2_with fail
          refine (HS.out _ (hE.below hb6)).mono ?_
          rintro e w7 ⟨rfl, hb⟩
          have hb7 := hb6.trans (hb.mono hb6.size)
          clear hb hb6
          go_wp2_with fail
          refine (HS2.out _ (hE.below hb7)).mono ?_
          rintro e w8 ⟨rfl, hb⟩
          have hb8 := hb7.trans (hb.mono hb7.size)
          clear hb hb7
          go_wp2_with fail
          refine (HM2.out _ (hE.below hb8)).mono ?_
          rintro e w9 ⟨rfl, hb⟩
          have hb9 := hb8.trans (hb.mono hb8.size)
          clear hb hb8
          go_wp2_with fail
          refine (HR.out _).mono ?_
          rintro e w' ⟨rfl, rfl⟩
          go_wp2
          go_ret
          exact ⟨rfl, hb9⟩
        · clear f4
          have qq0 : (q == 0) = false := by simpa using hq
          have qq1 : (q != 0) = true := by simpa using hq
          clear hq
          go_enter Tryd.func6, Tryd.ntmps6
          go_wp2_with fail
          refine (gshown_any b _ hE).mono ?_
          rintro e w1 ⟨rfl, hb1⟩
          go_wp2_with fail
          refine (HU.out _ (hE.below hb1)).mono ?_
          rintro e w2 ⟨rfl, hb⟩
          have hb2 := hb1.trans (hb.mono hb1.size)
          clear hb hb1
          go_wp2_with fail
          refine (HD.out _ (hE.below hb2)).mono ?_
          rintro e w3 ⟨rfl, hb⟩
          have hb3 := hb2.trans (hb.mono hb2.size)
          clear hb hb2
          go_wp2_with fail
          refine (HD2.out _ (hE.below hb3)).mono ?_
          rintro e w4 ⟨rfl, hb⟩
          have hb4 := hb3.trans (hb.mono hb3.size)
          clear hb hb3
          go_wp2_with fail
          refine (HU2.out _ (hE.below hb4)).mono ?_
          rintro e w5 ⟨rfl, hb⟩
          have hb5 := hb4.trans (hb.mono hb4.size)
          clear hb hb4
          go_wp2_with fail
          refine (HM.out _ (hE.below hb5)).mono ?_
          rintro e w6 ⟨rfl, hb⟩
          have hb6 := hb5.trans (hb.mono hb5.size)
          clear hb hb5
          go_wp2_with fail
          refine (HS.out _ (hE.below hb6)).mono ?_
          rintro e w7 ⟨rfl, hb⟩
          have hb7 := hb6.trans (hb.mono hb6.size)
          clear hb hb6
          go_wp2_with fail
          refine (HS2.out _ (hE.below hb7)).mono ?_
          rintro e w8 ⟨rfl, hb⟩
          have hb8 := hb7.trans (hb.mono hb7.size)
          clear hb hb7
          go_wp2_with fail
          refine (HM2.out _ (hE.below hb8)).mono ?_
          rintro e w9 ⟨rfl, hb⟩
          have hb9 := hb8.trans (hb.mono hb8.size)
          clear hb hb8
          go_wp2_with fail
          refine (HR.out _).mono ?_
          rintro e w' ⟨rfl, rfl⟩
          go_wp2
          go_ret
          exact ⟨rfl, hb9⟩
      · clear f3
        have ql0 : (l == 0) = false := by simpa using hl
        have ql1 : (l != 0) = true := by simpa using hl
        clear hl
        by_cases hq : q = 0
        · obtain ⟨rfl, rfl⟩ := f4 hq
          subst hq
          clear f4
          go_enter Tryd.func6, Tryd.ntmps6
          go_wp2_with fail
          refine (gshown_any b _ hE).mono ?_
          rintro e w1 ⟨rfl, hb1⟩
          go_wp2_with fail
          refine (HU.out _ (hE.below hb1)).mono ?_
          rintro e w2 ⟨rfl, hb⟩
          have hb2 := hb1.trans (hb.mono hb1.size)
          clear hb hb1
          go_wp2_with fail
          refine (HD.out _ (hE.below hb2)).mono ?_
          rintro e w3 ⟨rfl, hb⟩
          have hb3 := hb2.trans (hb.mono hb2.size)
          clear hb hb2
          go_wp2_with fail
          refine (HD2.out _ (hE.below hb3)).mono ?_
          rintro e w4 ⟨rfl, hb⟩
          have hb4 := hb3.trans (hb.mono hb3.size)
          clear hb hb3
          go_wp2_with fail
          refine (HU2.out _ (hE.below hb4)).mono ?_
          rintro e w5 ⟨rfl, hb⟩
          have hb5 := hb4.trans (hb.mono hb4.size)
          clear hb hb4
          go_wp2_with fail
          refine (HM.out _ (hE.below hb5)).mono ?_
          rintro e w6 ⟨rfl, hb⟩
          have hb6 := hb5.trans (hb.mono hb5.size)
          clear hb hb5
          go_wp2_with fail
          refine (HS.out _ (hE.below hb6)).mono ?_
          rintro e w7 ⟨rfl, hb⟩
          have hb7 := hb6.trans (hb.mono hb6.size)
          clear hb hb6
          go_wp2_with fail
          refine (HS2.out _ (hE.below hb7)).mono ?_
          rintro e w8 ⟨rfl, hb⟩
          have hb8 := hb7.trans (hb.mono hb7.size)
          clear hb hb7
          go_wp2_with fail
          refine (HM2.out _ (hE.below hb8)).mono ?_
          rintro e w9 ⟨rfl, hb⟩
          have hb9 := hb8.trans (hb.mono hb8.size)
          clear hb hb8
          go_wp2
          go_ret
          exact ⟨rfl, hb9⟩
        · clear f4
          have qq0 : (q == 0) = false := by simpa using hq
          have qq1 : (q != 0) = true := by simpa using hq
          clear hq
          go_enter Tryd.func6, Tryd.ntmps6
          go_wp2_with fail
          refine (gshown_any b _ hE).mono ?_
          rintro e w1 ⟨rfl, hb1⟩
          go_wp2_with fail
          refine (HU.out _ (hE.below hb1)).mono ?_
          rintro e w2 ⟨rfl, hb⟩
          have hb2 := hb1.trans (hb.mono hb1.size)
          clear hb hb1
          go_wp2_with fail
          refine (HD.out _ (hE.below hb2)).mono ?_
          rintro e w3 ⟨rfl, hb⟩
          have hb3 := hb2.trans (hb.mono hb2.size)
          clear hb hb2
          go_wp2_with fail
          refine (HD2.out _ (hE.below hb3)).mono ?_
          rintro e w4 ⟨rfl, hb⟩
          have hb4 := hb3.trans (hb.mono hb3.size)
          clear hb hb3
          go_wp2_with fail
          refine (HU2.out _ (hE.below hb4)).mono ?_
          rintro e w5 ⟨rfl, hb⟩
          have hb5 := hb4.trans (hb.mono hb4.size)
          clear hb hb4
          go_wp2_with fail
          refine (HM.out _ (hE.below hb5)).mono ?_
          rintro e w6 ⟨rfl, hb⟩
          have hb6 := hb5.trans (hb.mono hb5.size)
          clear hb hb5
          go_wp2_with fail
          refine (HS.out _ (hE.below hb6)).mono ?_
          rintro e w7 ⟨rfl, hb⟩
          have hb7 := hb6.trans (hb.mono hb6.size)
          clear hb hb6
          go_wp2_with fail
          refine (HS2.out _ (hE.below hb7)).mono ?_
          rintro e w8 ⟨rfl, hb⟩
          have hb8 := hb7.trans (hb.mono hb7.size)
          clear hb hb7
          go_wp2_with fail
          refine (HM2.out _ (hE.below hb8)).mono ?_
          rintro e w9 ⟨rfl, hb⟩
          have hb9 := hb8.trans (hb.mono hb8.size)
          clear hb hb8
          go_wp2
          go_ret
          exact ⟨rfl, hb9⟩

theorem markAns (X : BitVec 64) (o : Option Nat) : ∃ A, ansG o (tI X) = tI A := by
  unfold ansG
  cases o.isSome
  · exact ⟨_, rfl⟩
  · exact ⟨0#64, rfl⟩

theorem badG2 {p q : Bool} {i j : Nat} : badG [(p, i), (q, j)] = none ↔ p = true ∧ q = true := by
  cases p <;> cases q <;> simp [badG]
theorem wrap_small {n : Int} (h0 : 0 ≤ n) (h1 : n ≤ 9223372036854775807) : IntKind.i64.wrap n = n := by
  rw [wrap_bmod, Int.bmod_def]
  omega
theorem sec_wf {n : Int} (h : (Lit.int .i64 n).wf = true) (o : Option Nat) : (Lit.int .i64 (ansG o (n.tdiv 1000))).wf = true := by
  unfold ansG
  split
  · rfl
  · have := sec_div h
    have h2 : (Lit.int .i64 (IntKind.i64.wrap (n.tdiv 1000))).wf = true := by
      simp only [Lit.wf, IntKind.min, IntKind.max, IntKind.signed, IntKind.bits]
      rw [wrap_bmod]
      simp [Int.bmod_def]
      omega
    rwa [this] at h2
theorem wrap_wf (n : Int) : (Lit.int .i64 (IntKind.i64.wrap n)).wf = true := by
  simp only [Lit.wf, IntKind.min, IntKind.max, IntKind.signed, IntKind.bits]
  rw [wrap_bmod]
  simp [Int.bmod_def]
  omega
theorem mil_wf (n : Int) (o : Option Nat) : (Lit.int .i64 (ansG o (IntKind.i64.wrap n))).wf = true := by
  unfold ansG
  split
  · rfl
  · exact wrap_wf n

theorem turns_walk (f g n : Int) (last : Bool) (w : World) (hE : ∃ b, EnvG b w) (hf : (Lit.int .i64 f).wf = true) (hg : (Lit.int .i64 g).wf = true) (hn : (Lit.int .i64 n).wf = true) :
    Calls Tryd.prog 6 #[.int .i64 f, .int .i64 g, .int .i64 n, .bool last] w fun e w' => e = .returned (.bool true) ∧ Below w.heap.size w w' := by
  obtain ⟨b, hE⟩ := hE
  obtain ⟨X, rfl⟩ := of_i64 (bounds_i64 hf).1 (bounds_i64 hf).2
  obtain ⟨G, rfl⟩ := of_i64 (bounds_i64 hg).1 (bounds_i64 hg).2
  obtain ⟨A, hA⟩ := markAns (X &&& 23#64) (markUpO X)
  obtain ⟨C, hC⟩ := markAns (markDownF G last) (markDownO G)
  have b8 := band X 8#64
  rw [show tI 8#64 = 8 by decide] at b8
  have z8 : (tI (X &&& 8#64) != 0) = !(X &&& 8#64 == 0#64) := by rw [bne, beq0]
  refine turns_of b _ _ n _ (tI A) _ _ _ (tI C) _ _ _ _ _ _ _ _ _ _ _ last _ b8 z8 (fun w h => hA ▸ MarkUp_any b X w h) (fun w h => MarkDown_any b A _ w h) (fun w h => hC ▸ MarkDown_any b G last w h) (fun w h => MarkUp_any b C w h) (fun w h => Millis_any b n w h) (fun w h => Seconds_any b _ w h _ _ rfl (sec_div (mil_wf _ _)) rfl) (fun w h => Seconds_any b n w h _ _ rfl (sec_div hn) rfl) (fun w h => Millis_any b _ w h) (right_any _) ?_ ?_ ?_ ?_ w hE
  · intro h
    have hz := err_none (markUpO_lt X) h
    obtain ⟨h1, h2⟩ := mark_up hz
    rw [hz] at hA
    have hA : X &&& 23#64 = A := tI_inj hA
    subst hA
    have e : markDownO (X &&& 23#64) = none ∧ markDownF (X &&& 23#64) (!(X &&& 8#64 == 0#64)) = X := ⟨h1, h2⟩
    rw [e.1, e.2]
    exact ⟨rfl, rfl⟩
  · intro h
    have hz := err_none (markDownO_lt G) h
    obtain ⟨h1, h2⟩ := mark_down last hz
    rw [hz] at hC
    have hC : markDownF G last = C := tI_inj hC
    subst hC
    rw [h1, h2]
    exact ⟨rfl, rfl⟩
  · intro h
    have hz := err_none (millisO_lt n) h
    have hw : withinB n 0 281474976710 = true := by
      unfold millisO at hz
      exact badG1.1 hz
    rw [hz]
    show rightB (IntKind.i64.wrap (n * 1000)) = true ∧ errG (secondsO (IntKind.i64.wrap (n * 1000))) = 0 ∧ ansG (secondsO (IntKind.i64.wrap (n * 1000))) ((IntKind.i64.wrap (n * 1000)).tdiv 1000) = n
    unfold withinB at hw
    simp at hw
    rw [wrap_small (by omega) (by omega)]
    have hr : rightB (n * 1000) = true := by unfold rightB; simp; omega
    have hm : ((n * 1000).tmod 1000 == 0) = true := by
      rw [Int.tmod_eq_emod_of_nonneg (by omega), beq_iff_eq]
      omega
    have hs : secondsO (n * 1000) = none := badG2.2 ⟨hr, hm⟩
    rw [hs]
    refine ⟨hr, rfl, ?_⟩
    show (n * 1000).tdiv 1000 = n
    rw [Int.tdiv_eq_ediv_of_nonneg (by omega)]
    omega
  · intro h
    have hz := err_none (secondsO_lt n) h
    obtain ⟨hr, hm⟩ := badG2.1 hz
    rw [hz]
    show errG (millisO (n.tdiv 1000)) = 0 ∧ ansG (millisO (n.tdiv 1000)) (IntKind.i64.wrap (n.tdiv 1000 * 1000)) = n
    unfold rightB at hr
    simp at hr
    rw [Int.tmod_eq_emod_of_nonneg (by omega), beq_iff_eq] at hm
    rw [Int.tdiv_eq_ediv_of_nonneg (by omega)]
    have hs : millisO (n / 1000) = none := badG1.2 (by unfold withinB; simp; omega)
    rw [hs]
    refine ⟨rfl, ?_⟩
    show IntKind.i64.wrap (n / 1000 * 1000) = n
    rw [wrap_small (by omega) (by omega)]
    omega
end Go.Proofs.YtlddkoblicnepaaDoor
