/- SignsSame: what goes up has no flag more, but Timed, and that just with a report; what comes down has all of it, but Timed. -/
import Derived.Test.YtlddkoblicnepaaDoorGLBack
import Derived.OpenShut
set_option linter.unusedVariables false
set_option linter.unusedSimpArgs false
namespace Go.Proofs.YtlddkoblicnepaaDoor
open Go.RowKit Go.Extern.Stop Go.Stop Go.Extern

set_option maxRecDepth 100000 in
set_option maxHeartbeats 8000000 in
theorem same_of (b : Nat → Addr) (x g p a e1 r h a1 a3 a4 g1 r1 r3 : Int) (c t : Bool)
    (hU : ∀ w, EnvG b w → Calls Tryd.prog 10 #[.int .i64 x] w fun e w' => e = .returned (.tuple #[.int .i64 a, .int .i64 e1]) ∧ Below w.heap.size w w')
    (hD : ∀ w, EnvG b w → Calls Tryd.prog 12 #[.int .i64 g, .int .i64 p, .bool c] w fun e w' => e = .returned (.tuple #[.int .i64 r, .int .i64 h]) ∧ Below w.heap.size w w')
    (f1 : bits .andNot .i64 a 64 = a1) (f2 : e1 = 0 → bits .andNot .i64 a1 x = 0) (f3 : bits .and .i64 a 64 = a3) (f4 : (a3 != 0) = t) (f5 : bits .andNot .i64 a 127 = a4) (f6 : e1 = 0 → (a4 != 0) = t)
    (k1 : bits .andNot .i64 g 64 = g1) (k2 : h = 0 → bits .andNot .i64 g1 r = 0) (k3 : h = 0 → bits .and .i64 r 16 = 16) (k4 : h = 0 → bits .and .i64 r 64 = 0) (k5 : bits .and .i64 r 8 = r3) (k6 : h = 0 → (r3 != 0) = c) (w : World) (hE : EnvG b w) :
    Calls Tryd.prog 7 #[.int .i64 x, .int .i64 g, .int .i64 p, .bool c] w fun e w' => e = .returned (.bool true) ∧ Below w.heap.size w w' := by
  have HU := Lib.hid hU
  have HD := Lib.hid hD
  clear hU hD
  by_cases he : e1 = 0
  · have f2 := f2 he
    have f6 := f6 he
    subst he
    by_cases hh : h = 0
    · have k2 := k2 hh
      have k3 := k3 hh
      have k4 := k4 hh
      have k6 := k6 hh
      subst hh
      go_enter Tryd.func7, Tryd.ntmps7
      go_wp2_with fail
      refine (gshown_any b _ hE).mono ?_
      rintro e w1 ⟨rfl, hb1⟩
      go_wp2_with fail
      refine (HU.out _ (hE.below hb1)).mono ?_
      rintro e w2 ⟨rfl, hb⟩
      have hb2 := hb1.trans (hb.mono hb1.size)
      clear hb hb1
      go_wp2_with fail
      refine (HD.out _ (hE.below hb2)).mono ?_
      rintro e w3 ⟨rfl, hb⟩
      have hb3 := hb2.trans (hb.mono hb2.size)
      clear hb hb2
      go_wp2
      go_ret
      exact ⟨rfl, hb3⟩
    · clear k1 k2 k3 k4 k5 k6
      have qh1 : (h != 0) = true := by simpa using hh
      clear hh
      go_enter Tryd.func7, Tryd.ntmps7
      go_wp2_with fail
      refine (gshown_any b _ hE).mono ?_
      rintro e w1 ⟨rfl, hb1⟩
      go_wp2_with fail
      refine (HU.out _ (hE.below hb1)).mono ?_
      rintro e w2 ⟨rfl, hb⟩
      have hb2 := hb1.trans (hb.mono hb1.size)
      clear hb hb1
      go_wp2_with fail
      refine (HD.out _ (hE.below hb2)).mono ?_
      rintro e w3 ⟨rfl, hb⟩
      have hb3 := hb2.trans (hb.mono hb2.size)
      clear hb hb2
      go_wp2
      go_ret
      exact ⟨rfl, hb3⟩
  · clear f1 f2 f3 f4 f5 f6
    have qe1 : (e1 != 0) = true := by simpa using he
    clear he
    by_cases hh : h = 0
    · have k2 := k2 hh
      have k3 := k3 hh
      have k4 := k4 hh
      have k6 := k6 hh
      subst hh
      go_enter Tryd.func7, Tryd.ntmps7
      go_wp2_with fail
      refine (gshown_any b _ hE).mono ?_
      rintro e w1 ⟨rfl, hb1⟩
      go_wp2_with fail
      refine (HU.out _ (hE.below hb1)).mono ?_
      rintro e w2 ⟨rfl, hb⟩
      have hb2 := hb1.trans (hb.mono hb1.size)
      clear hb hb1
      go_wp2_with fail
      refine (HD.out _ (hE.below hb2)).mono ?_
      rintro e w3 ⟨rfl, hb⟩
      have hb3 := hb2.trans (hb.mono hb2.size)
      clear hb hb2
      go_wp2
      go_ret
      exact ⟨rfl, hb3⟩
    · clear k1 k2 k3 k4 k5 k6
      have qh1 : (h != 0) = true := by simpa using hh
      clear hh
      go_enter Tryd.func7, Tryd.ntmps7
      go_wp2_with fail
      refine (gshown_any b _ hE).mono ?_
      rintro e w1 ⟨rfl, hb1⟩
      go_wp2_with fail
      refine (HU.out _ (hE.below hb1)).mono ?_
      rintro e w2 ⟨rfl, hb⟩
      have hb2 := hb1.trans (hb.mono hb1.size)
      clear hb hb1
      go_wp2_with fail
      refine (HD.out _ (hE.below hb2)).mono ?_
      rintro e w3 ⟨rfl, hb⟩
      have hb3 := hb2.trans (hb.mono hb2.size)
      clear hb hb2
      go_wp2
      go_ret
      exact ⟨rfl, hb3⟩

theorem same_walk (f g p : Int) (c : Bool) (w : World) (hE : ∃ b, EnvG b w) (hf : (Lit.int .i64 f).wf = true) (hg : (Lit.int .i64 g).wf = true) (_ : (Lit.int .i64 p).wf = true) :
    Calls Tryd.prog 7 #[.int .i64 f, .int .i64 g, .int .i64 p, .bool c] w fun e w' => e = .returned (.bool true) ∧ Below w.heap.size w w' := by
  obtain ⟨b, hE⟩ := hE
  obtain ⟨X, rfl⟩ := of_i64 (bounds_i64 hf).1 (bounds_i64 hf).2
  obtain ⟨G, rfl⟩ := of_i64 (bounds_i64 hg).1 (bounds_i64 hg).2
  obtain ⟨A, hA⟩ : ∃ A, ansG (upO X) (tI (upF X)) = tI A := by
    unfold ansG
    cases (upO X).isSome
    · exact ⟨_, rfl⟩
    · exact ⟨0#64, rfl⟩
  obtain ⟨D, hD⟩ : ∃ D, ansG (downO G p) (tI (downF G p c)) = tI D := by
    unfold ansG
    cases (downO G p).isSome
    · exact ⟨_, rfl⟩
    · exact ⟨0#64, rfl⟩
  have k64 := bandNot A 64#64
  have k127 := bandNot A 127#64
  have b64 := band A 64#64
  have g64 := bandNot G 64#64
  have d8 := band D 8#64
  have d16 := band D 16#64
  have d64 := band D 64#64
  rw [show tI 64#64 = 64 by decide] at k64 b64 g64 d64
  rw [show tI 127#64 = 127 by decide] at k127
  rw [show tI 8#64 = 8 by decide] at d8
  rw [show tI 16#64 = 16 by decide] at d16
  refine same_of b _ _ p (tI A) _ (tI D) _ _ _ _ _ 0 _ c _ (fun w h => hA ▸ Up_any b X w h) (fun w h => hD ▸ Down_any b G p c w h) k64 ?_ b64 rfl k127 ?_ g64 ?_ ?_ ?_ d8 ?_ w hE
  · intro h
    have hn := err_none (upO_lt X) h
    rw [hn] at hA
    have hA : upF X = A := tI_inj hA
    subst hA
    rw [bandNot, (up_same X).1]
    rfl
  · intro h
    have hn := err_none (upO_lt X) h
    rw [hn] at hA
    have hA : upF X = A := tI_inj hA
    subst hA
    rw [(up_same X).2, upF_timed, bne, bne, beq0, beq0]
    by_cases hz : X &&& 475136#64 = 0#64
    · rw [if_pos hz, hz]
    · rw [if_neg hz, beq_eq_false_iff_ne.2 hz]; rfl
  · intro h
    have hn := err_none (downO_lt G p) h
    rw [hn] at hD
    have hD : downF G p c = D := tI_inj hD
    subst hD
    rw [bandNot, down_same c hn]
    rfl
  · intro h
    have hn := err_none (downO_lt G p) h
    rw [hn] at hD
    have hD : downF G p c = D := tI_inj hD
    subst hD
    rw [d16, down_single (down_parts hn).2.1]
    rfl
  · intro h
    have hn := err_none (downO_lt G p) h
    rw [hn] at hD
    have hD : downF G p c = D := tI_inj hD
    subst hD
    rw [d64, down_timed (down_parts hn).2.1]
    rfl
  · intro h
    have hn := err_none (downO_lt G p) h
    rw [hn] at hD
    have hD : downF G p c = D := tI_inj hD
    subst hD
    rw [bne, beq0, down_cust (down_parts hn).2.1]
    cases c <;> rfl
end Go.Proofs.YtlddkoblicnepaaDoor
