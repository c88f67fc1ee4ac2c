/- SignsMarks: blocks' flags, up and down, and times: the program answers what the document says. -/
import Derived.Test.YtlddkoblicnepaaDoorGRefC
import Derived.OpenShut
set_option linter.unusedVariables false
set_option linter.unusedSimpArgs false
namespace Go.Proofs.YtlddkoblicnepaaDoor
open Go.RowKit Go.Extern.Stop Go.Stop Go.Extern

theorem sec_div {n : Int} (h : (Lit.int .i64 n).wf = true) : IntKind.i64.wrap (n.tdiv 1000) = n.tdiv 1000 := by
  obtain ⟨h1, h2⟩ := bounds_i64 h
  have : n.tdiv 1000 = if 0 ≤ n then n / 1000 else -((-n) / 1000) := by
    split
    · exact Int.tdiv_eq_ediv_of_nonneg (by assumption)
    · rename_i hn
      have := Int.neg_tdiv (-n) 1000
      rw [Int.neg_neg] at this
      rw [this, Int.tdiv_eq_ediv_of_nonneg (by omega)]
  rw [this]
  unfold IntKind.wrap
  simp only [IntKind.bits, IntKind.signed]
  split <;> split <;> simp_all <;> omega

set_option maxRecDepth 100000 in
set_option maxHeartbeats 4000000 in
theorem marks_of (b : Nat → Addr) (x g n r1 e1 r2 e2 r3 e3 r4 e4 : Int) (c : Bool)
    (hU : ∀ w, EnvG b w → Calls Tryd.prog 16 #[.int .i64 x] w fun e w' => e = .returned (.tuple #[.int .i64 r1, .int .i64 e1]) ∧ Below w.heap.size w w')
    (hU' : ∀ w, Calls Tryd.prog 17 #[.int .i64 x] w fun e w' => e = .returned (.tuple #[.int .i64 r1, .int .i64 e1]) ∧ w = w')
    (hD : ∀ w, EnvG b w → Calls Tryd.prog 18 #[.int .i64 g, .bool c] w fun e w' => e = .returned (.tuple #[.int .i64 r2, .int .i64 e2]) ∧ Below w.heap.size w w')
    (hD' : ∀ w, Calls Tryd.prog 19 #[.int .i64 g, .bool c] w fun e w' => e = .returned (.tuple #[.int .i64 r2, .int .i64 e2]) ∧ w = w')
    (hM : ∀ w, EnvG b w → Calls Tryd.prog 20 #[.int .i64 n] w fun e w' => e = .returned (.tuple #[.int .i64 r3, .int .i64 e3]) ∧ Below w.heap.size w w')
    (hM' : ∀ w, Calls Tryd.prog 21 #[.int .i64 n] w fun e w' => e = .returned (.tuple #[.int .i64 r3, .int .i64 e3]) ∧ w = w')
    (hS : ∀ w, EnvG b w → Calls Tryd.prog 22 #[.int .i64 n] w fun e w' => e = .returned (.tuple #[.int .i64 r4, .int .i64 e4]) ∧ Below w.heap.size w w')
    (hS' : ∀ w, Calls Tryd.prog 23 #[.int .i64 n] w fun e w' => e = .returned (.tuple #[.int .i64 r4, .int .i64 e4]) ∧ w = w') (w : World) (hE : EnvG b w) :
    Calls Tryd.prog 4 #[.int .i64 x, .int .i64 g, .int .i64 n, .bool c] w fun e w' => e = .returned (.bool true) ∧ Below w.heap.size w w' := by
  have HU := Lib.hid hU
  have HU' := Lib.hid hU'
  have HD := Lib.hid hD
  have HD' := Lib.hid hD'
  have HM := Lib.hid hM
  have HM' := Lib.hid hM'
  have HS := Lib.hid hS
  have HS' := Lib.hid hS'
  clear hU hU' hD hD' hM hM' hS hS'
  go_enter Tryd.func4, Tryd.ntmps4
  go_wp2_with fail
  refine (gshown_any b _ hE).mono ?_
  rintro e w1 ⟨rfl, hb1⟩
  go_wp2_with fail
  refine (HU.out _ (hE.below hb1)).mono ?_
  rintro e w2 ⟨rfl, hb⟩
  have hb2 := hb1.trans (hb.mono hb1.size)
  clear hb hb1
  go_wp2_with fail
  refine (HU'.out _).mono ?_
  rintro e w' ⟨rfl, rfl⟩
  go_wp2_with fail
  refine (HD.out _ (hE.below hb2)).mono ?_
  rintro e w3 ⟨rfl, hb⟩
  have hb3 := hb2.trans (hb.mono hb2.size)
  clear hb hb2
  go_wp2_with fail
  refine (HD'.out _).mono ?_
  rintro e w' ⟨rfl, rfl⟩
  go_wp2_with fail
  refine (HM.out _ (hE.below hb3)).mono ?_
  rintro e w4 ⟨rfl, hb⟩
  have hb4 := hb3.trans (hb.mono hb3.size)
  clear hb hb3
  go_wp2_with fail
  refine (HM'.out _).mono ?_
  rintro e w' ⟨rfl, rfl⟩
  go_wp2_with fail
  refine (HS.out _ (hE.below hb4)).mono ?_
  rintro e w5 ⟨rfl, hb⟩
  have hb5 := hb4.trans (hb.mono hb4.size)
  clear hb hb4
  go_wp2_with fail
  refine (HS'.out _).mono ?_
  rintro e w' ⟨rfl, rfl⟩
  go_wp2
  go_ret
  exact ⟨rfl, hb5⟩

theorem marks_walk (f g n : Int) (c : Bool) (w : World) (hE : ∃ b, EnvG b w) (hf : (Lit.int .i64 f).wf = true) (hg : (Lit.int .i64 g).wf = true) (hn : (Lit.int .i64 n).wf = true) :
    Calls Tryd.prog 4 #[.int .i64 f, .int .i64 g, .int .i64 n, .bool c] w fun e w' => e = .returned (.bool true) ∧ Below w.heap.size w w' := by
  obtain ⟨b, hE⟩ := hE
  obtain ⟨X, rfl⟩ := of_i64 (bounds_i64 hf).1 (bounds_i64 hf).2
  obtain ⟨G, rfl⟩ := of_i64 (bounds_i64 hg).1 (bounds_i64 hg).2
  exact marks_of b _ _ n _ _ _ _ _ _ _ _ c (fun w h => MarkUp_any b X w h) (fun w => rMarkUp_any X w) (fun w h => MarkDown_any b G c w h) (fun w => rMarkDown_any G c w) (fun w h => Millis_any b n w h) (fun w => rMillis_any n w) (fun w h => Seconds_any b n w h _ _ rfl (sec_div hn) rfl) (fun w => rSeconds_any n w) w hE
end Go.Proofs.YtlddkoblicnepaaDoor
