/- SignsFlags: bundles' flags, up and down, their class: the program answers what the document says. -/
import Derived.Test.YtlddkoblicnepaaDoorGRefC
import Derived.OpenShut
set_option linter.unusedVariables false
set_option linter.unusedSimpArgs false
namespace Go.Proofs.YtlddkoblicnepaaDoor
open Go.RowKit Go.Extern.Stop Go.Stop Go.Extern

set_option maxRecDepth 100000 in
set_option maxHeartbeats 4000000 in
theorem flags_of (b : Nat → Addr) (x g p r1 e1 r2 e2 k m : Int) (c l : Bool)
    (hU : ∀ w, EnvG b w → Calls Tryd.prog 10 #[.int .i64 x] w fun e w' => e = .returned (.tuple #[.int .i64 r1, .int .i64 e1]) ∧ Below w.heap.size w w')
    (hU' : ∀ w, Calls Tryd.prog 11 #[.int .i64 x] w fun e w' => e = .returned (.tuple #[.int .i64 r1, .int .i64 e1]) ∧ w = w')
    (hD : ∀ w, EnvG b w → Calls Tryd.prog 12 #[.int .i64 g, .int .i64 p, .bool c] w fun e w' => e = .returned (.tuple #[.int .i64 r2, .int .i64 e2]) ∧ Below w.heap.size w w')
    (hD' : ∀ w, Calls Tryd.prog 13 #[.int .i64 g, .int .i64 p, .bool c] w fun e w' => e = .returned (.tuple #[.int .i64 r2, .int .i64 e2]) ∧ w = w')
    (hC : ∀ w, EnvG b w → Calls Tryd.prog 14 #[.int .i64 x] w fun e w' => e = .returned (.tuple #[.int .i64 k, .bool l, .int .i64 m]) ∧ Below w.heap.size w w')
    (hC' : ∀ w, Calls Tryd.prog 15 #[.int .i64 x] w fun e w' => e = .returned (.tuple #[.int .i64 k, .bool l, .int .i64 m]) ∧ w = w') (w : World) (hE : EnvG b w) :
    Calls Tryd.prog 3 #[.int .i64 x, .int .i64 g, .int .i64 p, .bool c] w fun e w' => e = .returned (.bool true) ∧ Below w.heap.size w w' := by
  have HU := Lib.hid hU
  have HU' := Lib.hid hU'
  have HD := Lib.hid hD
  have HD' := Lib.hid hD'
  have HC := Lib.hid hC
  have HC' := Lib.hid hC'
  clear hU hU' hD hD' hC hC'
  go_enter Tryd.func3, Tryd.ntmps3
  go_wp2_with fail
  refine (gshown_any b _ hE).mono ?_
  rintro e w1 ⟨rfl, hb1⟩
  go_wp2_with fail
  refine (HU.out _ (hE.below hb1)).mono ?_
  rintro e w2 ⟨rfl, hb⟩
  have hb2 := hb1.trans (hb.mono hb1.size)
  clear hb hb1
  go_wp2_with fail
  refine (HU'.out _).mono ?_
  rintro e w' ⟨rfl, rfl⟩
  go_wp2_with fail
  refine (HD.out _ (hE.below hb2)).mono ?_
  rintro e w3 ⟨rfl, hb⟩
  have hb3 := hb2.trans (hb.mono hb2.size)
  clear hb hb2
  go_wp2_with fail
  refine (HD'.out _).mono ?_
  rintro e w' ⟨rfl, rfl⟩
  go_wp2_with fail
  refine (HC.out _ (hE.below hb3)).mono ?_
  rintro e w4 ⟨rfl, hb⟩
  have hb4 := hb3.trans (hb.mono hb3.size)
  clear hb hb3
  go_wp2_with fail
  refine (HC'.out _).mono ?_
  rintro e w' ⟨rfl, rfl⟩
  go_wp2
  go_ret
  exact ⟨rfl, hb4⟩

theorem flags_walk (f g p : Int) (c : Bool) (w : World) (hE : ∃ b, EnvG b w) (hf : (Lit.int .i64 f).wf = true) (hg : (Lit.int .i64 g).wf = true) (_ : (Lit.int .i64 p).wf = true) :
    Calls Tryd.prog 3 #[.int .i64 f, .int .i64 g, .int .i64 p, .bool c] w fun e w' => e = .returned (.bool true) ∧ Below w.heap.size w w' := by
  obtain ⟨b, hE⟩ := hE
  obtain ⟨X, rfl⟩ := of_i64 (bounds_i64 hf).1 (bounds_i64 hf).2
  obtain ⟨G, rfl⟩ := of_i64 (bounds_i64 hg).1 (bounds_i64 hg).2
  exact flags_of b _ _ p _ _ _ _ _ _ c _ (fun w h => Up_any b X w h) (fun w => rUp_any X w) (fun w h => Down_any b G p c w h) (fun w => rDown_any G p c w) (fun w h => Class_any b X w h) (fun w => rClass_any X w) w hE
end Go.Proofs.YtlddkoblicnepaaDoor
