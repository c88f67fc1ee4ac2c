/- Contract of ipnParts of package eid. -/
import Derived.Test.YtmpokhdljlnllaaDoorEParts
set_option linter.unusedVariables false
set_option linter.unusedSimpArgs false
namespace Go.Proofs.YtmpokhdljlnllaaDoor
open Go.RowKit

set_option maxRecDepth 100000 in
set_option maxHeartbeats 4000000 in
theorem ipnParts_any (k : Int) (nd sv : ByteArray) (a b : Int) (w : World) (hE : EnvN w) (ha0 : -9223372036854775808 ≤ a) (ha1 : a ≤ 9223372036854775807) (hb0 : -9223372036854775808 ≤ b) (hb1 : b ≤ 9223372036854775807) :
    Calls Tryd.prog 46 #[nmV k nd sv a b] w fun e w' => (∃ v, e = .returned v ∧ Pts w.heap.size [(⟨(Lib.itoa a).toArray⟩, aR a), (⟨#[46]⟩, true), (⟨(Lib.itoa b).toArray⟩, bR b)] v w') ∧ Below w.heap.size w w' := by
  unfold nmV
  have HE := Lib.hid hE
  have HA := Lib.hid (And.intro ha0 ha1)
  have HBb := Lib.hid (And.intro hb0 hb1)
  clear hE ha0 ha1 hb0 hb1
  go_enter Tryd.func46, Tryd.ntmps46
  go_wp2_with fail
  go_region_held3 (fun w' => w'.cell? ⟨w.heap.size, 3, none⟩ = some (.int .i64 a) ∧ w'.cell? ⟨w.heap.size, 4, none⟩ = some (.int .i64 b))
    (first
      | (apply heldIn <;> assumption)
      | (apply held_alloc; assumption)
      | (refine ⟨?_, ?_⟩ <;> go_simp <;> done)
      | go_keep)
    (first
      | ((go_at_call 54; go_fit (itoa_any a _ (HE.out.below (by repeat (first | exact Below.refl _ _ | apply below_alloc_l | apply below_drew_l | apply belowIn (by assumption)))) HA.out.1 HA.out.2); rintro e w1 ⟨rfl, hb⟩; have HB := Lib.hid hb; clear hb))
      | ((go_at_call 54; go_fit (itoa_any b _ (HE.out.below (by repeat (first | exact Below.refl _ _ | apply below_alloc_l | apply below_drew_l | apply belowIn (by assumption)))) HBb.out.1 HBb.out.2); rintro e w1 ⟨rfl, hb⟩; have HB := Lib.hid hb; clear hb))
      | ((go_at_call 51; go_fit (must_nil _ _); rintro e w1 ⟨rfl, hb⟩; have HB := Lib.hid hb; clear hb))
      | ((go_at_call 51; go_fit (must2_any _ _ (decide (1 ≤ a)) (decide (a ≤ 999999999)) ⟨(Lib.itoa a).toArray⟩ _ (by repeat (first | (go_simp; done) | (apply cellIn (by assumption)) | apply cell_al | apply cell_drew_l)) (by repeat (first | (go_simp; done) | (apply cellIn (by assumption)) | apply cell_al | apply cell_drew_l))); rintro e w1 ⟨rfl, hb⟩; have HB := Lib.hid hb; clear hb))
      | ((go_at_call 51; go_fit (must2_any _ _ (decide (0 ≤ b)) (decide (b ≤ 999999999)) ⟨(Lib.itoa b).toArray⟩ _ (by repeat (first | (go_simp; done) | (apply cellIn (by assumption)) | apply cell_al | apply cell_drew_l)) (by repeat (first | (go_simp; done) | (apply cellIn (by assumption)) | apply cell_al | apply cell_drew_l))); rintro e w1 ⟨rfl, hb⟩; have HB := Lib.hid hb; clear hb))
      | ((go_at_call 50; go_fit (each_any _ _ _); rintro e w1 ⟨rfl, rfl⟩)))
  all_goals
    have HBB := Lib.hid (show Below w.heap.size w w1 by repeat (first | exact Below.refl _ _ | apply below_alloc_l | apply below_drew_l | apply belowIn (by assumption)))
    go_wp2
    go_ret
    exact ⟨⟨_, rfl, pts3 _ _ _ _ _ _ w1 HBB.out.size⟩, below_alloc_l (below_alloc_l HBB.out)⟩
end Go.Proofs.YtmpokhdljlnllaaDoor
