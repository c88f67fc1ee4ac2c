/- Contract of dtnParts of package eid. -/
import Derived.Test.YtmpokhdljlnllaaDoorEParts
set_option linter.unusedVariables false
set_option linter.unusedSimpArgs false
namespace Go.Proofs.YtmpokhdljlnllaaDoor
open Go.RowKit

set_option maxRecDepth 100000 in
set_option maxHeartbeats 4000000 in
theorem dtnParts_any (k : Int) (nd sv : ByteArray) (a b : Int) (w : World) :
    Calls Tryd.prog 43 #[nmV k nd sv a b] w fun e w' => (∃ v, e = .returned v ∧ Pts w.heap.size [(⟨#[47, 47]⟩, true), (nd, ndR nd), (⟨#[47]⟩, true), (sv, svR sv)] v w') ∧ Below w.heap.size w w' := by
  unfold nmV
  go_enter Tryd.func43, Tryd.ntmps43
  go_wp2_with fail
  go_region_held3 (fun w' => w'.cell? ⟨w.heap.size, 1, none⟩ = some (.string nd) ∧ w'.cell? ⟨w.heap.size, 2, none⟩ = some (.string sv))
    (first
      | (apply heldIn <;> assumption)
      | (apply held_alloc; assumption)
      | (refine ⟨?_, ?_⟩ <;> go_simp <;> done)
      | go_keep)
    (first
      | ((go_at_call 51; go_fit (must_nil _ _); rintro e w1 ⟨rfl, hb⟩; have HB := Lib.hid hb; clear hb))
      | ((go_at_call 51; go_fit (must3_any _ _ (!nd.toList.isEmpty) (decide ((nd.size : Int) ≤ 20)) (ndOk nd) _ _ (by repeat (first | (go_simp; done) | (apply cellIn (by assumption)) | apply cell_al | apply cell_drew_l)) (by repeat (first | (go_simp; done) | (apply cellIn (by assumption)) | apply cell_al | apply cell_drew_l)) (by repeat (first | (go_simp; done) | (apply cellIn (by assumption)) | apply cell_al | apply cell_drew_l))); rintro e w1 ⟨rfl, hb⟩; have HB := Lib.hid hb; clear hb))
      | ((go_at_call 51; go_fit (must2_any _ _ (decide ((sv.size : Int) ≤ 20)) (svOk sv) _ _ (by repeat (first | (go_simp; done) | (apply cellIn (by assumption)) | apply cell_al | apply cell_drew_l)) (by repeat (first | (go_simp; done) | (apply cellIn (by assumption)) | apply cell_al | apply cell_drew_l))); rintro e w1 ⟨rfl, hb⟩; have HB := Lib.hid hb; clear hb))
      | ((go_at_call 52; go_fit (plain2_any _ _ _ _ (by repeat (first | (go_simp; done) | (apply cellIn (by assumption)) | apply cell_al | apply cell_drew_l)) (by repeat (first | (go_simp; done) | (apply cellIn (by assumption)) | apply cell_al | apply cell_drew_l))); rintro e w1 ⟨rfl, hb⟩; have HB := Lib.hid hb; clear hb))
      | ((go_at_call 52; go_fit (plain3_any _ _ _ _ (by repeat (first | (go_simp; done) | (apply cellIn (by assumption)) | apply cell_al | apply cell_drew_l)) (by repeat (first | (go_simp; done) | (apply cellIn (by assumption)) | apply cell_al | apply cell_drew_l)) (by repeat (first | (go_simp; done) | (apply cellIn (by assumption)) | apply cell_al | apply cell_drew_l))); rintro e w1 ⟨rfl, hb⟩; have HB := Lib.hid hb; clear hb))
      | ((go_at_call 50; go_fit (each_any _ _ _); rintro e w1 ⟨rfl, rfl⟩)))
  all_goals
    have HBB := Lib.hid (show Below w.heap.size w w1 by repeat (first | exact Below.refl _ _ | apply below_alloc_l | apply below_drew_l | apply belowIn (by assumption)))
    go_wp2
    go_ret
    exact ⟨⟨_, rfl, pts4 _ _ _ _ _ _ _ _ w1 HBB.out.size⟩, below_alloc_l (below_alloc_l HBB.out)⟩
end Go.Proofs.YtmpokhdljlnllaaDoor
