/- What shown, of the statements' package 02, answers: true. -/
import Derived.Test.YtajeanmmelldnaaDoorSRefs2
set_option linter.unusedVariables false
set_option linter.unusedSimpArgs false
namespace Go.Proofs.YtajeanmmelldnaaDoor
open Go.RowKit

theorem IntsRd.new (w : World) (xs : List Int) (cs : Array Value) (hcs : cs = (xs.map (Value.int .i64)).toArray) (t : TypeId) : IntsRd (w.alloc (.cells cs t)) (some ⟨w.heap.size, 0, none⟩) xs := by
  subst hcs
  intro j x hj
  refine ⟨_, rfl, ?_⟩
  have e : (⟨w.heap.size, 0, none⟩ : Addr).add j = ⟨w.heap.size, j, none⟩ := by unfold Addr.add; split <;> simp_all
  rw [e, World.cell?_alloc_at _ _ _ _ rfl]
  simp [hj]

theorem intsB_self (xs : List Int) : intsB xs xs = true := by simp [intsB]

set_option maxRecDepth 100000 in
set_option maxHeartbeats 2000000 in
theorem shown_any (w : World) (hG : EnvE w) :
    Calls Tryd.prog 11 #[] w fun e w' => e = .returned (.bool true) ∧ Below w.heap.size w w' := by
  have r1 := Lib.hid (show encR 300 = (⟨#[130, 44]⟩, 0) by rw [encR_ok (by decide)]; simp [grpL, hiL_pos, hiL_zero])
  have r2 := Lib.hid (show decR ⟨#[97, 130, 44]⟩ 1 = (300, 3, 0) by decide +kernel)
  have r3 := Lib.hid (show decR ⟨#[128, 1]⟩ 0 = (0, 0, 20) by decide +kernel)
  have r4 := Lib.hid (show decR ⟨#[128]⟩ 0 = (0, 0, 11) by decide +kernel)
  have r5 := Lib.hid (show allL (⟨#[127, 129, 0]⟩ : ByteArray).data.toList = .ok [127, 128] by rfl)
  have r6 := Lib.hid (intsB_self [127, 128])
  go_enter Tryd.func11, Tryd.ntmps11
  go_wp2_with fail
  refine (encode_any _ _ hG).mono ?_
  rintro e w1 ⟨rfl, hb1⟩
  rw [r1.out]
  have hG1 := hG.below hb1
  go_wp2_with fail
  refine (decode_any _ _ _ hG1 (by decide)).mono ?_
  rintro e w2 ⟨rfl, hb2⟩
  rw [r2.out]
  have hG2 := hG1.below hb2
  replace hb2 := hb1.trans (hb2.mono hb1.size)
  go_wp2_with fail
  refine (decode_any _ _ _ hG2 (by decide)).mono ?_
  rintro e w3 ⟨rfl, hb3⟩
  rw [r3.out]
  have hG3 := hG2.below hb3
  replace hb3 := hb2.trans (hb3.mono hb2.size)
  go_wp2_with fail
  refine (decode_any _ _ _ hG3 (by decide)).mono ?_
  rintro e w4 ⟨rfl, hb4⟩
  rw [r4.out]
  have hG4 := hG3.below hb4
  replace hb4 := hb3.trans (hb4.mono hb3.size)
  go_wp2_with fail
  refine (all_any _ _ hG4 (by decide)).mono ?_
  rintro e w5 ⟨⟨k, ha, _⟩ | ⟨ns, A, ha, hr, rfl⟩, hb5⟩
  · rw [r5.out] at ha; cases ha
  obtain rfl : [127, 128] = ns := by rw [r5.out] at ha; injection ha
  replace hb5 := hb4.trans (hb5.mono hb4.size)
  have HR := Lib.hid hr
  have HB := Lib.hid hb5
  clear ha hr hb1 hb2 hb3 hb4 hb5 hG1 hG2 hG3 hG4
  go_wp2_with fail
  refine (ints_any [127, 128] [127, 128] A (some ⟨w5.heap.size, 0, none⟩) 2 2 _ (by decide) (by decide) (HR.out.below ((Below.refl _ _).alloc (Nat.le_refl _) _)) (IntsRd.new w5 [127, 128] _ rfl _)).mono ?_
  rintro e w6 ⟨rfl, hb6⟩
  rw [r6.out]
  go_wp2
  go_ret
  exact ⟨rfl, HB.out.trans (((Below.refl _ _).alloc (Nat.le_refl _) _).trans (hb6.mono (by simp)) |>.mono HB.out.size)⟩
end Go.Proofs.YtajeanmmelldnaaDoor
