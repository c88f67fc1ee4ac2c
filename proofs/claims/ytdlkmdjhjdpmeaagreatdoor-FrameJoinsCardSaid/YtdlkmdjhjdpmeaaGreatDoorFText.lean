/- The text of package frame that is read from a place on: number, cut. -/
import Derived.Test.YtdlkmdjhjdpmeaaGreatDoorFFrame1
set_option linter.unusedVariables false
set_option linter.unusedSimpArgs false
namespace Go.Proofs.YtdlkmdjhjdpmeaaGreatDoor
open Go.RowKit

set_option maxRecDepth 100000 in
set_option maxHeartbeats 2000000 in
theorem fnum_any (X n : Nat) (t : TypeId) (s : ByteArray) (a k : Int) (tv : Value) (w : World) (hE : FrN n w) (hnX : n ≤ X) (hX : Blk w X t #[.string s, .int .i64 a, tv]) (hs : s.size ≤ 9223372036854775807) :
    Calls Tryz.prog 57 #[.pointer (some ⟨X, 0, none⟩), .int .i64 k] w fun e w' => e = .returned (.int .i64 (takeR s a k).1) ∧ Blk w' X t #[.string s, .int .i64 (wrap64 (a + k)), tv] ∧ Only X X w w' := by
  have c0 : w.cell? ⟨X, 0, none⟩ = some (.string s) := hX.cell 0
  have c1 : w.cell? ⟨X, 1, none⟩ = some (.int .i64 a) := hX.cell 1
  have hXl := hX.lt
  have HX := Lib.hid hX
  obtain ⟨⟨a0, a1, a2, hE0⟩, _⟩ := hE.ok
  have HE := Lib.hid hE0
  clear hX hE hE0
  go_enter Tryz.func57, Tryz.ntmps57
  go_wp2
  have hcum : Below w.heap.size w w.drew := (Below.refl w.heap.size w).drew
  go_region_held3 (fun w' => w'.cell? ⟨X, 0, none⟩ = some (.string s) ∧ w'.cell? ⟨X, 1, none⟩ = some (.int .i64 a))
    (first
      | exact ⟨(hcum.cell (p := ⟨X, 0, none⟩) hXl).trans c0, (hcum.cell (p := ⟨X, 1, none⟩) hXl).trans c1⟩
      | go_keep)
    (first
      | ((go_at_call 65; refine (take_any a0 a1 a2 s a k _ (HE.out.below hcum) hs).mono ?_; rintro e v1 ⟨rfl, hb1⟩; replace hcum := hcum.trans (hb1.mono hcum.size); clear hb1)))
  have HB := Lib.hid hcum
  have hX1 := HX.out.here hcum
  clear c0 c1 hcum
  have c0 : v1.cell? ⟨X, 0, none⟩ = some (.string s) := hX1.cell 0
  have c1 : v1.cell? ⟨X, 1, none⟩ = some (.int .i64 a) := hX1.cell 1
  have f1 := hX1.frozen 1
  have HX1 := Lib.hid hX1
  clear hX1
  go_wp2
  go_ret
  refine ⟨rfl, ?_, (Only.ofBelow HB.out).sa 1 _⟩
  have := HX1.out.set_ 1 (.int .i64 (wrap64 (a + k)))
  simpa using this

set_option maxRecDepth 100000 in
set_option maxHeartbeats 2000000 in
theorem fcut_any (X n : Nat) (t : TypeId) (s : ByteArray) (a k : Int) (tv : Value) (w : World) (hE : FrN n w) (hnX : n ≤ X) (hX : Blk w X t #[.string s, .int .i64 a, tv]) (hs : s.size ≤ 281474976710656) :
    Calls Tryz.prog 58 #[.pointer (some ⟨X, 0, none⟩), .int .i64 k] w fun e w' => e = .returned (.string (cutR s a k).1) ∧ Blk w' X t #[.string s, .int .i64 (wrap64 (a + k)), tv] ∧ Only X X w w' := by
  have c0 : w.cell? ⟨X, 0, none⟩ = some (.string s) := hX.cell 0
  have c1 : w.cell? ⟨X, 1, none⟩ = some (.int .i64 a) := hX.cell 1
  have hXl := hX.lt
  have HX := Lib.hid hX
  obtain ⟨⟨a0, a1, a2, hE0⟩, _⟩ := hE.ok
  have HE := Lib.hid hE0
  clear hX hE hE0
  go_enter Tryz.func58, Tryz.ntmps58
  go_wp2
  have hcum : Below w.heap.size w w.drew := (Below.refl w.heap.size w).drew
  go_region_held3 (fun w' => w'.cell? ⟨X, 0, none⟩ = some (.string s) ∧ w'.cell? ⟨X, 1, none⟩ = some (.int .i64 a))
    (first
      | exact ⟨(hcum.cell (p := ⟨X, 0, none⟩) hXl).trans c0, (hcum.cell (p := ⟨X, 1, none⟩) hXl).trans c1⟩
      | go_keep)
    (first
      | ((go_at_call 66; refine (cut_any a0 a1 a2 s a k _ (HE.out.below hcum) hs).mono ?_; rintro e v1 ⟨rfl, hb1⟩; replace hcum := hcum.trans (hb1.mono hcum.size); clear hb1)))
  have HB := Lib.hid hcum
  have hX1 := HX.out.here hcum
  clear c0 c1 hcum
  have c0 : v1.cell? ⟨X, 0, none⟩ = some (.string s) := hX1.cell 0
  have c1 : v1.cell? ⟨X, 1, none⟩ = some (.int .i64 a) := hX1.cell 1
  have f1 := hX1.frozen 1
  have HX1 := Lib.hid hX1
  clear hX1
  go_wp2
  go_ret
  refine ⟨rfl, ?_, (Only.ofBelow HB.out).sa 1 _⟩
  have := HX1.out.set_ 1 (.int .i64 (wrap64 (a + k)))
  simpa using this
end Go.Proofs.YtdlkmdjhjdpmeaaGreatDoor
