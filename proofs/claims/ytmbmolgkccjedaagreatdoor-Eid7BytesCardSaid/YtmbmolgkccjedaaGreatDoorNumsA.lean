/- Contracts of the small functions of package nums (Right, rightWidth, good, bad) and of the document's Right, for every argument. -/
import Derived.Test.YtmbmolgkccjedaaGreatDoorChecked
import Derived.WalkKit
import Derived.WalkSpells
import Derived.WalkLawsBesides
import Derived.Lib.Hide
import Derived.Laws.ResultCell
import Derived.BigQuiet
import Derived.Deep.QuietTactic
set_option linter.unusedVariables false
set_option linter.unusedSimpArgs false
namespace Go.Proofs.YtmbmolgkccjedaaGreatDoor
open Go.RowKit

theorem u8_info : (Tryz.prog.info? 5).map (fun i => (i.zero, i.size, i.bytes)) = some (some (.int .u8 0), 1, 1) := by kernel_rfl

def rightB (n : Int) : Bool := decide (0 ≤ n) && decide (n ≤ 281474976710655)
def widthB (n : Int) : Bool := decide (1 ≤ n) && decide (n ≤ 8)

set_option maxHeartbeats 400000 in
theorem right_any (n : Int) (w : World) :
    Calls Tryz.prog 73 #[.int .i64 n] w fun e w' => e = .returned (.bool (rightB n)) ∧ w = w' := by
  unfold rightB
  by_cases h0 : 0 ≤ n
  · by_cases h1 : n ≤ 281474976710655
    · go_enter Tryz.func73, Tryz.ntmps73
      go_wp2
      go_ret
      exact ⟨by simp [h0, h1], rfl⟩
    · have h1' : decide (n ≤ 281474976710655) = false := by simpa using h1
      go_enter Tryz.func73, Tryz.ntmps73
      go_wp2
      go_ret
      exact ⟨by simp [h0, h1], rfl⟩
  · have h0' : decide (0 ≤ n) = false := by simpa using h0
    go_enter Tryz.func73, Tryz.ntmps73
    go_wp2
    go_ret
    exact ⟨by simp [h0], rfl⟩

set_option maxHeartbeats 400000 in
theorem width_any (n : Int) (w : World) :
    Calls Tryz.prog 171 #[.int .i64 n] w fun e w' => e = .returned (.bool (widthB n)) ∧ w = w' := by
  unfold widthB
  by_cases h0 : 1 ≤ n
  · by_cases h1 : n ≤ 8
    · go_enter Tryz.func171, Tryz.ntmps171
      go_wp2
      go_ret
      exact ⟨by simp [h0, h1], rfl⟩
    · have h1' : decide (n ≤ 8) = false := by simpa using h1
      go_enter Tryz.func171, Tryz.ntmps171
      go_wp2
      go_ret
      exact ⟨by simp [h0, h1], rfl⟩
  · have h0' : decide (1 ≤ n) = false := by simpa using h0
    go_enter Tryz.func171, Tryz.ntmps171
    go_wp2
    go_ret
    exact ⟨by simp [h0], rfl⟩

set_option maxHeartbeats 400000 in
theorem refRight_any (n : Int) (w : World) :
    Calls Tryz.prog 110 #[.int .i64 n] w fun e w' => e = .returned (.bool (rightB n)) ∧ w = w' := by
  unfold rightB
  by_cases h0 : 0 ≤ n
  · by_cases h1 : n ≤ 281474976710655
    · go_enter Tryz.func110, Tryz.ntmps110
      go_wp2
      go_ret
      exact ⟨by simp [h0, h1], rfl⟩
    · have h1' : decide (n ≤ 281474976710655) = false := by simpa using h1
      go_enter Tryz.func110, Tryz.ntmps110
      go_wp2
      go_ret
      exact ⟨by simp [h0, h1], rfl⟩
  · have h0' : decide (0 ≤ n) = false := by simpa using h0
    go_enter Tryz.func110, Tryz.ntmps110
    go_wp2
    go_ret
    exact ⟨by simp [h0], rfl⟩

set_option maxHeartbeats 400000 in
theorem bads_any (v : Value) (w : World) :
    Calls Tryz.prog 172 #[.iface 299 v] w fun e w' => e = .returned (.agg #[.string ⟨#[]⟩, .iface 299 v]) ∧ w.alloc (.cells #[.string ⟨#[]⟩, .iface 299 v] 242) = w' := by
  go_enter Tryz.func172, Tryz.ntmps172
  go_wp2
  exact bodyPost_ret (v := .agg #[.string ⟨#[]⟩, .iface 299 v]) (by simp [results, Tryz.results172, go_sem]) rfl ⟨rfl, rfl⟩

set_option maxHeartbeats 400000 in
theorem goods_any (s : ByteArray) (w : World) :
    Calls Tryz.prog 173 #[.string s] w fun e w' => e = .returned (.agg #[.string s, .nilIface]) ∧ w.alloc (.cells #[.string s, .nilIface] 242) = w' := by
  go_enter Tryz.func173, Tryz.ntmps173
  go_wp2
  exact bodyPost_ret (v := .agg #[.string s, .nilIface]) (by simp [results, Tryz.results173, go_sem]) rfl ⟨rfl, rfl⟩

set_option maxHeartbeats 400000 in
theorem badi_any (v : Value) (w : World) :
    Calls Tryz.prog 205 #[.iface 299 v] w fun e w' => e = .returned (.agg #[.int .i64 0, .iface 299 v]) ∧ w.alloc (.cells #[.int .i64 0, .iface 299 v] 304) = w' := by
  go_enter Tryz.func205, Tryz.ntmps205
  go_wp2
  exact bodyPost_ret (v := .agg #[.int .i64 0, .iface 299 v]) (by simp [results, Tryz.results205, go_sem]) rfl ⟨rfl, rfl⟩

set_option maxHeartbeats 400000 in
theorem goodi_any (n : Int) (w : World) :
    Calls Tryz.prog 207 #[.int .i64 n] w fun e w' => e = .returned (.agg #[.int .i64 n, .nilIface]) ∧ w.alloc (.cells #[.int .i64 n, .nilIface] 304) = w' := by
  go_enter Tryz.func207, Tryz.ntmps207
  go_wp2
  exact bodyPost_ret (v := .agg #[.int .i64 n, .nilIface]) (by simp [results, Tryz.results207, go_sem]) rfl ⟨rfl, rfl⟩

end Go.Proofs.YtmbmolgkccjedaaGreatDoor
