/- slices.Contains at []bool (asked for false) and at []rune: whether it is among the elements; nothing is changed. -/
import Derived.Test.YtmpokhdljlnllaaDoorChecked
import Derived.WalkKit
import Derived.WalkSpells
import Derived.WalkLawsBesides
import Derived.Lib.Hide
import Derived.Laws.ResultCell
import Derived.LoopTactic
set_option linter.unusedVariables false
set_option linter.unusedSimpArgs false
namespace Go.Proofs.YtmpokhdljlnllaaDoor
open Go.RowKit

/-- Is false among them? -/
def hasF (bs : List Bool) : Bool := bs.contains false
/-- Is it among them? -/
def hasZ (zs : List Int) (x : Int) : Bool := zs.contains x

set_option maxHeartbeats 1000000 in
theorem idxB_any (b n cap : Nat) (bs : List Bool) (w : World) (hn : bs.length = n) (hbig : n ≤ 1000) (hc : ∀ j, j < n → w.cell? ⟨b, j, none⟩ = some (.bool bs[j]!)) :
    Calls Tryd.prog 68 #[.slice (some ⟨b, 0, none⟩) n cap, .bool false] w fun e w' => (∃ i : Int, e = .returned (.int .i64 i) ∧ decide (0 ≤ i) = hasF bs) ∧ w' = w := by
  go_enter Tryd.func68, Tryd.ntmps68
  go_wp2
  go_loop [5, 8] (fun _ i => ∃ k : Nat, k ≤ n ∧ i = .int .i64 k ∧ ∀ j, j < k → bs[j]! = true) (fun _ i => n - (intOf i).toNat)
  case atStart => exact ⟨0, Nat.zero_le _, rfl, fun j hj => absurd hj (Nat.not_lt_zero _)⟩
  case round =>
    obtain ⟨k, hk, rfl, hne⟩ := hrel
    have HN := Lib.hid hne
    have HL := Lib.hid hn
    clear hne hn
    obtain ⟨v, hv⟩ : ∃ v, v = bs[k]! := ⟨_, rfl⟩
    have hcell : k < n → w.cell? ⟨b, k, none⟩ = some (.bool v) := fun h => by rw [hv]; exact hc k h
    have HV := Lib.hid hv
    clear hv hc
    by_cases hlt : k < n
    · replace hcell := hcell hlt
      cases v with
      | false =>
        go_wp2
        go_ret
        refine ⟨⟨_, rfl, ?_⟩, rfl⟩
        have : false ∈ bs := by
          have hk2 : k < bs.length := by rw [HL.out]; exact hlt
          have := HV.out
          rw [getElem!_pos bs k hk2] at this
          rw [this]
          exact List.getElem_mem _
        rw [show hasF bs = true from List.contains_iff_mem.2 this]
        simp
      | true =>
        go_wp2
        go_round
        case rel =>
          refine ⟨k + 1, by omega, by go_num, fun j hj => ?_⟩
          by_cases e : j = k
          · subst e
            exact HV.out.symm
          · exact HN.out j (by omega)
        case measure => simp [intOf]; omega
    · clear hcell
      go_wp2
      go_ret
      refine ⟨⟨_, rfl, ?_⟩, rfl⟩
      have : ¬ (false ∈ bs) := fun hm => by
        obtain ⟨j, hj, e⟩ := List.mem_iff_getElem.1 hm
        have h1 := HN.out j (by rw [HL.out] at hj; omega)
        rw [getElem!_pos bs j hj, e] at h1
        cases h1
      rw [show hasF bs = false by unfold hasF; rw [← Bool.not_eq_true, List.contains_iff_mem]; exact this]
      decide

set_option maxHeartbeats 400000 in
theorem idxB_nil (a : Option Addr) (cap : Nat) (w : World) :
    Calls Tryd.prog 68 #[.slice a 0 cap, .bool false] w fun e w' => e = .returned (.int .i64 (-1)) ∧ w' = w := by
  go_enter Tryd.func68, Tryd.ntmps68
  go_wp2
  go_loop [5, 8] (fun _ i => i = .int .i64 0) (fun _ _ => 0)
  case atStart => rfl
  case round =>
    subst hrel
    go_wp2
    go_ret
    exact ⟨rfl, rfl⟩

set_option maxHeartbeats 400000 in
theorem hasB_any (b n cap : Nat) (bs : List Bool) (w : World) (hn : bs.length = n) (hbig : n ≤ 1000) (hc : ∀ j, j < n → w.cell? ⟨b, j, none⟩ = some (.bool bs[j]!)) :
    Calls Tryd.prog 62 #[.slice (some ⟨b, 0, none⟩) n cap, .bool false] w fun e w' => e = .returned (.bool (hasF bs)) ∧ w' = w := by
  have HC := Lib.hid (idxB_any b n cap bs w hn hbig hc)
  clear hn hc
  go_enter Tryd.func62, Tryd.ntmps62
  go_wp2_with fail
  refine HC.out.mono ?_
  rintro e w' ⟨⟨i, rfl, hi⟩, rfl⟩
  go_wp2
  go_ret
  exact ⟨by rw [← hi]; rfl, rfl⟩

set_option maxHeartbeats 400000 in
theorem hasB_nil (a : Option Addr) (cap : Nat) (w : World) :
    Calls Tryd.prog 62 #[.slice a 0 cap, .bool false] w fun e w' => e = .returned (.bool false) ∧ w' = w := by
  go_enter Tryd.func62, Tryd.ntmps62
  go_wp2_with fail
  refine (idxB_nil a cap w).mono ?_
  rintro e w' ⟨rfl, rfl⟩
  go_wp2
  go_ret
  exact ⟨rfl, rfl⟩

set_option maxHeartbeats 1000000 in
theorem idxR_any (b n cap : Nat) (zs : List Int) (x : Int) (w : World) (hn : zs.length = n) (hbig : n ≤ 1000) (hc : ∀ j, j < n → w.cell? ⟨b, j, none⟩ = some (.int .i32 zs[j]!)) :
    Calls Tryd.prog 69 #[.slice (some ⟨b, 0, none⟩) n cap, .int .i32 x] w fun e w' => (∃ i : Int, e = .returned (.int .i64 i) ∧ decide (0 ≤ i) = hasZ zs x) ∧ w' = w := by
  go_enter Tryd.func69, Tryd.ntmps69
  go_wp2
  go_loop [5, 8] (fun _ i => ∃ k : Nat, k ≤ n ∧ i = .int .i64 k ∧ ∀ j, j < k → zs[j]! ≠ x) (fun _ i => n - (intOf i).toNat)
  case atStart => exact ⟨0, Nat.zero_le _, rfl, fun j hj => absurd hj (Nat.not_lt_zero _)⟩
  case round =>
    obtain ⟨k, hk, rfl, hne⟩ := hrel
    have HN := Lib.hid hne
    have HL := Lib.hid hn
    clear hne hn
    obtain ⟨v, hv⟩ : ∃ v, v = zs[k]! := ⟨_, rfl⟩
    have hcell : k < n → w.cell? ⟨b, k, none⟩ = some (.int .i32 v) := fun h => by rw [hv]; exact hc k h
    have HV := Lib.hid hv
    clear hv hc
    by_cases hlt : k < n
    · replace hcell := hcell hlt
      by_cases hx : x = v
      · have HX := Lib.hid hx
        have hxb : (x == v) = true := by simpa using hx
        clear hx
        go_wp2
        go_ret
        refine ⟨⟨_, rfl, ?_⟩, rfl⟩
        have : x ∈ zs := by
          have hk2 : k < zs.length := by rw [HL.out]; exact hlt
          have := HV.out
          rw [getElem!_pos zs k hk2, ← HX.out] at this
          rw [this]
          exact List.getElem_mem _
        rw [show hasZ zs x = true from List.contains_iff_mem.2 this]
        simp
      · have HX := Lib.hid hx
        have hxb : (x == v) = false := by simpa using hx
        clear hx
        go_wp2
        go_round
        case rel =>
          refine ⟨k + 1, by omega, by go_num, fun j hj => ?_⟩
          by_cases e : j = k
          · subst e
            rw [← HV.out]
            exact Ne.symm HX.out
          · exact HN.out j (by omega)
        case measure => simp [intOf]; omega
    · clear hcell
      go_wp2
      go_ret
      refine ⟨⟨_, rfl, ?_⟩, rfl⟩
      have : ¬ (x ∈ zs) := fun hm => by
        obtain ⟨j, hj, e⟩ := List.mem_iff_getElem.1 hm
        have h1 := HN.out j (by rw [HL.out] at hj; omega)
        rw [getElem!_pos zs j hj] at h1
        exact h1 e
      rw [show hasZ zs x = false by unfold hasZ; rw [← Bool.not_eq_true, List.contains_iff_mem]; exact this]
      decide

set_option maxHeartbeats 400000 in
theorem hasR_any (b n cap : Nat) (zs : List Int) (x : Int) (w : World) (hn : zs.length = n) (hbig : n ≤ 1000) (hc : ∀ j, j < n → w.cell? ⟨b, j, none⟩ = some (.int .i32 zs[j]!)) :
    Calls Tryd.prog 63 #[.slice (some ⟨b, 0, none⟩) n cap, .int .i32 x] w fun e w' => e = .returned (.bool (hasZ zs x)) ∧ w' = w := by
  have HC := Lib.hid (idxR_any b n cap zs x w hn hbig hc)
  clear hn hc
  go_enter Tryd.func63, Tryd.ntmps63
  go_wp2_with fail
  refine HC.out.mono ?_
  rintro e w' ⟨⟨i, rfl, hi⟩, rfl⟩
  go_wp2
  go_ret
  exact ⟨by rw [← hi]; rfl, rfl⟩
end Go.Proofs.YtmpokhdljlnllaaDoor
