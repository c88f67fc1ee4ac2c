/- Contracts of lettersOnly, rightAlone and argument of package item, and of the document's text: of every text, and item. -/
import Derived.Test.YtljfgchmogdljaaGreatDoorIOpen
import Derived.Test.YtljfgchmogdljaaGreatDoorG5
import Derived.Test.YtljfgchmogdljaaGreatDoorHWays
import Derived.LoopTactic
import Derived.Deep.RegionWith
import Derived.BigQuiet
import Derived.Deep.QuietTactic
set_option linter.unusedVariables false
set_option linter.unusedSimpArgs false
namespace Go.Proofs.YtljfgchmogdljaaGreatDoor
open Go.RowKit

/-- Is a byte from 20 to 7e? -/
def letB (b : UInt8) : Bool := decide (32 ≤ b.toNat) && decide (b.toNat ≤ 126)
theorem txtB_snoc (l : List UInt8) (b : UInt8) : txtB (l ++ [b]) = (txtB l && letB b) := by simp [txtB, letB, List.all_append]
theorem txtB_first {s : ByteArray} (h : txtB s.data.toList = true) (j : Nat) : txtB (firstB s j) = true := by
  unfold txtB at h ⊢
  rw [List.all_eq_true] at h ⊢
  exact fun b hb => h b (List.mem_of_mem_take hb)
set_option maxRecDepth 100000 in
set_option maxHeartbeats 1000000 in
theorem letters_any (s : ByteArray) (w : World) (hs : s.size ≤ maxLen) :
    Calls Tryz.prog 54 #[.string s] w fun e w' => e = .returned (.bool (txtB s.data.toList)) ∧ w = w' := by
  unfold maxLen at hs
  go_enter Tryz.func54, Tryz.ntmps54
  go_wp2_with fail
  go_loop [6] (fun i => ∃ j : Nat, j ≤ s.size ∧ i = .int .i64 (j : Int) ∧ txtB (firstB s j) = true) (fun i => s.size - (intOf i).toNat)
  case atStart => exact ⟨0, Nat.zero_le _, rfl, rfl⟩
  case round =>
    obtain ⟨j, hj, rfl, hv⟩ := hrel
    have HV := Lib.hid hv
    clear hv
    by_cases hlt : j < s.size
    · have HS := Lib.hid (show txtB (firstB s (j + 1)) = (txtB (firstB s j) && letB s[j]) by rw [firstB_succ s j hlt, txtB_snoc])
      have HN := Lib.hid (fun h : txtB s.data.toList = true => txtB_first h (j + 1))
      have HB := Lib.hid (show letB s[j] = (decide (32 ≤ s[j].toNat) && decide (s[j].toNat ≤ 126)) from rfl)
      have hb := s[j].toNat_lt
      by_cases h1 : s[j].toNat < 32
      · have b1 : decide ((s[j].toNat : Int) < 32) = true := by simp; omega
        have HR := Lib.hid (show txtB s.data.toList = false by
          cases h : txtB s.data.toList with
          | false => rfl
          | true =>
            have := HN.out h
            rw [HS.out, HB.out] at this
            simp at this
            omega)
        clear h1
        go_wp2
        go_ret
        exact ⟨by rw [HR.out]; rfl, rfl⟩
      · have b1 : decide ((s[j].toNat : Int) < 32) = false := by simp; omega
        by_cases h2 : 126 < s[j].toNat
        · have b2 : decide (126 < (s[j].toNat : Int)) = true := by simp; omega
          have HR := Lib.hid (show txtB s.data.toList = false by
            cases h : txtB s.data.toList with
            | false => rfl
            | true =>
              have := HN.out h
              rw [HS.out, HB.out] at this
              simp at this
              omega)
          clear h1 h2
          go_wp2
          go_ret
          exact ⟨by rw [HR.out]; rfl, rfl⟩
        · have b2 : decide (126 < (s[j].toNat : Int)) = false := by simp; omega
          have HR := Lib.hid (show txtB (firstB s (j + 1)) = true by
            rw [HS.out, HB.out, HV.out]
            simp
            omega)
          clear h1 h2
          go_wp2
          go_round
          case rel => exact ⟨j + 1, by omega, by go_num, HR.out⟩
          case measure => simp [intOf]; omega
    · obtain rfl : j = s.size := by omega
      rw [firstB_all] at HV
      go_wp2
      go_ret
      exact ⟨by rw [HV.out]; rfl, rfl⟩

set_option maxRecDepth 100000 in
set_option maxHeartbeats 1000000 in
theorem refText_any (s : ByteArray) (w : World) (hs : s.size ≤ maxLen) :
    Calls Tryz.prog 48 #[.string s] w fun e w' => e = .returned (.bool (txtB s.data.toList)) ∧ w = w' := by
  unfold maxLen at hs
  go_enter Tryz.func48, Tryz.ntmps48
  go_wp2_with fail
  go_loop [3] (fun i => ∃ j : Nat, j ≤ s.size ∧ i = .int .i64 (j : Int) ∧ txtB (firstB s j) = true) (fun i => s.size - (intOf i).toNat)
  case atStart => exact ⟨0, Nat.zero_le _, rfl, rfl⟩
  case round =>
    obtain ⟨j, hj, rfl, hv⟩ := hrel
    have HV := Lib.hid hv
    clear hv
    by_cases hlt : j < s.size
    · have HS := Lib.hid (show txtB (firstB s (j + 1)) = (txtB (firstB s j) && letB s[j]) by rw [firstB_succ s j hlt, txtB_snoc])
      have HN := Lib.hid (fun h : txtB s.data.toList = true => txtB_first h (j + 1))
      have HB := Lib.hid (show letB s[j] = (decide (32 ≤ s[j].toNat) && decide (s[j].toNat ≤ 126)) from rfl)
      have hb := s[j].toNat_lt
      by_cases h1 : s[j].toNat < 32
      · have b1 : decide ((s[j].toNat : Int) < 32) = true := by simp; omega
        have HR := Lib.hid (show txtB s.data.toList = false by
          cases h : txtB s.data.toList with
          | false => rfl
          | true =>
            have := HN.out h
            rw [HS.out, HB.out] at this
            simp at this
            omega)
        clear h1
        go_wp2
        go_ret
        exact ⟨by rw [HR.out]; rfl, rfl⟩
      · have b1 : decide ((s[j].toNat : Int) < 32) = false := by simp; omega
        by_cases h2 : 126 < s[j].toNat
        · have b2 : decide (126 < (s[j].toNat : Int)) = true := by simp; omega
          have HR := Lib.hid (show txtB s.data.toList = false by
            cases h : txtB s.data.toList with
            | false => rfl
            | true =>
              have := HN.out h
              rw [HS.out, HB.out] at this
              simp at this
              omega)
          clear h1 h2
          go_wp2
          go_ret
          exact ⟨by rw [HR.out]; rfl, rfl⟩
        · have b2 : decide (126 < (s[j].toNat : Int)) = false := by simp; omega
          have HR := Lib.hid (show txtB (firstB s (j + 1)) = true by
            rw [HS.out, HB.out, HV.out]
            simp
            omega)
          clear h1 h2
          go_wp2
          go_round
          case rel => exact ⟨j + 1, by omega, by go_num, HR.out⟩
          case measure => simp [intOf]; omega
    · obtain rfl : j = s.size := by omega
      rw [firstB_all] at HV
      go_wp2
      go_ret
      exact ⟨by rw [HV.out]; rfl, rfl⟩

set_option maxRecDepth 100000 in
set_option maxHeartbeats 1000000 in
theorem iarg_any (k n : Int) (s : List UInt8) (l : List Itm) (p : Option Addr) (cap : Nat) (w : World) :
    Calls Tryz.prog 40 #[.agg #[.int .i64 k, .int .i64 n, .string ⟨s.toArray⟩, .slice p l.length cap]] w fun e w' => e = .returned (.int .i64 (if k = 4 then (l.length : Int) else if k = 0 then n else (s.length : Int))) ∧ Below w.heap.size w w' := by
  by_cases h0 : k = 0
  · subst h0
    go_enter Tryz.func40, Tryz.ntmps40
    go_wp2
    go_ret
    exact ⟨rfl, (Below.refl _ _).alloc (Nat.le_refl _) _⟩
  by_cases h4 : k = 4
  · subst h4
    go_enter Tryz.func40, Tryz.ntmps40
    go_wp2
    go_ret
    exact ⟨rfl, (Below.refl _ _).alloc (Nat.le_refl _) _⟩
  have b0 : (k == 0) = false := by simpa using h0
  have b4 : (k == 4) = false := by simpa using h4
  rw [if_neg h4, if_neg h0]
  clear h0 h4
  go_enter Tryz.func40, Tryz.ntmps40
  go_wp2
  go_ret
  exact ⟨rfl, (Below.refl _ _).alloc (Nat.le_refl _) _⟩

theorem size_list {s : List UInt8} {m : Nat} (h : s.length ≤ m) : (⟨s.toArray⟩ : ByteArray).size ≤ m := by simpa [ByteArray.size] using h
theorem lenB (l : List Itm) : ((l.length : Int) == 0) = l.isEmpty := by cases l <;> simp <;> omega
theorem own0 (n : Int) (s : List UInt8) (l : List Itm) : ownB 0 n s l = (rightB n && s.isEmpty && l.isEmpty) := by simp [ownB, rightB]
theorem own2 (n : Int) (s : List UInt8) (l : List Itm) : ownB 2 n s l = ((n == 0) && decide ((s.length : Int) ≤ 600) && l.isEmpty) := by
  have : decide (s.length ≤ 600) = decide ((s.length : Int) ≤ 600) := by rw [decide_eq_decide]; omega
  have e : decide (n = 0) = (n == 0) := rfl
  simp only [ownB]
  rw [this, e]
  simp
theorem own3 (n : Int) (s : List UInt8) (l : List Itm) : ownB 3 n s l = ((n == 0) && decide ((s.length : Int) ≤ 600) && txtB s && l.isEmpty) := by
  have : decide (s.length ≤ 600) = decide ((s.length : Int) ≤ 600) := by rw [decide_eq_decide]; omega
  have e : decide (n = 0) = (n == 0) := rfl
  simp only [ownB]
  rw [this, e]
  cases decide ((s.length : Int) ≤ 600) <;> cases txtB s <;> cases l.isEmpty <;> simp
theorem own4 (n : Int) (s : List UInt8) (l : List Itm) : ownB 4 n s l = ((n == 0) && s.isEmpty) := by
  have e : decide (n = 0) = (n == 0) := rfl
  simp only [ownB]
  rw [e]
  simp
theorem ownX {k : Int} (n : Int) (s : List UInt8) (l : List Itm) (h0 : (k == 0) = false) (h2 : (k == 2) = false) (h3 : (k == 3) = false) (h4 : (k == 4) = false) : ownB k n s l = false := by
  simp only [beq_eq_false_iff_ne, ne_eq] at h0 h2 h3 h4
  simp [ownB, h0, h2, h3, h4]

set_option maxRecDepth 100000 in
set_option maxHeartbeats 1000000 in
theorem alone0 (n : Int) (s : List UInt8) (l : List Itm) (p : Option Addr) (cap : Nat) (w : World) (hs : s.length ≤ maxLen) :
    Calls Tryz.prog 34 #[.agg #[.int .i64 0, .int .i64 n, .string ⟨s.toArray⟩, .slice p l.length cap]] w fun e w' => e = .returned (.bool (ownB 0 n s l)) ∧ Below w.heap.size w w' := by
  rw [own0]
  go_enter Tryz.func34, Tryz.ntmps34
  go_wp2_with (go_at_call 53; refine (right_any _ _).mono ?_; rintro e w' ⟨rfl, rfl⟩)
  all_goals
    go_ret
    refine ⟨?_, (Below.refl _ _).alloc (Nat.le_refl _) _⟩
    simp_all [lenB]
    all_goals (try (intro; omega))
set_option maxRecDepth 100000 in
set_option maxHeartbeats 1000000 in
theorem alone2 (n : Int) (s : List UInt8) (l : List Itm) (p : Option Addr) (cap : Nat) (w : World) (hs : s.length ≤ maxLen) :
    Calls Tryz.prog 34 #[.agg #[.int .i64 2, .int .i64 n, .string ⟨s.toArray⟩, .slice p l.length cap]] w fun e w' => e = .returned (.bool (ownB 2 n s l)) ∧ Below w.heap.size w w' := by
  rw [own2]
  go_enter Tryz.func34, Tryz.ntmps34
  go_wp2_with fail
  all_goals
    go_ret
    refine ⟨?_, (Below.refl _ _).alloc (Nat.le_refl _) _⟩
    simp_all [lenB]
    all_goals (try (intro; omega))
set_option maxRecDepth 100000 in
set_option maxHeartbeats 1000000 in
theorem alone3 (n : Int) (s : List UInt8) (l : List Itm) (p : Option Addr) (cap : Nat) (w : World) (hs : s.length ≤ maxLen) :
    Calls Tryz.prog 34 #[.agg #[.int .i64 3, .int .i64 n, .string ⟨s.toArray⟩, .slice p l.length cap]] w fun e w' => e = .returned (.bool (ownB 3 n s l)) ∧ Below w.heap.size w w' := by
  rw [own3]
  go_enter Tryz.func34, Tryz.ntmps34
  go_wp2_with (go_at_call 54; refine (letters_any _ _ (size_list hs)).mono ?_; rintro e w' ⟨rfl, rfl⟩)
  all_goals
    go_ret
    refine ⟨?_, (Below.refl _ _).alloc (Nat.le_refl _) _⟩
    simp_all [lenB]
    all_goals (try (intro; omega))
set_option maxRecDepth 100000 in
set_option maxHeartbeats 1000000 in
theorem alone4 (n : Int) (s : List UInt8) (l : List Itm) (p : Option Addr) (cap : Nat) (w : World) (hs : s.length ≤ maxLen) :
    Calls Tryz.prog 34 #[.agg #[.int .i64 4, .int .i64 n, .string ⟨s.toArray⟩, .slice p l.length cap]] w fun e w' => e = .returned (.bool (ownB 4 n s l)) ∧ Below w.heap.size w w' := by
  rw [own4]
  go_enter Tryz.func34, Tryz.ntmps34
  go_wp2_with fail
  all_goals
    go_ret
    refine ⟨?_, (Below.refl _ _).alloc (Nat.le_refl _) _⟩
    simp_all [lenB]
    all_goals (try (intro; omega))
set_option maxRecDepth 100000 in
set_option maxHeartbeats 1000000 in
theorem alone_any (k n : Int) (s : List UInt8) (l : List Itm) (p : Option Addr) (cap : Nat) (w : World) (hs : s.length ≤ maxLen) :
    Calls Tryz.prog 34 #[.agg #[.int .i64 k, .int .i64 n, .string ⟨s.toArray⟩, .slice p l.length cap]] w fun e w' => e = .returned (.bool (ownB k n s l)) ∧ Below w.heap.size w w' := by
  cases h0 : (k == 0)
  case true => obtain rfl : k = 0 := by simpa using h0
               exact alone0 n s l p cap w hs
  cases h2 : (k == 2)
  case true => obtain rfl : k = 2 := by simpa using h2
               exact alone2 n s l p cap w hs
  cases h3 : (k == 3)
  case true => obtain rfl : k = 3 := by simpa using h3
               exact alone3 n s l p cap w hs
  cases h4 : (k == 4)
  case true => obtain rfl : k = 4 := by simpa using h4
               exact alone4 n s l p cap w hs
  rw [ownX n s l h0 h2 h3 h4]
  go_enter Tryz.func34, Tryz.ntmps34
  go_wp2
  go_ret
  exact ⟨rfl, (Below.refl _ _).alloc (Nat.le_refl _) _⟩
end Go.Proofs.YtljfgchmogdljaaGreatDoor
