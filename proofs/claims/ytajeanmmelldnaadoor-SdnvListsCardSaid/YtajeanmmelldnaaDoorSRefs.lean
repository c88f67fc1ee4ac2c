/- The document's Encode, Size, Decode, List, All and Ints answer as package sdnv's do; and what cut and Few of the statements' package answer. -/
import Derived.Test.YtajeanmmelldnaaDoorSAll
import Derived.LoopTactic
import Derived.Laws.IdiomStrings
set_option linter.unusedVariables false
set_option linter.unusedSimpArgs false
namespace Go.Proofs.YtajeanmmelldnaaDoor
open Go.RowKit

set_option maxRecDepth 100000 in
set_option maxHeartbeats 1000000 in
theorem refEncode_bad (n : Int) (w : World) (h : ¬ Num n) :
    Calls Tryd.prog 14 #[.int .i64 n] w fun e w' => e = .returned (.tuple #[.string ⟨#[]⟩, .int .i64 10]) ∧ Below w.heap.size w w' := by
  have hr : rightB n = false := rightB_neg (by unfold Num at h; omega)
  clear h
  go_enter Tryd.func14, Tryd.ntmps14
  go_wp2_with (go_at_call 27; refine (refRight_any _ _).mono ?_; rintro e w' ⟨rfl, rfl⟩)
  go_ret2
  exact ⟨rfl, Below.refl _ _⟩

/-- One byte as a text. -/
theorem one_byte (x : Nat) (v : Value) (hv : v = .int .u8 ((x : Nat) : Int)) (hx : x < 256) (w : World) : (convert 49 9 (.slice (some ⟨w.heap.size, 0, none⟩) 1 1)).run Tryd.prog (w.alloc (.cells #[v] 5)) = .ok (.string ⟨#[UInt8.ofNat x]⟩) (w.alloc (.cells #[v] 5)) := by
  subst hv
  have h := run_convert_bytes_back (P := Tryd.prog) (w.alloc (.cells #[.int .u8 ((x : Nat) : Int)] 5)) 49 9 5 ⟨w.heap.size, 0, none⟩ 1 [UInt8.ofNat x] Tryd.underlying49 Tryd.underlying5 Tryd.underlying9 (fun j hj => by
    obtain rfl : j = 0 := by simpa using hj
    have : x % 256 = x := Nat.mod_eq_of_lt hx
    simp [Addr.add, this])
  simpa using h

/-- What holds at a round's head of Encode. -/
structure EInv (n m : Nat) (l : List UInt8) : Prop where
  e : hiL (m / 128) ++ l = grpL n
  max : m ≤ 281474976710655
theorem EInv.len {n m : Nat} {l : List UInt8} (h : EInv n m l) (hn : n ≤ 281474976710655) : l.length ≤ 7 := by
  have h1 := congrArg List.length h.e
  have h2 := grpL_length hn
  rw [List.length_append] at h1
  omega
theorem EInv.step {n m : Nat} {l : List UInt8} (h : EInv n m l) (hm : 128 ≤ m) : EInv n (m / 128) (UInt8.ofNat (128 + m / 128 % 128) :: l) := by
  refine ⟨?_, by have := h.max; omega⟩
  have h1 := h.e
  rw [hiL_pos (by omega)] at h1
  simpa using h1

set_option maxRecDepth 100000 in
set_option maxHeartbeats 2000000 in
theorem refEncode_ok (n : Nat) (w : World) (hn : n ≤ 281474976710655) :
    Calls Tryd.prog 14 #[.int .i64 (n : Int)] w fun e w' => e = .returned (.tuple #[.string ⟨(grpL n).toArray⟩, .int .i64 0]) ∧ Below w.heap.size w w' := by
  have hr := rightB_yes hn
  have hcv := one_byte (n % 128) (.int .u8 ((n : Int) % 128)) (by simp) (by omega) w
  go_enter Tryd.func14, Tryd.ntmps14
  go_wp2_with (go_at_call 27; refine (refRight_any _ _).mono ?_; rintro e w' ⟨rfl, rfl⟩)
  go_loopw [0, 4] (fun a b wr => ∃ (m : Nat) (l : List UInt8), a = .int .i64 (m : Int) ∧ b = .string ⟨l.toArray⟩ ∧ EInv n m l ∧ Below w.heap.size w wr) (fun a _ _ => (intOf a).toNat)
  case atStart => exact ⟨n, [UInt8.ofNat (n % 128)], rfl, rfl, ⟨rfl, hn⟩, (Below.refl _ _).alloc (Nat.le_refl _) _⟩
  case round =>
    obtain ⟨m, l, rfl, rfl, hI, hB⟩ := hrel
    have hmax := hI.max
    clear hcv
    by_cases hlt : 128 ≤ m
    · have hll := hI.len hn
      have hst := hI.step hlt
      have hcv := one_byte (128 + m / 128 % 128) (.int .u8 (128 + (m : Int) / 128 % 128)) (by simp) (by omega) wr
      generalize UInt8.ofNat (128 + m / 128 % 128) = b at hst hcv
      have HI := Lib.hid hst
      clear hI hst
      go_wp2
      go_roundw
      case rel => exact ⟨m / 128, b :: l, by simp, rfl, HI.out, hB.alloc hB.size _⟩
      case measure => simp [intOf]; omega
    · have e0 := hI.e
      have h0 : m / 128 = 0 := by omega
      rw [h0, hiL_zero, List.nil_append] at e0
      subst e0
      clear hI h0
      go_wp2
      go_ret2
      exact ⟨rfl, hB⟩

/-- Are the two the same? -/
def intsB (xs ys : List Int) : Bool := decide (xs = ys)
theorem intsB_len {xs ys : List Int} (h : xs.length ≠ ys.length) : intsB xs ys = false := by
  unfold intsB; simp; intro e; exact h (congrArg List.length e)
theorem take_eq_succ {xs ys : List Int} {k : Nat} {x : Int} (h : xs.take k = ys.take k) (hx : xs[k]? = some x) (hy : ys[k]? = some x) : xs.take (k + 1) = ys.take (k + 1) := by
  rw [take_snoc' hx, take_snoc' hy, h]

set_option maxRecDepth 100000 in
set_option maxHeartbeats 1000000 in
theorem ints_any (xs ys : List Int) (A B : Option Addr) (c d : Nat) (w : World) (hlx : xs.length ≤ 1000000) (hly : ys.length ≤ 1000000) (ha : IntsRd w A xs) (hb : IntsRd w B ys) :
    Calls Tryd.prog 24 #[.slice A xs.length c, .slice B ys.length d] w fun e w' => e = .returned (.bool (intsB xs ys)) ∧ Below w.heap.size w w' := by
  by_cases hl : xs.length = ys.length
  · have hd : ((xs.length : Int) != (ys.length : Int)) = false := by simp [hl]
    have HL := Lib.hid hl
    have HA := Lib.hid ha
    have HB := Lib.hid hb
    clear hl ha hb
    go_enter Tryd.func24, Tryd.ntmps24
    go_wp2
    go_loopw [5] (fun i wr => ∃ k : Nat, k ≤ xs.length ∧ i = .int .i64 (k : Int) ∧ xs.take k = ys.take k ∧ Below w.heap.size w wr) (fun i _ => xs.length - (intOf i).toNat)
    case atStart => exact ⟨0, Nat.zero_le _, rfl, by simp, Below.refl _ _⟩
    case round =>
      obtain ⟨k, hk, rfl, ht, hB⟩ := hrel
      have HT := Lib.hid ht
      clear ht
      by_cases hlt : k < xs.length
      · have hlt' : k < ys.length := by rw [← HL.out]; exact hlt
        obtain ⟨x, hx⟩ : ∃ x, xs[k]? = some x := ⟨_, List.getElem?_eq_getElem hlt⟩
        obtain ⟨y, hy⟩ : ∃ y, ys[k]? = some y := ⟨_, List.getElem?_eq_getElem hlt'⟩
        obtain ⟨ad, rfl, hc⟩ := (HA.out.below hB) k x hx
        obtain ⟨bd, rfl, hc'⟩ := (HB.out.below hB) k y hy
        have HX := Lib.hid hx
        have HY := Lib.hid hy
        clear hx hy
        by_cases hxy : x = y
        · subst hxy
          have hne : (x != x) = false := by simp
          go_wp2
          go_quiet (fail)
          go_wp2
          go_roundw
          case rel => exact ⟨k + 1, by omega, by simp, take_eq_succ HT.out HX.out HY.out, below_drewN hB _⟩
          case measure => simp [intOf]; omega
        · have hne : (x != y) = true := by simpa using hxy
          go_wp2
          go_quiet (fail)
          go_wp2
          go_ret
          refine ⟨?_, below_drewN hB _⟩
          have : intsB xs ys = false := by
            unfold intsB
            simp
            intro e
            have h1 := HX.out
            rw [e, HY.out] at h1
            exact hxy (Option.some.inj h1).symm
          rw [this]
          rfl
      · obtain rfl : k = xs.length := by omega
        go_wp2
        go_ret
        refine ⟨?_, hB⟩
        have : intsB xs ys = true := by
          have h1 := HT.out
          rw [List.take_length, List.take_of_length_le (by rw [HL.out]; omega)] at h1
          unfold intsB
          simpa using h1
        rw [this]
        rfl
  · have hd : ((xs.length : Int) != (ys.length : Int)) = true := by simp; omega
    rw [intsB_len hl]
    clear hl ha hb
    go_enter Tryd.func24, Tryd.ntmps24
    go_wp2
    go_ret
    exact ⟨rfl, Below.refl _ _⟩

set_option maxHeartbeats 400000 in
theorem lawCut_any (s : ByteArray) (w : World) (hs : s.size ≤ maxLen) :
    Calls Tryd.prog 12 #[.string s] w fun e w' => e = .returned (.string (s.extract 0 (min s.size 100))) ∧ w = w' := by
  unfold maxLen at hs
  go_enter Tryd.func12, Tryd.ntmps12
  go_wp2
  · go_ret
    exact ⟨congrArg (fun k => Ending.returned (.string (s.extract 0 k))) (show 100 = min s.size 100 by omega), rfl⟩
  · go_ret
    have e0 : s.extract 0 (min s.size 100) = s := by
      rw [show min s.size 100 = s.size by omega]; exact ByteArray.extract_zero_size
    exact ⟨congrArg (fun q => Ending.returned (.string q)) e0.symm, rfl⟩

set_option maxHeartbeats 400000 in
theorem lawFew_any (A : Option Addr) (n c : Nat) (w : World) (hn : n ≤ c) (hs : c ≤ maxLen) :
    Calls Tryd.prog 19 #[.slice A n c] w fun e w' => e = .returned (.slice A (min n 30) c) ∧ w = w' := by
  unfold maxLen at hs
  go_enter Tryd.func19, Tryd.ntmps19
  go_wp2
  · go_ret
    exact ⟨congrArg (fun k => Ending.returned (.slice A k c)) (show 30 = min n 30 by omega), rfl⟩
  · go_ret
    exact ⟨congrArg (fun k => Ending.returned (.slice A k c)) (show n = min n 30 by omega), rfl⟩
end Go.Proofs.YtajeanmmelldnaaDoor
