/- The document's Num and cut of package eid. -/
import Derived.Test.YtmpokhdljlnllaaDoorERefP
set_option linter.unusedVariables false
set_option linter.unusedSimpArgs false
namespace Go.Proofs.YtmpokhdljlnllaaDoor
open Go.RowKit

theorem dig_ex : ∀ n : Fin 10, (⟨#[48, 49, 50, 51, 52, 53, 54, 55, 56, 57]⟩ : ByteArray).extract n.val (n.val + 1) = ⟨[dgt n.val].toArray⟩ := by decide
theorem dig_at {n : Nat} (h : n < 10) : (⟨#[48, 49, 50, 51, 52, 53, 54, 55, 56, 57]⟩ : ByteArray).extract n (n + 1) = ⟨[dgt n].toArray⟩ := dig_ex ⟨n, h⟩

set_option maxRecDepth 100000 in
set_option maxHeartbeats 2000000 in
theorem rnum_ind : ∀ (f n : Nat) (w : World), n < 10 ^ f → 1 ≤ f → f ≤ 9 →
    Calls Tryd.prog 25 #[.int .i64 (n : Int)] w fun e w' => e = .returned (.string ⟨(numF f n).toArray⟩) ∧ Below w.heap.size w w' := by
  intro f
  induction f with
  | zero => intro n w _ h; omega
  | succ f ih =>
    intro n w hn _ hf
    have hn9 : n < 1000000000 := Nat.lt_of_lt_of_le hn (Nat.le_trans (Nat.pow_le_pow_right (by omega) hf) (by decide))
    rw [numF]
    by_cases h10 : n < 10
    · rw [if_pos h10]
      have hsl : ∀ W : World, (Instr.slice 9 (.string ⟨#[48, 49, 50, 51, 52, 53, 54, 55, 56, 57]⟩) (some (.int .i64 (n : Int))) (some (.int .i64 ((n : Int) + 1))) none).run Tryd.prog W = .ok (.string ⟨[dgt n].toArray⟩) W := fun W => by
        rw [← dig_at h10]
        exact sl_mid _ _ _ n (n + 1) rfl (by omega) (by omega) (by show n + 1 ≤ 10; omega) W
      clear ih hn
      go_enter Tryd.func25, Tryd.ntmps25
      go_wp2_with fail
      go_ret
      exact ⟨rfl, Below.refl _ _⟩
    · rw [if_neg h10]
      have hf1 : 1 ≤ f := by
        cases f with
        | zero => simp at hn; omega
        | succ f => omega
      have hq : n / 10 < 10 ^ f := by rw [Nat.pow_succ] at hn; omega
      have hd10 : n % 10 < 10 := Nat.mod_lt _ (by omega)
      have hlen : (numF f (n / 10)).length ≤ 9 := by
        have := numF_len f (n / 10) f hq hf1
        omega
      have HC := Lib.hid (fun W => ih (n / 10) W hq hf1 (by omega))
      have hw1 : IntKind.i64.wrap ((n : Int) / 10) = ((n / 10 : Nat) : Int) := by rw [IntKind.wrap_i64]; omega
      have ht1 : (n : Int).tmod 10 = ((n % 10 : Nat) : Int) := by rw [Int.tmod_eq_emod_of_nonneg (by omega)]; omega
      have hw2 : IntKind.i64.wrap (((n % 10 : Nat) : Int) + 1) = ((n % 10 : Nat) : Int) + 1 := by rw [IntKind.wrap_i64]; omega
      have HRES := Lib.hid (show (⟨(numF f (n / 10)).toArray⟩ : ByteArray) ++ ⟨[dgt (n % 10)].toArray⟩ = ⟨(numF f (n / 10) ++ [dgt (n % 10)]).toArray⟩ from ba_ext (by simp))
      have HD := Lib.hid (dig_at hd10)
      have hov0 : (⟨(numF f (n / 10)).toArray⟩ : ByteArray).size ≤ 9 := by show (numF f (n / 10)).toArray.size ≤ 9; simpa using hlen
      have hn10 : ¬ ((n : Int) < 10) := by omega
      obtain ⟨z, hz⟩ : ∃ z : ByteArray, z = ⟨[dgt (n % 10)].toArray⟩ := ⟨_, rfl⟩
      have hz1 : z.size = 1 := by rw [hz]; rfl
      rw [← hz] at HRES HD
      clear hz
      generalize (⟨(numF f (n / 10)).toArray⟩ : ByteArray) = y at *
      generalize numF f (n / 10) ++ [dgt (n % 10)] = res at *
      generalize n % 10 = d at *
      generalize n / 10 = q at *
      have hsl : ∀ W : World, (Instr.slice 9 (.string ⟨#[48, 49, 50, 51, 52, 53, 54, 55, 56, 57]⟩) (some (.int .i64 (d : Int))) (some (.int .i64 ((d : Int) + 1))) none).run Tryd.prog W = .ok (.string z) W := fun W => by
        rw [← HD.out]
        exact sl_mid _ _ _ d (d + 1) rfl (by omega) (by omega) (by show d + 1 ≤ 10; omega) W
      have hov : ¬ 9223372036854775807 < y.size + z.size := by omega
      have hb1 : (0 : Int) ≤ (d : Int) := by omega
      have hdn : decide ((n : Int) < 10) = false := by simpa using hn10
      clear ih hn hq hlen h10 hz1 hov0 hn10 hd10 HD hf1 hf hn9
      go_enter Tryd.func25, Tryd.ntmps25
      go_wp2_with fail
      go_region_held3 (fun w' => True) (first | trivial | exact True.intro)
        (first
          | ((go_at_call 25; refine (HC.out _).mono ?_; rintro e w1 ⟨rfl, hb⟩; have HB := Lib.hid hb; clear hb)))
      have HBB := Lib.hid ((Below.refl w.heap.size w).drew.trans (HB.out.mono (Nat.le_refl _)))
      clear HB HC
      go_wp2
      go_ret
      exact ⟨by rw [← HRES.out]; rfl, HBB.out⟩
theorem rnum_any (n : Int) (w : World) (h0 : 0 ≤ n) (h1 : n ≤ 999999999) :
    Calls Tryd.prog 25 #[.int .i64 n] w fun e w' => e = .returned (.string ⟨(numL n.toNat).toArray⟩) ∧ Below w.heap.size w w' := by
  have h := rnum_ind 9 n.toNat w (Nat.lt_of_le_of_lt (show n.toNat ≤ 999999999 by omega) (by decide)) (by decide) (by decide)
  rw [Int.toNat_of_nonneg h0] at h
  have e : numF 9 n.toNat = numL n.toNat := by
    unfold numL
    rw [num_dec 9 n.toNat (Nat.lt_of_le_of_lt (show n.toNat ≤ 999999999 by omega) (by decide)) (by decide), num_dec 20 n.toNat (Nat.lt_of_le_of_lt (show n.toNat ≤ 999999999 by omega) (by decide)) (by decide)]
  rw [← e]
  exact h

/-- What stands ahead of the first byte that is one, and behind it. -/
def splA (c : UInt8) (s : ByteArray) (f : Nat) : ByteArray := ⟨(spl c (s.data.toList.drop f)).1.toArray⟩
def splB (c : UInt8) (s : ByteArray) (f : Nat) : ByteArray := ⟨(spl c (s.data.toList.drop f)).2.toArray⟩

theorem ext_data (s : ByteArray) (i j : Nat) : (s.extract i j).data.toList = (s.data.toList.drop i).take (j - i) := by
  rw [← ByteArray.toList_eq]
  exact Lib.extract_toList s i j
theorem spl_hit {c : UInt8} {s : ByteArray} {f j : Nat} (hf : f ≤ j) (hj : j < s.size) (hall : ∀ (m : Nat) (hm : m < s.size), f ≤ m → m < j → s[m] ≠ c) (hc : s[j] = c) : splA c s f = s.extract f j ∧ splB c s f = s.extract (j + 1) s.size := by
  have hl : s.data.toList.length = s.size := size_len s
  have e : s.data.toList.drop f = (s.data.toList.drop f).take (j - f) ++ c :: s.data.toList.drop (j + 1) := by
    have h1 := List.take_append_drop (j - f) (s.data.toList.drop f)
    rw [List.drop_drop, show f + (j - f) = j by omega, List.drop_eq_getElem_cons (i := j) (l := s.data.toList) (by rw [hl]; exact hj)] at h1
    have : s.data.toList[j]'(by rw [hl]; exact hj) = c := hc
    rw [this] at h1
    exact h1.symm
  have hn : c ∉ (s.data.toList.drop f).take (j - f) := by
    intro hm
    obtain ⟨i, hi, he⟩ := List.mem_iff_getElem.1 hm
    rw [List.length_take, List.length_drop, hl] at hi
    rw [List.getElem_take, List.getElem_drop] at he
    exact hall (f + i) (by omega) (by omega) (by omega) he
  unfold splA splB
  rw [e, spl_at hn]
  constructor
  · apply ba_ext
    rw [ext_data]
  · apply ba_ext
    rw [ext_data]
    show s.data.toList.drop (j + 1) = _
    rw [List.take_of_length_le (i := s.size - (j + 1)) (l := s.data.toList.drop (j + 1)) (by rw [List.length_drop, hl]; exact Nat.le_refl _)]
theorem spl_miss {c : UInt8} {s : ByteArray} {f : Nat} (hall : ∀ (m : Nat) (hm : m < s.size), f ≤ m → s[m] ≠ c) : splA c s f = ⟨#[]⟩ ∧ splB c s f = ⟨#[]⟩ := by
  have hl : s.data.toList.length = s.size := size_len s
  have hn : ¬ c ∈ s.data.toList.drop f := by
    intro hm
    obtain ⟨i, hi, he⟩ := List.mem_iff_getElem.1 hm
    rw [List.length_drop, hl] at hi
    rw [List.getElem_drop] at he
    exact hall (f + i) (by omega) (by omega) he
  unfold splA splB spl
  rw [if_neg hn]
  exact ⟨rfl, rfl⟩

set_option maxRecDepth 100000 in
set_option maxHeartbeats 4000000 in
theorem rcut_any (s : ByteArray) (f : Nat) (c : UInt8) (hs : s.size ≤ 4000000000) (hf : f ≤ s.size) (w : World) :
    Calls Tryd.prog 28 #[.string s, .int .i64 (f : Int), .int .u8 ((c.toNat : Nat) : Int)] w fun e w' => e = .returned (.tuple #[.string (splA c s f), .string (splB c s f)]) ∧ Below w.heap.size w w' := by
  have HH := Lib.hid (fun (j : Nat) (hfj : f ≤ j) (hj : j < s.size) (hall : ∀ (m : Nat) (hm : m < s.size), f ≤ m → m < j → s[m] ≠ c) (hc : s[j] = c) => spl_hit hfj hj hall hc)
  have HM := Lib.hid (fun (hall : ∀ (m : Nat) (hm : m < s.size), f ≤ m → s[m] ≠ c) => spl_miss hall)
  generalize splA c s f = A at *
  generalize splB c s f = B at *
  obtain ⟨x, hx⟩ : ∃ x : Int, x = ((c.toNat : Nat) : Int) := ⟨_, rfl⟩
  have HX := Lib.hid hx
  rw [← hx]
  clear hx
  go_enter Tryd.func28, Tryd.ntmps28
  go_wp2
  go_loop [8] (fun i => ∃ j : Nat, f ≤ j ∧ j ≤ s.size ∧ i = .int .i64 (j : Int) ∧ ∀ (m : Nat) (hm : m < s.size), f ≤ m → m < j → s[m] ≠ c) (fun i => s.size - (intOf i).toNat)
  case atStart => exact ⟨f, Nat.le_refl _, hf, rfl, fun m _ h1 h2 => by omega⟩
  case round =>
    obtain ⟨j, hfj, hj, rfl, hall⟩ := hrel
    have HA := Lib.hid hall
    clear hall
    by_cases hlt : j < s.size
    · have hix : ∀ W : World, (Instr.index 9 (.string s) (.int .i64 (j : Int))).run Tryd.prog W = .ok (.int .u8 ((s[j].toNat : Nat) : Int)) W := fun W => ix_str s _ j rfl hlt W
      by_cases hc : s[j] = c
      · obtain ⟨hA, hB⟩ := HH.out j hfj hlt HA.out hc
        have hxx : ((s[j].toNat : Nat) : Int) = x := by rw [HX.out, hc]
        rw [hxx] at hix
        have s1 : ∀ W : World, (Instr.slice 9 (.string s) (some (.int .i64 (f : Int))) (some (.int .i64 (j : Int))) none).run Tryd.prog W = .ok (.string A) W := fun W => by rw [hA]; exact sl_mid s _ _ f j rfl rfl hfj hj W
        have s2 : ∀ W : World, (Instr.slice 9 (.string s) (some (.int .i64 ((j : Int) + 1))) none none).run Tryd.prog W = .ok (.string B) W := fun W => by rw [hB]; exact sl_from s _ (j + 1) (by omega) (by omega) W
        have hw : IntKind.i64.wrap ((j : Int) + 1) = (j : Int) + 1 := by rw [IntKind.wrap_i64]; omega
        clear hA hB hc hxx HH HM HA
        go_wp2_with fail
        go_region_held3 (fun w' => True) (first | trivial | exact True.intro) (fail)
        all_goals
          go_wp2
          go_ret2
          exact ⟨rfl, (Below.refl _ _).drew⟩
      · have hne : (((s[j].toNat : Nat) : Int) == x) = false := by
          rw [HX.out]
          simp only [beq_eq_false_iff_ne, ne_eq]
          intro e
          exact hc (UInt8.toNat_inj.1 (by omega))
        have HC := Lib.hid hc
        obtain ⟨y, hy⟩ : ∃ y : Int, y = ((s[j].toNat : Nat) : Int) := ⟨_, rfl⟩
        rw [← hy] at hix hne
        clear hc hy HH HM
        go_wp2_with fail
        go_round
        case rel => exact ⟨j + 1, by omega, by omega, by go_num, fun m hm h1 h2 => by
            by_cases e : m = j
            · subst e; exact HC.out
            · exact HA.out m hm h1 (by omega)⟩
        case measure => simp [intOf]; omega
    · obtain ⟨hA, hB⟩ := HM.out (fun m hm h1 => HA.out m hm h1 (by omega))
      have HAB := Lib.hid (And.intro hA hB)
      clear hA hB HH HM HA
      go_wp2_with fail
      go_ret2
      refine ⟨?_, Below.refl _ _⟩
      rw [HAB.out.1, HAB.out.2]
      rfl
end Go.Proofs.YtmpokhdljlnllaaDoor
