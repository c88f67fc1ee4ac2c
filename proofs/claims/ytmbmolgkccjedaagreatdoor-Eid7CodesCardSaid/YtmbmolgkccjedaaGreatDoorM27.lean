/- The document's part, Right, Num, number, cut of package eid. -/
import Derived.Test.YtmbmolgkccjedaaGreatDoorM16
set_option linter.unusedVariables false
set_option linter.unusedSimpArgs false
namespace Go.Proofs.YtmbmolgkccjedaaGreatDoor
open Go.RowKit

theorem ix_strE (q : ByteArray) (x : Int) (i : Nat) (hx : x = i) (hi : i < q.size) (w : World) : (Instr.index 9 (.string q) (.int .i64 x)).run Tryz.prog w = .ok (.int .u8 ((q[i].toNat : Nat) : Int)) w := by
  subst hx
  go_simp
theorem sl_midE (q : ByteArray) (x y : Int) (i j : Nat) (hx : x = i) (hy : y = j) (hij : i ≤ j) (hj : j ≤ q.size) (w : World) : (Instr.slice 9 (.string q) (some (.int .i64 x)) (some (.int .i64 y)) none).run Tryz.prog w = .ok (.string (q.extract i j)) w := by
  subst hx
  subst hy
  have h := run_slice_string (P := Tryz.prog) (w := w) 9 q .i64 .i64 (i : Int) (j : Int) Tryz.underlying9 (by omega) (by omega) (by omega)
  simpa using h
theorem sl_fromE (q : ByteArray) (x : Int) (j : Nat) (hx : x = j) (hj : j ≤ q.size) (w : World) : (Instr.slice 9 (.string q) (some (.int .i64 x)) none none).run Tryz.prog w = .ok (.string (q.extract j q.size)) w := by
  subst hx
  have hj' : 0 ≤ (j : Int) ∧ (j : Int) ≤ (q.size : Int) := by omega
  simp [Instr.slice, Instr.sliceBounds, Instr.sliceBound, asIntOf, run_underlying Tryz.underlying9, hj']
  intro hc
  omega
theorem sl_toE (q : ByteArray) (j : Nat) (hj : j ≤ q.size) (w : World) : (Instr.slice 9 (.string q) none (some (.int .i64 (j : Int))) none).run Tryz.prog w = .ok (.string (q.extract 0 j)) w := by
  have hj' : 0 ≤ (j : Int) ∧ (j : Int) ≤ (q.size : Int) := by omega
  simp [Instr.slice, Instr.sliceBounds, Instr.sliceBound, asIntOf, run_underlying Tryz.underlying9, hj']
  intro hc
  omega

/-- What is said of a part's byte by its number. -/
def prtZ (sl : Bool) (x : Int) : Bool := (decide (97 ≤ x) && decide (x ≤ 122)) || (decide (48 ≤ x) && decide (x ≤ 57)) || decide (x = 45) || decide (x = 46) || (sl && decide (x = 47))
theorem prtZ_eq (sl : Bool) (c : UInt8) : prtZ sl (c.toNat : Int) = prtB sl c := by
  have h45 : (c = 45) ↔ c.toNat = 45 := u8_eq
  have h46 : (c = 46) ↔ c.toNat = 46 := u8_eq
  have h47 : (c = 47) ↔ c.toNat = 47 := u8_eq
  rw [Bool.eq_iff_iff]
  unfold prtZ prtB
  cases sl
  · simp only [Bool.or_eq_true, Bool.and_eq_true, decide_eq_true_eq, h45, h46, h47, Bool.false_eq_true, false_and, or_false]
    omega
  · simp only [Bool.or_eq_true, Bool.and_eq_true, decide_eq_true_eq, h45, h46, h47, true_and]
    omega

set_option maxRecDepth 100000 in
set_option maxHeartbeats 4000000 in
theorem part_any (s : ByteArray) (sl : Bool) (hs : s.size ≤ 4000000000) (w : World) :
    Calls Tryz.prog 79 #[.string s, .bool sl] w fun e w' => e = .returned (.bool (partB sl s.data.toList)) ∧ w' = w := by
  obtain ⟨R, hR⟩ : ∃ R, R = partB sl s.data.toList := ⟨_, rfl⟩
  have HR := Lib.hid hR
  rw [← hR]
  clear hR
  go_enter Tryz.func79, Tryz.ntmps79
  go_wp2
  go_loop [5] (fun i => ∃ j : Nat, j ≤ s.size ∧ i = .int .i64 (j : Int) ∧ ∀ (m : Nat) (hm : m < s.size), m < j → prtB sl s[m] = true) (fun i => s.size - (intOf i).toNat)
  case atStart => exact ⟨0, Nat.zero_le _, rfl, fun m _ h => absurd h (Nat.not_lt_zero _)⟩
  case round =>
    obtain ⟨j, hj, rfl, hall⟩ := hrel
    have HA := Lib.hid hall
    clear hall
    by_cases hlt : j < s.size
    · have hix : ∀ W : World, (Instr.index 9 (.string s) (.int .i64 (j : Int))).run Tryz.prog W = .ok (.int .u8 ((s[j].toNat : Nat) : Int)) W := fun W => ix_strE s _ j rfl hlt W
      obtain ⟨x, hx⟩ : ∃ x : Int, x = ((s[j].toNat : Nat) : Int) := ⟨_, rfl⟩
      have HQ := Lib.hid (show prtZ sl x = prtB sl s[j] by rw [hx]; exact prtZ_eq sl s[j])
      rw [← hx] at hix
      clear hx
      have hcs : (97 ≤ x ∧ x ≤ 122) ∨ 122 < x ∨ (57 < x ∧ x < 97) ∨ (48 ≤ x ∧ x ≤ 57) ∨ x = 47 ∨ x = 46 ∨ x = 45 ∨ x < 45 := by omega
      have hb : ∃ d1 d2 d3 d4 d5 d6 d7 : Bool, decide (97 ≤ x) = d1 ∧ decide (x ≤ 122) = d2 ∧ decide (48 ≤ x) = d3 ∧ decide (x ≤ 57) = d4 ∧ (x == 45) = d5 ∧ (x == 46) = d6 ∧ (x == 47) = d7 ∧
          ((d1 = true ∧ d2 = true) ∨ (d1 = true ∧ d2 = false ∧ d3 = true ∧ d4 = false ∧ d5 = false ∧ d6 = false ∧ d7 = false) ∨ (d1 = false ∧ d3 = true ∧ d4 = true) ∨ (d1 = false ∧ d3 = true ∧ d4 = false ∧ d5 = false ∧ d6 = false ∧ d7 = false) ∨ (d1 = false ∧ d3 = false ∧ d5 = true) ∨ (d1 = false ∧ d3 = false ∧ d5 = false ∧ d6 = true) ∨ (d1 = false ∧ d3 = false ∧ d5 = false ∧ d6 = false ∧ d7 = true) ∨ (d1 = false ∧ d3 = false ∧ d5 = false ∧ d6 = false ∧ d7 = false)) := by
        refine ⟨_, _, _, _, _, _, _, rfl, rfl, rfl, rfl, rfl, rfl, rfl, ?_⟩
        simp only [decide_eq_true_eq, decide_eq_false_iff_not, beq_iff_eq, beq_eq_false_iff_ne]
        omega
      obtain ⟨d1, d2, d3, d4, d5, d6, d7, e1, e2, e3, e4, e5, e6, e7, hw⟩ := hb
      have hpv : prtZ sl x = ((d1 && d2) || (d3 && d4) || d5 || d6 || (sl && d7)) := by
        have e5' : decide (x = 45) = d5 := by rw [← e5]; rfl
        have e6' : decide (x = 46) = d6 := by rw [← e6]; rfl
        have e7' : decide (x = 47) = d7 := by rw [← e7]; rfl
        unfold prtZ
        rw [e1, e2, e3, e4, e5', e6', e7']
      have HPV := Lib.hid hpv
      clear hcs hpv
      rcases hw with ⟨rfl, rfl⟩ | ⟨rfl, rfl, rfl, rfl, rfl, rfl, rfl⟩ | ⟨rfl, rfl, rfl⟩ | ⟨rfl, rfl, rfl, rfl, rfl, rfl⟩ | ⟨rfl, rfl, rfl⟩ | ⟨rfl, rfl, rfl, rfl⟩ | ⟨rfl, rfl, rfl, rfl, rfl⟩ | ⟨rfl, rfl, rfl, rfl, rfl⟩ <;> cases sl
      all_goals
        go_wp2_with fail
        first
        | go_ret
          refine ⟨?_, rfl⟩
          have h0 := HQ.out.symm.trans (HPV.out.trans (show _ = false by first | rfl | simp))
          rw [HR.out, partB, all_not_at hlt h0]
          rfl
        | go_round
          case rel =>
            have h0 := HQ.out.symm.trans (HPV.out.trans (show _ = true by first | rfl | simp))
            exact ⟨j + 1, by omega, by go_num, all_snoc_at hlt HA.out h0⟩
          case measure => simp [intOf]; omega
    · obtain rfl : j = s.size := by omega
      have HL := Lib.hid (show s.data.toList.all (prtB sl) = true from all_of_at (fun m hm => HA.out m hm hm))
      clear hlt
      go_wp2_with fail
      go_ret
      refine ⟨?_, rfl⟩
      rw [HR.out, partB, HL.out, size_len]
      simp
      omega

/-- The first bytes of a text, all but the last one of them, and the last one. -/
theorem take_last {s : ByteArray} {j : Nat} (h : j < s.size) : s.data.toList.take (j + 1) = s.data.toList.take j ++ [s[j]] := by
  have hl : j < s.data.toList.length := by simpa using h
  rw [List.take_add_one, List.getElem?_eq_getElem hl]
  rfl

set_option maxRecDepth 100000 in
set_option maxHeartbeats 4000000 in
theorem rnumber_any (s : ByteArray) (hs : s.size ≤ 4000000000) (w : World) :
    Calls Tryz.prog 52 #[.string s] w fun e w' => e = .returned (.int .i64 ((valD s.data.toList : Nat) : Int)) ∧ w' = w := by
  obtain ⟨V, hV⟩ : ∃ V : Int, V = ((valD s.data.toList : Nat) : Int) := ⟨_, rfl⟩
  have HV := Lib.hid hV
  rw [← hV]
  clear hV
  go_enter Tryz.func52, Tryz.ntmps52
  go_wp2
  go_loop [3, 4] (fun n i => ∃ j : Nat, j ≤ s.size ∧ n = .int .i64 ((valD (s.data.toList.take j) : Nat) : Int) ∧ i = .int .i64 (j : Int)) (fun _ i => s.size - (intOf i).toNat)
  case atStart => exact ⟨0, Nat.zero_le _, rfl, rfl⟩
  case round =>
    obtain ⟨j, hj, rfl, rfl⟩ := hrel
    by_cases hlt : j < s.size
    · have hix : ∀ W : World, (Instr.index 9 (.string s) (.int .i64 (j : Int))).run Tryz.prog W = .ok (.int .u8 ((s[j].toNat : Nat) : Int)) W := fun W => ix_strE s _ j rfl hlt W
      have hle : valD (s.data.toList.take j) ≤ 1000000000 := by
        unfold valD
        have : ∀ (l : List UInt8) (a : Nat), a ≤ 1000000000 → l.foldl valN a ≤ 1000000000 := by
          intro l
          induction l with
          | nil => intro a h; exact h
          | cons c r ih => intro a h; rw [List.foldl_cons]; exact ih _ (by unfold valN; omega)
        exact this _ 0 (by omega)
      have HS := Lib.hid (show valD (s.data.toList.take (j + 1)) = valN (valD (s.data.toList.take j)) s[j] by rw [take_last hlt]; unfold valD; rw [List.foldl_append]; rfl)
      have hb := s[j].toNat_lt
      unfold valN at HS
      generalize valD (s.data.toList.take j) = n at *
      generalize s[j].toNat = x at *
      go_wp2_with fail
      go_round
      case rel => exact ⟨j + 1, by omega, by rw [HS.out]; go_num, by go_num⟩
      case measure => simp [intOf]; omega
    · obtain rfl : j = s.size := by omega
      have HE := Lib.hid (show s.data.toList.take s.size = s.data.toList from List.take_of_length_le (by rw [size_len]; exact Nat.le_refl _))
      rw [HE.out, ← HV.out]
      clear hlt HE
      go_wp2_with fail
      go_ret
      exact ⟨rfl, rfl⟩
end Go.Proofs.YtmbmolgkccjedaaGreatDoor

/- The document's Num and cut of package eid. -/
set_option linter.unusedVariables false
set_option linter.unusedSimpArgs false
namespace Go.Proofs.YtmbmolgkccjedaaGreatDoor
open Go.RowKit

theorem dig_ex : ∀ n : Fin 10, (⟨#[48, 49, 50, 51, 52, 53, 54, 55, 56, 57]⟩ : ByteArray).extract n.val (n.val + 1) = ⟨[dgt n.val].toArray⟩ := by decide
theorem dig_at {n : Nat} (h : n < 10) : (⟨#[48, 49, 50, 51, 52, 53, 54, 55, 56, 57]⟩ : ByteArray).extract n (n + 1) = ⟨[dgt n].toArray⟩ := dig_ex ⟨n, h⟩

set_option maxRecDepth 100000 in
set_option maxHeartbeats 2000000 in
theorem rnum_ind : ∀ (f n : Nat) (w : World), n < 10 ^ f → 1 ≤ f → f ≤ 9 →
    Calls Tryz.prog 48 #[.int .i64 (n : Int)] w fun e w' => e = .returned (.string ⟨(numF f n).toArray⟩) ∧ Below w.heap.size w w' := by
  intro f
  induction f with
  | zero => intro n w _ h; omega
  | succ f ih =>
    intro n w hn _ hf
    have hn9 : n < 1000000000 := Nat.lt_of_lt_of_le hn (Nat.le_trans (Nat.pow_le_pow_right (by omega) hf) (by decide))
    rw [numF]
    by_cases h10 : n < 10
    · rw [if_pos h10]
      have hsl : ∀ W : World, (Instr.slice 9 (.string ⟨#[48, 49, 50, 51, 52, 53, 54, 55, 56, 57]⟩) (some (.int .i64 (n : Int))) (some (.int .i64 ((n : Int) + 1))) none).run Tryz.prog W = .ok (.string ⟨[dgt n].toArray⟩) W := fun W => by
        rw [← dig_at h10]
        exact sl_midE _ _ _ n (n + 1) rfl (by omega) (by omega) (by show n + 1 ≤ 10; omega) W
      clear ih hn
      go_enter Tryz.func48, Tryz.ntmps48
      go_wp2_with fail
      go_ret
      exact ⟨rfl, Below.refl _ _⟩
    · rw [if_neg h10]
      have hf1 : 1 ≤ f := by
        cases f with
        | zero => simp at hn; omega
        | succ f => omega
      have hq : n / 10 < 10 ^ f := by rw [Nat.pow_succ] at hn; omega
      have hd10 : n % 10 < 10 := Nat.mod_lt _ (by omega)
      have hlen : (numF f (n / 10)).length ≤ 9 := by
        have := numF_len f (n / 10) f hq hf1
        omega
      have HC := Lib.hid (fun W => ih (n / 10) W hq hf1 (by omega))
      have hw1 : IntKind.i64.wrap ((n : Int) / 10) = ((n / 10 : Nat) : Int) := by rw [IntKind.wrap_i64]; omega
      have ht1 : (n : Int).tmod 10 = ((n % 10 : Nat) : Int) := by rw [Int.tmod_eq_emod_of_nonneg (by omega)]; omega
      have hw2 : IntKind.i64.wrap (((n % 10 : Nat) : Int) + 1) = ((n % 10 : Nat) : Int) + 1 := by rw [IntKind.wrap_i64]; omega
      have HRES := Lib.hid (show (⟨(numF f (n / 10)).toArray⟩ : ByteArray) ++ ⟨[dgt (n % 10)].toArray⟩ = ⟨(numF f (n / 10) ++ [dgt (n % 10)]).toArray⟩ from ba_ext (by simp))
      have HD := Lib.hid (dig_at hd10)
      have hov0 : (⟨(numF f (n / 10)).toArray⟩ : ByteArray).size ≤ 9 := by show (numF f (n / 10)).toArray.size ≤ 9; simpa using hlen
      have hn10 : ¬ ((n : Int) < 10) := by omega
      obtain ⟨z, hz⟩ : ∃ z : ByteArray, z = ⟨[dgt (n % 10)].toArray⟩ := ⟨_, rfl⟩
      have hz1 : z.size = 1 := by rw [hz]; rfl
      rw [← hz] at HRES HD
      clear hz
      generalize (⟨(numF f (n / 10)).toArray⟩ : ByteArray) = y at *
      generalize numF f (n / 10) ++ [dgt (n % 10)] = res at *
      generalize n % 10 = d at *
      generalize n / 10 = q at *
      have hsl : ∀ W : World, (Instr.slice 9 (.string ⟨#[48, 49, 50, 51, 52, 53, 54, 55, 56, 57]⟩) (some (.int .i64 (d : Int))) (some (.int .i64 ((d : Int) + 1))) none).run Tryz.prog W = .ok (.string z) W := fun W => by
        rw [← HD.out]
        exact sl_midE _ _ _ d (d + 1) rfl (by omega) (by omega) (by show d + 1 ≤ 10; omega) W
      have hov : ¬ 9223372036854775807 < y.size + z.size := by omega
      have hb1 : (0 : Int) ≤ (d : Int) := by omega
      have hdn : decide ((n : Int) < 10) = false := by simpa using hn10
      clear ih hn hq hlen h10 hz1 hov0 hn10 hd10 HD hf1 hf hn9
      go_enter Tryz.func48, Tryz.ntmps48
      go_wp2_with fail
      go_region_held3 (fun w' => True) (first | trivial | exact True.intro)
        (first
          | ((go_at_call 48; refine (HC.out _).mono ?_; rintro e w1 ⟨rfl, hb⟩; have HB := Lib.hid hb; clear hb)))
      have HBB := Lib.hid ((Below.refl w.heap.size w).drew.trans (HB.out.mono (Nat.le_refl _)))
      clear HB HC
      go_wp2
      go_ret
      exact ⟨by rw [← HRES.out]; rfl, HBB.out⟩
theorem rnum_any (n : Int) (w : World) (h0 : 0 ≤ n) (h1 : n ≤ 999999999) :
    Calls Tryz.prog 48 #[.int .i64 n] w fun e w' => e = .returned (.string ⟨(numL n.toNat).toArray⟩) ∧ Below w.heap.size w w' := by
  have h := rnum_ind 9 n.toNat w (Nat.lt_of_le_of_lt (show n.toNat ≤ 999999999 by omega) (by decide)) (by decide) (by decide)
  rw [Int.toNat_of_nonneg h0] at h
  have e : numF 9 n.toNat = numL n.toNat := by
    unfold numL
    rw [num_dec 9 n.toNat (Nat.lt_of_le_of_lt (show n.toNat ≤ 999999999 by omega) (by decide)) (by decide), num_dec 20 n.toNat (Nat.lt_of_le_of_lt (show n.toNat ≤ 999999999 by omega) (by decide)) (by decide)]
  rw [← e]
  exact h

/-- What stands ahead of the first byte that is one, and behind it. -/
def splA (c : UInt8) (s : ByteArray) (f : Nat) : ByteArray := ⟨(spl c (s.data.toList.drop f)).1.toArray⟩
def splB (c : UInt8) (s : ByteArray) (f : Nat) : ByteArray := ⟨(spl c (s.data.toList.drop f)).2.toArray⟩

theorem ext_data (s : ByteArray) (i j : Nat) : (s.extract i j).data.toList = (s.data.toList.drop i).take (j - i) := by
  rw [← ByteArray.toList_eq]
  exact Lib.extract_toList s i j
theorem spl_hit {c : UInt8} {s : ByteArray} {f j : Nat} (hf : f ≤ j) (hj : j < s.size) (hall : ∀ (m : Nat) (hm : m < s.size), f ≤ m → m < j → s[m] ≠ c) (hc : s[j] = c) : splA c s f = s.extract f j ∧ splB c s f = s.extract (j + 1) s.size := by
  have hl : s.data.toList.length = s.size := size_len s
  have e : s.data.toList.drop f = (s.data.toList.drop f).take (j - f) ++ c :: s.data.toList.drop (j + 1) := by
    have h1 := List.take_append_drop (j - f) (s.data.toList.drop f)
    rw [List.drop_drop, show f + (j - f) = j by omega, List.drop_eq_getElem_cons (i := j) (l := s.data.toList) (by rw [hl]; exact hj)] at h1
    have : s.data.toList[j]'(by rw [hl]; exact hj) = c := hc
    rw [this] at h1
    exact h1.symm
  have hn : c ∉ (s.data.toList.drop f).take (j - f) := by
    intro hm
    obtain ⟨i, hi, he⟩ := List.mem_iff_getElem.1 hm
    rw [List.length_take, List.length_drop, hl] at hi
    rw [List.getElem_take, List.getElem_drop] at he
    exact hall (f + i) (by omega) (by omega) (by omega) he
  unfold splA splB
  rw [e, spl_at hn]
  constructor
  · apply ba_ext
    rw [ext_data]
  · apply ba_ext
    rw [ext_data]
    show s.data.toList.drop (j + 1) = _
    rw [List.take_of_length_le (i := s.size - (j + 1)) (l := s.data.toList.drop (j + 1)) (by rw [List.length_drop, hl]; exact Nat.le_refl _)]
theorem spl_miss {c : UInt8} {s : ByteArray} {f : Nat} (hall : ∀ (m : Nat) (hm : m < s.size), f ≤ m → s[m] ≠ c) : splA c s f = ⟨#[]⟩ ∧ splB c s f = ⟨#[]⟩ := by
  have hl : s.data.toList.length = s.size := size_len s
  have hn : ¬ c ∈ s.data.toList.drop f := by
    intro hm
    obtain ⟨i, hi, he⟩ := List.mem_iff_getElem.1 hm
    rw [List.length_drop, hl] at hi
    rw [List.getElem_drop] at he
    exact hall (f + i) (by omega) (by omega) he
  unfold splA splB spl
  rw [if_neg hn]
  exact ⟨rfl, rfl⟩

set_option maxRecDepth 100000 in
set_option maxHeartbeats 4000000 in
theorem rcut_any (s : ByteArray) (f : Nat) (c : UInt8) (hs : s.size ≤ 4000000000) (hf : f ≤ s.size) (w : World) :
    Calls Tryz.prog 51 #[.string s, .int .i64 (f : Int), .int .u8 ((c.toNat : Nat) : Int)] w fun e w' => e = .returned (.tuple #[.string (splA c s f), .string (splB c s f)]) ∧ Below w.heap.size w w' := by
  have HH := Lib.hid (fun (j : Nat) (hfj : f ≤ j) (hj : j < s.size) (hall : ∀ (m : Nat) (hm : m < s.size), f ≤ m → m < j → s[m] ≠ c) (hc : s[j] = c) => spl_hit hfj hj hall hc)
  have HM := Lib.hid (fun (hall : ∀ (m : Nat) (hm : m < s.size), f ≤ m → s[m] ≠ c) => spl_miss hall)
  generalize splA c s f = A at *
  generalize splB c s f = B at *
  obtain ⟨x, hx⟩ : ∃ x : Int, x = ((c.toNat : Nat) : Int) := ⟨_, rfl⟩
  have HX := Lib.hid hx
  rw [← hx]
  clear hx
  go_enter Tryz.func51, Tryz.ntmps51
  go_wp2
  go_loop [8] (fun i => ∃ j : Nat, f ≤ j ∧ j ≤ s.size ∧ i = .int .i64 (j : Int) ∧ ∀ (m : Nat) (hm : m < s.size), f ≤ m → m < j → s[m] ≠ c) (fun i => s.size - (intOf i).toNat)
  case atStart => exact ⟨f, Nat.le_refl _, hf, rfl, fun m _ h1 h2 => by omega⟩
  case round =>
    obtain ⟨j, hfj, hj, rfl, hall⟩ := hrel
    have HA := Lib.hid hall
    clear hall
    by_cases hlt : j < s.size
    · have hix : ∀ W : World, (Instr.index 9 (.string s) (.int .i64 (j : Int))).run Tryz.prog W = .ok (.int .u8 ((s[j].toNat : Nat) : Int)) W := fun W => ix_strE s _ j rfl hlt W
      by_cases hc : s[j] = c
      · obtain ⟨hA, hB⟩ := HH.out j hfj hlt HA.out hc
        have hxx : ((s[j].toNat : Nat) : Int) = x := by rw [HX.out, hc]
        rw [hxx] at hix
        have s1 : ∀ W : World, (Instr.slice 9 (.string s) (some (.int .i64 (f : Int))) (some (.int .i64 (j : Int))) none).run Tryz.prog W = .ok (.string A) W := fun W => by rw [hA]; exact sl_midE s _ _ f j rfl rfl hfj hj W
        have s2 : ∀ W : World, (Instr.slice 9 (.string s) (some (.int .i64 ((j : Int) + 1))) none none).run Tryz.prog W = .ok (.string B) W := fun W => by rw [hB]; exact sl_fromE s _ (j + 1) (by omega) (by omega) W
        have hw : IntKind.i64.wrap ((j : Int) + 1) = (j : Int) + 1 := by rw [IntKind.wrap_i64]; omega
        clear hA hB hc hxx HH HM HA
        go_wp2_with fail
        go_region_held3 (fun w' => True) (first | trivial | exact True.intro) (fail)
        all_goals
          go_wp2
          go_ret2
          exact ⟨rfl, (Below.refl _ _).drew⟩
      · have hne : (((s[j].toNat : Nat) : Int) == x) = false := by
          rw [HX.out]
          simp only [beq_eq_false_iff_ne, ne_eq]
          intro e
          exact hc (UInt8.toNat_inj.1 (by omega))
        have HC := Lib.hid hc
        obtain ⟨y, hy⟩ : ∃ y : Int, y = ((s[j].toNat : Nat) : Int) := ⟨_, rfl⟩
        rw [← hy] at hix hne
        clear hc hy HH HM
        go_wp2_with fail
        go_round
        case rel => exact ⟨j + 1, by omega, by omega, by go_num, fun m hm h1 h2 => by
            by_cases e : m = j
            · subst e; exact HC.out
            · exact HA.out m hm h1 (by omega)⟩
        case measure => simp [intOf]; omega
    · obtain ⟨hA, hB⟩ := HM.out (fun m hm h1 => HA.out m hm h1 (by omega))
      have HAB := Lib.hid (And.intro hA hB)
      clear hA hB HH HM HA
      go_wp2_with fail
      go_ret2
      refine ⟨?_, Below.refl _ _⟩
      rw [HAB.out.1, HAB.out.2]
      rfl
end Go.Proofs.YtmbmolgkccjedaaGreatDoor

/- The document's Right of package eid. -/
set_option linter.unusedVariables false
set_option linter.unusedSimpArgs false
namespace Go.Proofs.YtmbmolgkccjedaaGreatDoor
open Go.RowKit

theorem nmR_1 (nd sv : ByteArray) (a b : Int) : nmR (nmO 1 nd sv a b) = (!nd.toList.isEmpty && partB false nd.data.toList && partB true sv.data.toList && (a == 0) && (b == 0)) := by
  unfold nmR nmO
  rw [if_neg (show ¬ (1 : Int) = 0 by decide), if_pos rfl, isE_data]
  rfl
theorem nmR_2 (nd sv : ByteArray) (a b : Int) : nmR (nmO 2 nd sv a b) = (nd.toList.isEmpty && sv.toList.isEmpty && decide (1 ≤ a) && decide (a ≤ 999999999) && decide (0 ≤ b) && decide (b ≤ 999999999)) := by
  unfold nmR nmO
  rw [if_neg (show ¬ (2 : Int) = 0 by decide), if_neg (show ¬ (2 : Int) = 1 by decide), if_pos rfl, isE_data, isE_data]
theorem nmR_0 (nd sv : ByteArray) (a b : Int) : nmR (nmO 0 nd sv a b) = nmE 0 nd sv a b 0 ⟨#[]⟩ ⟨#[]⟩ 0 0 := by
  rw [← rgt0, Bool.eq_iff_iff, Bool.and_eq_true, nmE_iff, nmE_iff]
  constructor
  · rintro ⟨⟨h0, h1, h2, h3, h4⟩, _⟩
    exact ⟨h0, h1.symm, h2.symm, h3.symm, h4.symm⟩
  · rintro ⟨h0, h1, h2, h3, h4⟩
    exact ⟨⟨h0, h1.symm, h2.symm, h3.symm, h4.symm⟩, rfl⟩

set_option maxRecDepth 100000 in
set_option maxHeartbeats 4000000 in
theorem rright_0 (nd sv : ByteArray) (a b : Int) (w : World) :
    Calls Tryz.prog 47 #[nmV 0 nd sv a b] w fun e w' => e = .returned (.bool (nmR (nmO 0 nd sv a b))) ∧ Below w.heap.size w w' := by
  rw [nmR_0]
  have heq := nm_eql 0 nd sv a b 0 ⟨#[]⟩ ⟨#[]⟩ 0 0
  generalize nmE 0 nd sv a b 0 ⟨#[]⟩ ⟨#[]⟩ 0 0 = u at *
  unfold nmV
  go_enter Tryz.func47, Tryz.ntmps47
  go_wp2
  go_ret
  exact ⟨rfl, below_alloc_l (Below.refl _ _)⟩

set_option maxRecDepth 100000 in
set_option maxHeartbeats 4000000 in
theorem rright_1 (nd sv : ByteArray) (a b : Int) (w : World) (hn : nd.size ≤ 4000000000) (hs : sv.size ≤ 4000000000) :
    Calls Tryz.prog 47 #[nmV 1 nd sv a b] w fun e w' => e = .returned (.bool (nmR (nmO 1 nd sv a b))) ∧ Below w.heap.size w w' := by
  rw [nmR_1]
  have H1 := Lib.hid (fun W => part_any nd false hn W)
  have H2 := Lib.hid (fun W => part_any sv true hs W)
  generalize partB false nd.data.toList = p1 at *
  generalize partB true sv.data.toList = p2 at *
  clear hn hs
  obtain ⟨q0, h0⟩ : ∃ q, nd.toList.isEmpty = q := ⟨_, rfl⟩
  obtain ⟨q3, h3⟩ : ∃ q, (a == 0) = q := ⟨_, rfl⟩
  obtain ⟨q4, h4⟩ : ∃ q, (b == 0) = q := ⟨_, rfl⟩
  rw [h0, h3, h4]
  unfold nmV
  go_enter Tryz.func47, Tryz.ntmps47
  cases q0 with
  | true =>
    go_wp2_with fail
    go_ret
    exact ⟨rfl, below_alloc_l (Below.refl _ _)⟩
  | false =>
    go_wp2_with fail
    refine (H1.out _).mono ?_
    rintro e w1 ⟨rfl, rfl⟩
    clear H1
    cases p1 with
    | false =>
      go_wp2_with fail
      go_ret
      exact ⟨rfl, below_alloc_l (Below.refl _ _)⟩
    | true =>
      go_wp2_with fail
      refine (H2.out _).mono ?_
      rintro e w1 ⟨rfl, rfl⟩
      clear H2
      cases p2 <;> cases q3 <;> cases q4
      all_goals
        go_wp2_with fail
        go_ret
        exact ⟨rfl, below_alloc_l (Below.refl _ _)⟩

set_option maxRecDepth 100000 in
set_option maxHeartbeats 4000000 in
theorem rright_2 (nd sv : ByteArray) (a b : Int) (w : World) :
    Calls Tryz.prog 47 #[nmV 2 nd sv a b] w fun e w' => e = .returned (.bool (nmR (nmO 2 nd sv a b))) ∧ Below w.heap.size w w' := by
  rw [nmR_2]
  have hb : ∃ d1 d2 d3 d4 d5 d6 : Bool, nd.toList.isEmpty = d1 ∧ sv.toList.isEmpty = d2 ∧ decide (1 ≤ a) = d3 ∧ decide (a ≤ 999999999) = d4 ∧ decide (0 ≤ b) = d5 ∧ decide (b ≤ 999999999) = d6 ∧ (d1 = false ∨ (d1 = true ∧ d2 = false) ∨ (d1 = true ∧ d2 = true ∧ d3 = false) ∨ (d1 = true ∧ d2 = true ∧ d3 = true ∧ d4 = false) ∨ (d1 = true ∧ d2 = true ∧ d3 = true ∧ d4 = true ∧ d5 = false) ∨ (d1 = true ∧ d2 = true ∧ d3 = true ∧ d4 = true ∧ d5 = true)) := by
    refine ⟨_, _, _, _, _, _, rfl, rfl, rfl, rfl, rfl, rfl, ?_⟩
    cases nd.toList.isEmpty <;> cases sv.toList.isEmpty <;> cases decide (1 ≤ a) <;> cases decide (a ≤ 999999999) <;> cases decide (0 ≤ b) <;> simp
  obtain ⟨d1, d2, d3, d4, d5, d6, e1, e2, e3, e4, e5, e6, hw⟩ := hb
  rw [e1, e2, e3, e4, e5, e6]
  unfold nmV
  rcases hw with rfl | ⟨rfl, rfl⟩ | ⟨rfl, rfl, rfl⟩ | ⟨rfl, rfl, rfl, rfl⟩ | ⟨rfl, rfl, rfl, rfl, rfl⟩ | ⟨rfl, rfl, rfl, rfl, rfl⟩
  all_goals
    go_enter Tryz.func47, Tryz.ntmps47
    go_wp2_with fail
    go_ret
    exact ⟨rfl, below_alloc_l (Below.refl _ _)⟩

set_option maxRecDepth 100000 in
set_option maxHeartbeats 4000000 in
theorem rright_N (k : Int) (nd sv : ByteArray) (a b : Int) (w : World) (h0 : k ≠ 0) (h1 : k ≠ 1) (h2 : k ≠ 2) :
    Calls Tryz.prog 47 #[nmV k nd sv a b] w fun e w' => e = .returned (.bool (nmR (nmO k nd sv a b))) ∧ Below w.heap.size w w' := by
  rw [rgtN h0 h1 h2]
  have b0 : (k == 0) = false := by simpa using h0
  have b1 : (k == 1) = false := by simpa using h1
  have b2 : (k == 2) = false := by simpa using h2
  clear h0 h1 h2
  unfold nmV
  go_enter Tryz.func47, Tryz.ntmps47
  go_wp2_with fail
  go_ret
  exact ⟨rfl, below_alloc_l (Below.refl _ _)⟩

theorem rright_anyE (k : Int) (nd sv : ByteArray) (a b : Int) (w : World) (hn : nd.size ≤ 4000000000) (hs : sv.size ≤ 4000000000) :
    Calls Tryz.prog 47 #[nmV k nd sv a b] w fun e w' => e = .returned (.bool (nmR (nmO k nd sv a b))) ∧ Below w.heap.size w w' := by
  by_cases h0 : k = 0
  · subst h0; exact rright_0 nd sv a b w
  by_cases h1 : k = 1
  · subst h1; exact rright_1 nd sv a b w hn hs
  by_cases h2 : k = 2
  · subst h2; exact rright_2 nd sv a b w
  exact rright_N k nd sv a b w h0 h1 h2
end Go.Proofs.YtmbmolgkccjedaaGreatDoor

/- The document's Halves, Print, Home of package eid. -/
set_option linter.unusedVariables false
set_option linter.unusedSimpArgs false
namespace Go.Proofs.YtmbmolgkccjedaaGreatDoor
open Go.RowKit

theorem hv_cases {k : Int} {nd sv : ByteArray} {a b : Int} (hr : nmR (nmO k nd sv a b) = true) :
    (k = 0 ∧ hfS (nmO k nd sv a b) = ⟨#[100, 116, 110]⟩ ∧ rsS (nmO k nd sv a b) = ⟨#[110, 111, 110, 101]⟩) ∨
    (k = 1 ∧ nd.size ≤ 20 ∧ sv.size ≤ 20 ∧ hfS (nmO k nd sv a b) = ⟨#[100, 116, 110]⟩ ∧ rsS (nmO k nd sv a b) = ⟨#[47, 47]⟩ ++ nd ++ ⟨#[47]⟩ ++ sv) ∨
    (k = 2 ∧ 0 ≤ a ∧ a ≤ 999999999 ∧ 0 ≤ b ∧ b ≤ 999999999 ∧ hfS (nmO k nd sv a b) = ⟨#[105, 112, 110]⟩ ∧ rsS (nmO k nd sv a b) = ⟨(numL a.toNat).toArray⟩ ++ ⟨#[46]⟩ ++ ⟨(numL b.toNat).toArray⟩) := by
  unfold hfS rsS
  rw [if_pos hr, if_pos hr]
  rcases nmR_cases hr with h | ⟨h1, h2, h3, h4, h5, h6⟩ | ⟨A, B, h, hA, hA9, hB9⟩
  · have hk : k = 0 := congrArg Nm.k h
    rw [h]
    exact .inl ⟨hk, rfl, rfl⟩
  · have hk : k = 1 := h1
    subst hk
    have hn20 : nd.size ≤ 20 := by
      have := h3
      unfold partB nmO at this
      rw [Bool.and_eq_true, decide_eq_true_eq, size_len] at this
      exact this.2
    have hs20 : sv.size ≤ 20 := by
      have := h4
      unfold partB nmO at this
      rw [Bool.and_eq_true, decide_eq_true_eq, size_len] at this
      exact this.2
    refine .inr (.inl ⟨rfl, hn20, hs20, rfl, ?_⟩)
    apply ba_ext
    simp [hlv, nmO]
  · have hk : k = 2 := congrArg Nm.k h
    have ha : a = (A : Int) := congrArg Nm.a h
    have hb : b = (B : Int) := congrArg Nm.b h
    subst hk ha hb
    refine .inr (.inr ⟨rfl, by omega, by omega, by omega, by omega, rfl, ?_⟩)
    apply ba_ext
    simp [hlv, nmO]

set_option maxRecDepth 100000 in
set_option maxHeartbeats 4000000 in
theorem rhalves_any (k : Int) (nd sv : ByteArray) (a b : Int) (w : World) (hn : nd.size ≤ 4000000000) (hs : sv.size ≤ 4000000000) :
    Calls Tryz.prog 28 #[nmV k nd sv a b] w fun e w' => e = .returned (.tuple #[.string (hfS (nmO k nd sv a b)), .string (rsS (nmO k nd sv a b)), .int .i64 (erS (nmO k nd sv a b))]) ∧ Below w.heap.size w w' := by
  have HC := Lib.hid (fun W => rright_anyE k nd sv a b W hn hs)
  unfold erS
  cases hr : nmR (nmO k nd sv a b) with
  | false =>
    have h1 : hfS (nmO k nd sv a b) = ⟨#[]⟩ := by unfold hfS; rw [hr]; rfl
    have h2 : rsS (nmO k nd sv a b) = ⟨#[]⟩ := by unfold rsS; rw [hr]; rfl
    rw [hr] at HC
    rw [h1, h2]
    clear h1 h2 hr hn hs
    unfold nmV at *
    go_enter Tryz.func28, Tryz.ntmps28
    go_wp2_with fail
    refine (HC.out _).mono ?_
    rintro e w1 ⟨rfl, hb1⟩
    have HB := Lib.hid ((below_alloc_l (Below.refl _ _)).trans (hb1.mono (by simp)))
    clear hb1 HC
    go_wp2
    go_ret3
    exact ⟨rfl, HB.out⟩
  | true =>
    have hcs := hv_cases hr
    rw [hr] at HC
    clear hr hn hs
    rcases hcs with ⟨rfl, h1, h2⟩ | ⟨rfl, hn20, hs20, h1, h2⟩ | ⟨rfl, ha0, ha1, hb0, hb1, h1, h2⟩
    · rw [h1, h2]
      clear h1 h2
      unfold nmV at *
      go_enter Tryz.func28, Tryz.ntmps28
      go_wp2_with fail
      refine (HC.out _).mono ?_
      rintro e w1 ⟨rfl, hb1⟩
      have n0 : w1.cell? ⟨w.heap.size, 0, none⟩ = some (.int .i64 0) := (hb1.cell (p := ⟨w.heap.size, 0, none⟩) (by simp)).trans (by go_simp)
      have HB := Lib.hid ((below_alloc_l (Below.refl _ _)).trans (hb1.mono (by simp)))
      clear hb1 HC
      go_wp2
      go_ret3
      exact ⟨rfl, HB.out⟩
    · rw [h1, h2]
      clear h1 h2
      have ho1 : ¬ 9223372036854775807 < (⟨#[47, 47]⟩ : ByteArray).size + nd.size := by show ¬ 9223372036854775807 < 2 + nd.size; omega
      have hz1 : ((⟨#[47, 47]⟩ : ByteArray) ++ nd).size = 2 + nd.size := by rw [ByteArray.size_append]; rfl
      have hz2 : ((⟨#[47, 47]⟩ : ByteArray) ++ nd ++ ⟨#[47]⟩).size = 2 + nd.size + 1 := by rw [ByteArray.size_append, hz1]; rfl
      have s1 : ∀ W : World, (Op.stringOp .add (⟨#[47, 47]⟩ : ByteArray) nd).run Tryz.prog W = .ok (.string (⟨#[47, 47]⟩ ++ nd)) W := fun W => run_string_add_sum W _ _ (by show 2 + nd.size ≤ _; omega)
      have s2 : ∀ W : World, (Op.stringOp .add ((⟨#[47, 47]⟩ : ByteArray) ++ nd) ⟨#[47]⟩).run Tryz.prog W = .ok (.string (⟨#[47, 47]⟩ ++ nd ++ ⟨#[47]⟩)) W := fun W => run_string_add_sum W _ _ (by rw [hz1]; show 2 + nd.size + 1 ≤ _; omega)
      have s3 : ∀ W : World, (Op.stringOp .add ((⟨#[47, 47]⟩ : ByteArray) ++ nd ++ ⟨#[47]⟩) sv).run Tryz.prog W = .ok (.string (⟨#[47, 47]⟩ ++ nd ++ ⟨#[47]⟩ ++ sv)) W := fun W => run_string_add_sum W _ _ (by rw [hz2]; omega)
      generalize (⟨#[47, 47]⟩ : ByteArray) ++ nd ++ ⟨#[47]⟩ ++ sv = y3 at *
      generalize (⟨#[47, 47]⟩ : ByteArray) ++ nd ++ ⟨#[47]⟩ = y2 at *
      generalize (⟨#[47, 47]⟩ : ByteArray) ++ nd = y1 at *
      clear hz1 hz2 ho1
      unfold nmV at *
      go_enter Tryz.func28, Tryz.ntmps28
      go_wp2_with fail
      refine (HC.out _).mono ?_
      rintro e w1 ⟨rfl, hb1⟩
      have n0 : w1.cell? ⟨w.heap.size, 0, none⟩ = some (.int .i64 1) := (hb1.cell (p := ⟨w.heap.size, 0, none⟩) (by simp)).trans (by go_simp)
      have n1 : w1.cell? ⟨w.heap.size, 1, none⟩ = some (.string nd) := (hb1.cell (p := ⟨w.heap.size, 1, none⟩) (by simp)).trans (by go_simp)
      have n2 : w1.cell? ⟨w.heap.size, 2, none⟩ = some (.string sv) := (hb1.cell (p := ⟨w.heap.size, 2, none⟩) (by simp)).trans (by go_simp)
      have HB := Lib.hid ((below_alloc_l (Below.refl _ _)).trans (hb1.mono (by simp)))
      clear hb1 HC
      go_wp2_with fail
      go_quiet (fail)
      go_wp2
      go_ret3
      exact ⟨rfl, below_drewN HB.out _⟩
    · rw [h1, h2]
      clear h1 h2
      have HN1 := Lib.hid (fun W => rnum_any a W ha0 ha1)
      have HN2 := Lib.hid (fun W => rnum_any b W hb0 hb1)
      have l1 := numL_len (n := a.toNat) (by omega)
      have l2 := numL_len (n := b.toNat) (by omega)
      have z1 : (⟨(numL a.toNat).toArray⟩ : ByteArray).size ≤ 9 := by show (numL a.toNat).toArray.size ≤ 9; simpa using l1
      have z2 : (⟨(numL b.toNat).toArray⟩ : ByteArray).size ≤ 9 := by show (numL b.toNat).toArray.size ≤ 9; simpa using l2
      generalize (⟨(numL a.toNat).toArray⟩ : ByteArray) = y1 at *
      generalize (⟨(numL b.toNat).toArray⟩ : ByteArray) = y2 at *
      have hz1 : (y1 ++ (⟨#[46]⟩ : ByteArray)).size = y1.size + 1 := by rw [ByteArray.size_append]; rfl
      have s1 : ∀ W : World, (Op.stringOp .add y1 (⟨#[46]⟩ : ByteArray)).run Tryz.prog W = .ok (.string (y1 ++ ⟨#[46]⟩)) W := fun W => run_string_add_sum W _ _ (by show y1.size + 1 ≤ _; omega)
      have s2 : ∀ W : World, (Op.stringOp .add (y1 ++ (⟨#[46]⟩ : ByteArray)) y2).run Tryz.prog W = .ok (.string (y1 ++ ⟨#[46]⟩ ++ y2)) W := fun W => run_string_add_sum W _ _ (by rw [hz1]; omega)
      generalize y1 ++ (⟨#[46]⟩ : ByteArray) ++ y2 = y4 at *
      generalize y1 ++ (⟨#[46]⟩ : ByteArray) = y3 at *
      clear hz1 z1 z2 l1 l2 ha0 ha1 hb0 hb1
      unfold nmV at *
      go_enter Tryz.func28, Tryz.ntmps28
      go_wp2_with fail
      refine (HC.out _).mono ?_
      rintro e w1 ⟨rfl, hb1⟩
      have n0 : w1.cell? ⟨w.heap.size, 0, none⟩ = some (.int .i64 2) := (hb1.cell (p := ⟨w.heap.size, 0, none⟩) (by simp)).trans (by go_simp)
      have n3 : w1.cell? ⟨w.heap.size, 3, none⟩ = some (.int .i64 a) := (hb1.cell (p := ⟨w.heap.size, 3, none⟩) (by simp)).trans (by go_simp)
      have n4 : w1.cell? ⟨w.heap.size, 4, none⟩ = some (.int .i64 b) := (hb1.cell (p := ⟨w.heap.size, 4, none⟩) (by simp)).trans (by go_simp)
      have hz : w.heap.size < w1.heap.size := World.block_lt_of_cell? _ _ n0
      have HB := Lib.hid ((below_alloc_l (Below.refl _ _)).trans (hb1.mono (by simp)))
      have HN34 := Lib.hid (And.intro n3 n4)
      have hcum := Lib.hid (Below.refl w1.heap.size w1).drew
      clear hb1 HC
      go_wp2_with fail
      go_region_held3 (fun w' => w'.cell? ⟨w.heap.size, 3, none⟩ = some (.int .i64 a) ∧ w'.cell? ⟨w.heap.size, 4, none⟩ = some (.int .i64 b))
        (first
          | go_keep
          | (go_simp; done))
        (first
          | ((go_at_call 48; go_fit (HN1.out _); rintro e w2 ⟨rfl, hb⟩; have hcum2 := Lib.hid (hcum.out.trans (hb.mono hcum.out.size)); clear hb hcum; have hcum := hcum2; clear hcum2; have m3 := (hcum.out.cell (p := ⟨w.heap.size, 3, none⟩) hz).trans HN34.out.1; have m4 := (hcum.out.cell (p := ⟨w.heap.size, 4, none⟩) hz).trans HN34.out.2))
          | ((go_at_call 48; go_fit (HN2.out _); rintro e w2 ⟨rfl, hb⟩; have hcum2 := Lib.hid (hcum.out.trans (hb.mono hcum.out.size)); clear hb hcum; have hcum := hcum2; clear hcum2; have m3 := (hcum.out.cell (p := ⟨w.heap.size, 3, none⟩) hz).trans HN34.out.1; have m4 := (hcum.out.cell (p := ⟨w.heap.size, 4, none⟩) hz).trans HN34.out.2)))
      all_goals
        have HBB := Lib.hid (HB.out.trans (hcum.out.mono HB.out.size))
        clear hcum HB HN34 HN1 HN2
        go_wp2
        go_ret3
        exact ⟨rfl, HBB.out⟩

end Go.Proofs.YtmbmolgkccjedaaGreatDoor
