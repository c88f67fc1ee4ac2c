/- The document's own Table, Sum, Of, Size and Same: they answer as package crc's do. -/
import Derived.Test.YtdlkmdjhjdpmeaaGreatDoorCLaid
import Derived.OwnWalk
set_option linter.unusedVariables false
set_option linter.unusedSimpArgs false
namespace Go.Proofs.YtdlkmdjhjdpmeaaGreatDoor
open Go.RowKit

set_option maxRecDepth 100000 in
set_option maxHeartbeats 1000000 in
theorem rpart32 (k : Int) (b : Nat) (w : World) (hb : b < 256) (hk : (k == 2) = true) :
    Calls Tryz.prog 56 #[.int .i64 k, .int .i64 (b : Int)] w fun e w' => e = .returned (.int .u32 ((prt 2197175160 b : Nat) : Int)) ∧ w = w' := by
  have hw : (b : Int) % 4294967296 = (b : Int) := by omega
  have HP := Lib.hid (show prt 2197175160 b = stN 2197175160 8 b from rfl)
  go_enter Tryz.func56, Tryz.ntmps56
  go_wp2
  go_loop [6, 7] (fun r i => ∃ j : Nat, j ≤ 8 ∧ r = .int .u32 ((stN 2197175160 j b : Nat) : Int) ∧ i = .int .i64 (j : Int)) (fun _ i => 8 - (intOf i).toNat)
  case atStart => exact ⟨0, by omega, rfl, rfl⟩
  case round =>
    obtain ⟨j, hj, rfl, rfl⟩ := hrel
    by_cases hlt : j < 8
    · have hy : stN 2197175160 j b < 4294967296 := stN_lt (w := 32) (by omega) (by omega) j b (by omega)
      have HN := Lib.hid (stN_succ' 2197175160 j b)
      generalize stN 2197175160 j b = y at *
      rcases Nat.mod_two_eq_zero_or_one y with hm | hm
      · have hm2 : (((y : Int) % 2) == 1) = false := by rw [beq_eq_false_iff_ne]; omega
        have HE := Lib.hid (stp_even (p := 2197175160) hm)
        clear hm
        go_wp2
        go_round
        case rel => exact ⟨j + 1, by omega, by rw [HN.out, HE.out]; go_num, by go_num⟩
        case measure => simp [intOf]; omega
      · have hm2 : (((y : Int) % 2) == 1) = true := by rw [beq_iff_eq]; omega
        have HE := Lib.hid (stp_odd (p := 2197175160) hm)
        obtain ⟨z, hz⟩ : ∃ z, z = y / 2 := ⟨_, rfl⟩
        have hzi : (y : Int) / 2 = (z : Int) := by omega
        have HZ := Lib.hid hz
        have hX := u32_xor_nat z 2197175160 (by omega) (by omega)
        clear hm hz
        go_wp2
        go_round
        case rel => exact ⟨j + 1, by omega, by rw [HN.out, HE.out, ← HZ.out, ← hX]; rfl, by go_num⟩
        case measure => simp [intOf]; omega
    · obtain rfl : j = 8 := by omega
      rw [← HP.out]
      clear HP
      go_wp2
      go_ret
      exact ⟨rfl, rfl⟩

set_option maxRecDepth 100000 in
set_option maxHeartbeats 1000000 in
theorem rpart16 (k : Int) (b : Nat) (w : World) (hb : b < 256) (hk : (k == 2) = false) :
    Calls Tryz.prog 56 #[.int .i64 k, .int .i64 (b : Int)] w fun e w' => e = .returned (.int .u32 ((prt 33800 b : Nat) : Int)) ∧ w = w' := by
  have hw : (b : Int) % 4294967296 = (b : Int) := by omega
  have HP := Lib.hid (show prt 33800 b = stN 33800 8 b from rfl)
  go_enter Tryz.func56, Tryz.ntmps56
  go_wp2
  go_loop [6, 7] (fun r i => ∃ j : Nat, j ≤ 8 ∧ r = .int .u32 ((stN 33800 j b : Nat) : Int) ∧ i = .int .i64 (j : Int)) (fun _ i => 8 - (intOf i).toNat)
  case atStart => exact ⟨0, by omega, rfl, rfl⟩
  case round =>
    obtain ⟨j, hj, rfl, rfl⟩ := hrel
    by_cases hlt : j < 8
    · have hy : stN 33800 j b < 4294967296 := stN_lt (w := 32) (by omega) (by omega) j b (by omega)
      have HN := Lib.hid (stN_succ' 33800 j b)
      generalize stN 33800 j b = y at *
      rcases Nat.mod_two_eq_zero_or_one y with hm | hm
      · have hm2 : (((y : Int) % 2) == 1) = false := by rw [beq_eq_false_iff_ne]; omega
        have HE := Lib.hid (stp_even (p := 33800) hm)
        clear hm
        go_wp2
        go_round
        case rel => exact ⟨j + 1, by omega, by rw [HN.out, HE.out]; go_num, by go_num⟩
        case measure => simp [intOf]; omega
      · have hm2 : (((y : Int) % 2) == 1) = true := by rw [beq_iff_eq]; omega
        have HE := Lib.hid (stp_odd (p := 33800) hm)
        obtain ⟨z, hz⟩ : ∃ z, z = y / 2 := ⟨_, rfl⟩
        have hzi : (y : Int) / 2 = (z : Int) := by omega
        have HZ := Lib.hid hz
        have hX := u32_xor_nat z 33800 (by omega) (by omega)
        clear hm hz
        go_wp2
        go_round
        case rel => exact ⟨j + 1, by omega, by rw [HN.out, HE.out, ← HZ.out, ← hX]; rfl, by go_num⟩
        case measure => simp [intOf]; omega
    · obtain rfl : j = 8 := by omega
      rw [← HP.out]
      clear HP
      go_wp2
      go_ret
      exact ⟨rfl, rfl⟩

/-- Is the kind one of the two? -/
def twoB (k : Int) : Bool := decide (k = 1) || decide (k = 2)
theorem rright_any (k : Int) (w : World) :
    Calls Tryz.prog 55 #[.int .i64 k] w fun e w' => e = .returned (.bool (twoB k)) ∧ w = w' := by
  unfold twoB
  by_cases h1 : k = 1
  · subst h1
    go_enter Tryz.func55, Tryz.ntmps55
    go_wp2
    go_ret
    exact ⟨rfl, rfl⟩
  by_cases h2 : k = 2
  · subst h2
    go_enter Tryz.func55, Tryz.ntmps55
    go_wp2
    go_ret
    exact ⟨rfl, rfl⟩
  have e1 : (k == 1) = false := by simpa using h1
  have e2 : (k == 2) = false := by simpa using h2
  have hd : (decide (k = 1) || decide (k = 2)) = false := by simp [h1, h2]
  rw [hd]
  clear hd
  go_enter Tryz.func55, Tryz.ntmps55
  go_wp2
  go_ret
  exact ⟨rfl, rfl⟩

theorem rsize_any (k : Int) (w : World) :
    Calls Tryz.prog 45 #[.int .i64 k] w fun e w' => e = .returned (.int .i64 (sizR k)) ∧ w = w' := by
  by_cases h1 : k = 1
  · subst h1
    go_enter Tryz.func45, Tryz.ntmps45
    go_wp2
    go_ret
    exact ⟨rfl, rfl⟩
  by_cases h2 : k = 2
  · subst h2
    go_enter Tryz.func45, Tryz.ntmps45
    go_wp2
    go_ret
    exact ⟨rfl, rfl⟩
  have e1 : (k == 1) = false := by simpa using h1
  have e2 : (k == 2) = false := by simpa using h2
  rw [sizR_no h1 h2]
  go_enter Tryz.func45, Tryz.ntmps45
  go_wp2
  go_ret
  exact ⟨rfl, rfl⟩

/-- A number's cell. -/
def u32v (n : Nat) : Value := .int .u32 (n : Int)
theorem ownsRow_belowR {w w' : World} {base : Nat} {e : TypeId} {size : Nat} {v : Value} {n : Nat} {xs : List Value} (h : w.ownsRow base e size v n xs) (hb : Below w.heap.size w w') : w'.ownsRow base e size v n xs := by
  have hg : w.grownBy w' none := ⟨hb.os, hb.tape, hb.output, hb.size, fun k hk _ => hb.block k hk⟩
  refine h.kept hg ?_
  by_cases e : v.ownBlock = none
  · exact .inl e
  · exact .inr e

/-- What holds at a round's head of the document's Table: j numbers stand in the row. -/
structure RTab (p : Nat) (w : World) (j : Nat) (v : Value) (wr : World) : Prop where
  le : j ≤ 256
  own : wr.ownsRow w.heap.size 85 1 v j ((List.range j).map fun i => u32v (prt p i))
  below : Below w.heap.size w wr
theorem RTab.step {p : Nat} {w wr wn : World} {j : Nat} {v v' : Value} {o : Obj} (h : RTab p w j v wr) (hj : j < 256)
    (hown : wn.ownsRow w.heap.size 85 1 v' (j + 1) (((List.range j).map fun i => u32v (prt p i)) ++ [u32v (prt p j)])) (hg : (wr.alloc o).grownBy wn v.ownBlock) : RTab p w (j + 1) v' wn := by
  refine ⟨hj, ?_, ?_⟩
  · rw [List.range_succ, List.map_append]
    exact hown
  · have hb : Below w.heap.size w (wr.alloc o) := h.below.alloc h.below.size _
    exact hb.grown hg hb.size (fun g e => (h.own.lt g e).1)

theorem RTab.done_ {p : Nat} {w wr : World} {v : Value} (h : RTab p w 256 v wr) : ∃ (A : Option Addr) (c : Nat), v = .slice A 256 c ∧ 256 ≤ c ∧ U32Rd wr A (tabL p) := by
  rcases h.own.2 with ⟨_, h0⟩ | ⟨g, cap, cur, rfl, hb, hgg, hcap, _⟩
  · omega
  · refine ⟨some ⟨g, 0, none⟩, cap, rfl, hcap, fun j x hj => ⟨_, rfl, ?_⟩⟩
    exact h.own.cells (g := g) rfl j _ (by
      have e : ((List.range 256).map fun i => u32v (prt p i)) = (tabL p).map u32v := by simp [tabL]
      rw [e, List.getElem?_map, hj]; rfl)

set_option maxRecDepth 100000 in
set_option maxHeartbeats 2000000 in
theorem rtable16 (w : World) :
    Calls Tryz.prog 43 #[.int .i64 1] w fun e w' => (∃ (A : Option Addr) (c : Nat), e = .returned (.tuple #[.slice A 256 c, .int .i64 0]) ∧ 256 ≤ c ∧ U32Rd w' A (tabL 33800)) ∧ Below w.heap.size w w' := by
  obtain ⟨i0, hi, hz0, hz1, hz2⟩ := info_parts u32_info
  have htwo : twoB 1 = true := by decide
  go_enter Tryz.func43, Tryz.ntmps43
  go_wp2_with fail
  refine (rright_any _ _).mono ?_
  rintro e w' ⟨rfl, rfl⟩
  rw [htwo]
  go_wp2
  go_loopw [4, 5] (fun v i wr => ∃ j : Nat, i = .int .i64 (j : Int) ∧ RTab 33800 w j v wr) (fun _ i _ => 256 - (intOf i).toNat)
  case atStart => exact ⟨0, rfl, Nat.zero_le _, World.ownsRow_nil _ _ _ _, Below.refl _ _⟩
  case round =>
    obtain ⟨j, rfl, hI⟩ := hrel
    have hle := hI.le
    by_cases hlt : j < 256
    · have HST := Lib.hid (fun wn v' o => RTab.step (wn := wn) (v' := v') (o := o) hI hlt)
      have HOW := Lib.hid (ownsRow_belowR hI.own ((Below.refl _ wr).alloc (Nat.le_refl _) (.cells #[.int .u32 ((prt 33800 j : Nat) : Int)] 85)))
      have hsz := hI.below.size
      clear hI
      go_wp2_with fail
      refine (rpart16 _ j _ hlt (by decide)).mono ?_
      rintro e w' ⟨rfl, rfl⟩
      generalize hy : prt 33800 j = y at *
      clear hy
      go_wp2_with (at_builtin; refine wpList_append_own _ rfl _ _ 62 rfl w.heap.size 85 i0 (.int .u32 0) 1 4 Tryz.underlying62 hi hz0 hz1 hz2 rfl (by decide) _ _ _ rfl HOW.out ⟨wr.heap.size, 0, none⟩ 1 1 [u32v y] rfl (by simp) ?c1 ?c2 ?c3 ?c4 ?c5 ?_)
      case c1 =>
        intro j' u hj'
        rcases j' with _ | j'
        · obtain rfl : u32v y = u := by simpa using hj'
          simp [Addr.add, u32v, go_sem]
        · simp at hj'
      case c2 =>
        intro u hu
        obtain rfl : u = u32v y := by simpa using hu
        rfl
      case c3 => unfold maxLen; omega
      case c4 => omega
      case c5 => simp; omega
      intro v' w2 hown' hgrow _
      have HF := Lib.hid (HST.out _ _ _ hown' hgrow)
      clear hown' hgrow HST HOW
      go_wp2
      go_roundw
      case rel => first | exact ⟨j + 1, by go_num, HF.out⟩ | ((repeat apply Exists.intro); exact ⟨⟨j + 1, by go_num, HF.out⟩, rfl⟩)
      case measure => simp [intOf]; omega
    · obtain rfl : j = 256 := by omega
      obtain ⟨A, c, rfl, hc, hU⟩ := hI.done_
      have HU := Lib.hid hU
      have HB := Lib.hid hI.below
      clear hI hU
      go_wp2
      go_ret2
      exact ⟨⟨A, c, rfl, hc, HU.out⟩, HB.out⟩

set_option maxRecDepth 100000 in
set_option maxHeartbeats 2000000 in
theorem rtable32 (w : World) :
    Calls Tryz.prog 43 #[.int .i64 2] w fun e w' => (∃ (A : Option Addr) (c : Nat), e = .returned (.tuple #[.slice A 256 c, .int .i64 0]) ∧ 256 ≤ c ∧ U32Rd w' A (tabL 2197175160)) ∧ Below w.heap.size w w' := by
  obtain ⟨i0, hi, hz0, hz1, hz2⟩ := info_parts u32_info
  have htwo : twoB 2 = true := by decide
  go_enter Tryz.func43, Tryz.ntmps43
  go_wp2_with fail
  refine (rright_any _ _).mono ?_
  rintro e w' ⟨rfl, rfl⟩
  rw [htwo]
  go_wp2
  go_loopw [4, 5] (fun v i wr => ∃ j : Nat, i = .int .i64 (j : Int) ∧ RTab 2197175160 w j v wr) (fun _ i _ => 256 - (intOf i).toNat)
  case atStart => exact ⟨0, rfl, Nat.zero_le _, World.ownsRow_nil _ _ _ _, Below.refl _ _⟩
  case round =>
    obtain ⟨j, rfl, hI⟩ := hrel
    have hle := hI.le
    by_cases hlt : j < 256
    · have HST := Lib.hid (fun wn v' o => RTab.step (wn := wn) (v' := v') (o := o) hI hlt)
      have HOW := Lib.hid (ownsRow_belowR hI.own ((Below.refl _ wr).alloc (Nat.le_refl _) (.cells #[.int .u32 ((prt 2197175160 j : Nat) : Int)] 85)))
      have hsz := hI.below.size
      clear hI
      go_wp2_with fail
      refine (rpart32 _ j _ hlt (by decide)).mono ?_
      rintro e w' ⟨rfl, rfl⟩
      generalize hy : prt 2197175160 j = y at *
      clear hy
      go_wp2_with (at_builtin; refine wpList_append_own _ rfl _ _ 62 rfl w.heap.size 85 i0 (.int .u32 0) 1 4 Tryz.underlying62 hi hz0 hz1 hz2 rfl (by decide) _ _ _ rfl HOW.out ⟨wr.heap.size, 0, none⟩ 1 1 [u32v y] rfl (by simp) ?c1 ?c2 ?c3 ?c4 ?c5 ?_)
      case c1 =>
        intro j' u hj'
        rcases j' with _ | j'
        · obtain rfl : u32v y = u := by simpa using hj'
          simp [Addr.add, u32v, go_sem]
        · simp at hj'
      case c2 =>
        intro u hu
        obtain rfl : u = u32v y := by simpa using hu
        rfl
      case c3 => unfold maxLen; omega
      case c4 => omega
      case c5 => simp; omega
      intro v' w2 hown' hgrow _
      have HF := Lib.hid (HST.out _ _ _ hown' hgrow)
      clear hown' hgrow HST HOW
      go_wp2
      go_roundw
      case rel => first | exact ⟨j + 1, by go_num, HF.out⟩ | ((repeat apply Exists.intro); exact ⟨⟨j + 1, by go_num, HF.out⟩, rfl⟩)
      case measure => simp [intOf]; omega
    · obtain rfl : j = 256 := by omega
      obtain ⟨A, c, rfl, hc, hU⟩ := hI.done_
      have HU := Lib.hid hU
      have HB := Lib.hid hI.below
      clear hI hU
      go_wp2
      go_ret2
      exact ⟨⟨A, c, rfl, hc, HU.out⟩, HB.out⟩
end Go.Proofs.YtdlkmdjhjdpmeaaGreatDoor
