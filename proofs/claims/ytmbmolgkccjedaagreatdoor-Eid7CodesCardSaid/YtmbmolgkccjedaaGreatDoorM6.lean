/- slices.Contains at []bool (asked for false) and at []rune: whether it is among the elements; nothing is changed. -/
import Derived.Test.YtmbmolgkccjedaaGreatDoorChecked
import Derived.WalkKit
import Derived.WalkSpells
import Derived.WalkLawsBesides
import Derived.Lib.Hide
import Derived.Laws.ResultCell
import Derived.LoopTactic
import Derived.Lib.OthersKept
import Derived.Laws.RangeAny
set_option linter.unusedVariables false
set_option linter.unusedSimpArgs false
namespace Go.Proofs.YtmbmolgkccjedaaGreatDoor
open Go.RowKit

/-- Is false among them? -/
def hasF (bs : List Bool) : Bool := bs.contains false
/-- Is it among them? -/
def hasZ (zs : List Int) (x : Int) : Bool := zs.contains x

set_option maxHeartbeats 1000000 in
theorem idxB_any (b n cap : Nat) (bs : List Bool) (w : World) (hn : bs.length = n) (hbig : n ≤ 1000) (hc : ∀ j, j < n → w.cell? ⟨b, j, none⟩ = some (.bool bs[j]!)) :
    Calls Tryz.prog 141 #[.slice (some ⟨b, 0, none⟩) n cap, .bool false] w fun e w' => (∃ i : Int, e = .returned (.int .i64 i) ∧ decide (0 ≤ i) = hasF bs) ∧ w' = w := by
  go_enter Tryz.func141, Tryz.ntmps141
  go_wp2
  go_loop [5, 8] (fun _ i => ∃ k : Nat, k ≤ n ∧ i = .int .i64 k ∧ ∀ j, j < k → bs[j]! = true) (fun _ i => n - (intOf i).toNat)
  case atStart => exact ⟨0, Nat.zero_le _, rfl, fun j hj => absurd hj (Nat.not_lt_zero _)⟩
  case round =>
    obtain ⟨k, hk, rfl, hne⟩ := hrel
    have HN := Lib.hid hne
    have HL := Lib.hid hn
    clear hne hn
    obtain ⟨v, hv⟩ : ∃ v, v = bs[k]! := ⟨_, rfl⟩
    have hcell : k < n → w.cell? ⟨b, k, none⟩ = some (.bool v) := fun h => by rw [hv]; exact hc k h
    have HV := Lib.hid hv
    clear hv hc
    by_cases hlt : k < n
    · replace hcell := hcell hlt
      cases v with
      | false =>
        go_wp2
        go_ret
        refine ⟨⟨_, rfl, ?_⟩, rfl⟩
        have : false ∈ bs := by
          have hk2 : k < bs.length := by rw [HL.out]; exact hlt
          have := HV.out
          rw [getElem!_pos bs k hk2] at this
          rw [this]
          exact List.getElem_mem _
        rw [show hasF bs = true from List.contains_iff_mem.2 this]
        simp
      | true =>
        go_wp2
        go_round
        case rel =>
          refine ⟨k + 1, by omega, by go_num, fun j hj => ?_⟩
          by_cases e : j = k
          · subst e
            exact HV.out.symm
          · exact HN.out j (by omega)
        case measure => simp [intOf]; omega
    · clear hcell
      go_wp2
      go_ret
      refine ⟨⟨_, rfl, ?_⟩, rfl⟩
      have : ¬ (false ∈ bs) := fun hm => by
        obtain ⟨j, hj, e⟩ := List.mem_iff_getElem.1 hm
        have h1 := HN.out j (by rw [HL.out] at hj; omega)
        rw [getElem!_pos bs j hj, e] at h1
        cases h1
      rw [show hasF bs = false by unfold hasF; rw [← Bool.not_eq_true, List.contains_iff_mem]; exact this]
      decide

set_option maxHeartbeats 400000 in
theorem idxB_nil (a : Option Addr) (cap : Nat) (w : World) :
    Calls Tryz.prog 141 #[.slice a 0 cap, .bool false] w fun e w' => e = .returned (.int .i64 (-1)) ∧ w' = w := by
  go_enter Tryz.func141, Tryz.ntmps141
  go_wp2
  go_loop [5, 8] (fun _ i => i = .int .i64 0) (fun _ _ => 0)
  case atStart => rfl
  case round =>
    subst hrel
    go_wp2
    go_ret
    exact ⟨rfl, rfl⟩

set_option maxHeartbeats 400000 in
theorem hasB_any (b n cap : Nat) (bs : List Bool) (w : World) (hn : bs.length = n) (hbig : n ≤ 1000) (hc : ∀ j, j < n → w.cell? ⟨b, j, none⟩ = some (.bool bs[j]!)) :
    Calls Tryz.prog 119 #[.slice (some ⟨b, 0, none⟩) n cap, .bool false] w fun e w' => e = .returned (.bool (hasF bs)) ∧ w' = w := by
  have HC := Lib.hid (idxB_any b n cap bs w hn hbig hc)
  clear hn hc
  go_enter Tryz.func119, Tryz.ntmps119
  go_wp2_with fail
  refine HC.out.mono ?_
  rintro e w' ⟨⟨i, rfl, hi⟩, rfl⟩
  go_wp2
  go_ret
  exact ⟨by rw [← hi]; rfl, rfl⟩

set_option maxHeartbeats 400000 in
theorem hasB_nil (a : Option Addr) (cap : Nat) (w : World) :
    Calls Tryz.prog 119 #[.slice a 0 cap, .bool false] w fun e w' => e = .returned (.bool false) ∧ w' = w := by
  go_enter Tryz.func119, Tryz.ntmps119
  go_wp2_with fail
  refine (idxB_nil a cap w).mono ?_
  rintro e w' ⟨rfl, rfl⟩
  go_wp2
  go_ret
  exact ⟨rfl, rfl⟩

set_option maxHeartbeats 1000000 in
theorem idxR_any (b n cap : Nat) (zs : List Int) (x : Int) (w : World) (hn : zs.length = n) (hbig : n ≤ 1000) (hc : ∀ j, j < n → w.cell? ⟨b, j, none⟩ = some (.int .i32 zs[j]!)) :
    Calls Tryz.prog 142 #[.slice (some ⟨b, 0, none⟩) n cap, .int .i32 x] w fun e w' => (∃ i : Int, e = .returned (.int .i64 i) ∧ decide (0 ≤ i) = hasZ zs x) ∧ w' = w := by
  go_enter Tryz.func142, Tryz.ntmps142
  go_wp2
  go_loop [5, 8] (fun _ i => ∃ k : Nat, k ≤ n ∧ i = .int .i64 k ∧ ∀ j, j < k → zs[j]! ≠ x) (fun _ i => n - (intOf i).toNat)
  case atStart => exact ⟨0, Nat.zero_le _, rfl, fun j hj => absurd hj (Nat.not_lt_zero _)⟩
  case round =>
    obtain ⟨k, hk, rfl, hne⟩ := hrel
    have HN := Lib.hid hne
    have HL := Lib.hid hn
    clear hne hn
    obtain ⟨v, hv⟩ : ∃ v, v = zs[k]! := ⟨_, rfl⟩
    have hcell : k < n → w.cell? ⟨b, k, none⟩ = some (.int .i32 v) := fun h => by rw [hv]; exact hc k h
    have HV := Lib.hid hv
    clear hv hc
    by_cases hlt : k < n
    · replace hcell := hcell hlt
      by_cases hx : x = v
      · have HX := Lib.hid hx
        have hxb : (x == v) = true := by simpa using hx
        clear hx
        go_wp2
        go_ret
        refine ⟨⟨_, rfl, ?_⟩, rfl⟩
        have : x ∈ zs := by
          have hk2 : k < zs.length := by rw [HL.out]; exact hlt
          have := HV.out
          rw [getElem!_pos zs k hk2, ← HX.out] at this
          rw [this]
          exact List.getElem_mem _
        rw [show hasZ zs x = true from List.contains_iff_mem.2 this]
        simp
      · have HX := Lib.hid hx
        have hxb : (x == v) = false := by simpa using hx
        clear hx
        go_wp2
        go_round
        case rel =>
          refine ⟨k + 1, by omega, by go_num, fun j hj => ?_⟩
          by_cases e : j = k
          · subst e
            rw [← HV.out]
            exact Ne.symm HX.out
          · exact HN.out j (by omega)
        case measure => simp [intOf]; omega
    · clear hcell
      go_wp2
      go_ret
      refine ⟨⟨_, rfl, ?_⟩, rfl⟩
      have : ¬ (x ∈ zs) := fun hm => by
        obtain ⟨j, hj, e⟩ := List.mem_iff_getElem.1 hm
        have h1 := HN.out j (by rw [HL.out] at hj; omega)
        rw [getElem!_pos zs j hj] at h1
        exact h1 e
      rw [show hasZ zs x = false by unfold hasZ; rw [← Bool.not_eq_true, List.contains_iff_mem]; exact this]
      decide

set_option maxHeartbeats 400000 in
theorem hasR_any (b n cap : Nat) (zs : List Int) (x : Int) (w : World) (hn : zs.length = n) (hbig : n ≤ 1000) (hc : ∀ j, j < n → w.cell? ⟨b, j, none⟩ = some (.int .i32 zs[j]!)) :
    Calls Tryz.prog 120 #[.slice (some ⟨b, 0, none⟩) n cap, .int .i32 x] w fun e w' => e = .returned (.bool (hasZ zs x)) ∧ w' = w := by
  have HC := Lib.hid (idxR_any b n cap zs x w hn hbig hc)
  clear hn hc
  go_enter Tryz.func120, Tryz.ntmps120
  go_wp2_with fail
  refine HC.out.mono ?_
  rintro e w' ⟨⟨i, rfl, hi⟩, rfl⟩
  go_wp2
  go_ret
  exact ⟨by rw [← hi]; rfl, rfl⟩
end Go.Proofs.YtmbmolgkccjedaaGreatDoor

/- Contracts of plain and must of package eid. -/
set_option linter.unusedVariables false
set_option linter.unusedSimpArgs false
namespace Go.Proofs.YtmbmolgkccjedaaGreatDoor
open Go.RowKit

/-- Is a rune a small letter, a digit, or one of the marks? -/
def plnZ (zs : List Int) (x : Int) : Bool := (decide (97 ≤ x) && decide (x ≤ 122)) || (decide (48 ≤ x) && decide (x ≤ 57)) || hasZ zs x
def plnB (zs : List Int) (c : UInt8) : Bool := plnZ zs (c.toNat : Int)

theorem plnZ_big {zs : List Int} (hz : ∀ z ∈ zs, z < 128) {x : Int} (hx : 128 ≤ x) : plnZ zs x = false := by
  have h : hasZ zs x = false := by
    unfold hasZ
    rw [← Bool.not_eq_true, List.contains_iff_mem]
    intro hm
    have := hz x hm
    omega
  unfold plnZ
  rw [h]
  simp
  omega
/-- What a rune says of the byte at which it begins; and how wide it is if it is plain. -/
theorem pln_decode {zs : List Int} (hz : ∀ z ∈ zs, z < 128) (s : ByteArray) (pos : Nat) (h : pos < s.size) :
    plnZ zs ((Utf8.decode s pos).1 : Int) = plnB zs s[pos] ∧ (plnB zs s[pos] = true → (Utf8.decode s pos).2 = 1) := by
  by_cases ha : (s[pos]'h).toNat < 128
  · rw [decode_ascii s pos h ha]
    exact ⟨rfl, fun _ => rfl⟩
  · have hd := decode_high s pos h (by omega)
    have h1 : plnB zs s[pos] = false := plnZ_big hz (by omega)
    rw [h1, plnZ_big hz (by omega)]
    exact ⟨rfl, fun h => by cases h⟩

theorem all_snoc_at {p : UInt8 → Bool} {s : ByteArray} {pos : Nat} (h : pos < s.size) (ha : ∀ (j : Nat) (hj : j < s.size), j < pos → p s[j] = true) (hp : p s[pos] = true) : ∀ (j : Nat) (hj : j < s.size), j < pos + 1 → p s[j] = true := fun j hj hlt => by
  by_cases e : j = pos
  · subst e; exact hp
  · exact ha j hj (by omega)
theorem all_of_at {p : UInt8 → Bool} {s : ByteArray} (ha : ∀ (j : Nat) (hj : j < s.size), p s[j] = true) : s.data.toList.all p = true := by
  rw [List.all_eq_true]
  intro c hc
  obtain ⟨j, hj, e⟩ := List.mem_iff_getElem.1 hc
  have hj' : j < s.size := by simpa using hj
  have := ha j hj'
  rw [← e]
  exact this
theorem all_not_at {p : UInt8 → Bool} {s : ByteArray} {pos : Nat} (h : pos < s.size) (hp : p s[pos] = false) : s.data.toList.all p = false := by
  rw [← Bool.not_eq_true, List.all_eq_true]
  intro hc
  have hj : pos < s.data.toList.length := by simpa using h
  have := hc _ (List.getElem_mem hj)
  have e : s.data.toList[pos] = s[pos] := rfl
  rw [e, hp] at this
  cases this

set_option maxRecDepth 100000 in
set_option maxHeartbeats 4000000 in
theorem plain_any (b n cap : Nat) (zs : List Int) (s : ByteArray) (w : World) (hn : zs.length = n) (hbig : n ≤ 1000) (hz : ∀ z ∈ zs, z < 128) (hb : b < w.heap.size) (hc : ∀ j, j < n → w.cell? ⟨b, j, none⟩ = some (.int .i32 zs[j]!)) :
    Calls Tryz.prog 94 #[.string s, .slice (some ⟨b, 0, none⟩) n cap] w fun e w' => e = .returned (.bool (s.data.toList.all (plnB zs))) ∧ Below w.heap.size w w' := by
  have HN := Lib.hid hn
  have HZ := Lib.hid hz
  have HC := Lib.hid hc
  clear hn hz hc
  obtain ⟨R, hR⟩ : ∃ R, R = s.data.toList.all (plnB zs) := ⟨_, rfl⟩
  have HR := Lib.hid hR
  rw [← hR]
  clear hR
  go_enter Tryz.func94, Tryz.ntmps94
  go_wp2
  go_loopw [6] (fun _ wr => ∃ pos : Nat, wr.heap[w.heap.size]? = some (.stringIter s pos) ∧ Below w.heap.size w wr ∧ ∀ (j : Nat) (hj : j < s.size), j < pos → plnB zs s[j] = true) (fun _ wr => s.size - wr.iterPos w.heap.size)
  case atStart =>
    refine ⟨0, World.iter_heap w s 0, (Below.refl _ w).alloc (Nat.le_refl _) _, fun j _ h => absurd h (Nat.not_lt_zero _)⟩
  case round =>
    obtain ⟨pos, hit, hbw, hall⟩ := hrel
    have hsz : w.heap.size < wr.heap.size := (Array.getElem?_eq_some_iff.1 hit).1
    have HA := Lib.hid hall
    clear hall
    by_cases hp : pos < s.size
    · have hpd := pln_decode HZ.out s pos hp
      have hit2 := Lib.iterAt_heap wr w.heap.size s pos (pos + (Utf8.decode s pos).2) hit
      have hbw2 := Lib.below_iterAt hbw (k := w.heap.size) (Nat.le_refl _) s (pos + (Utf8.decode s pos).2)
      have hnx : ∀ ty, (Instr.next (.pointer (some ⟨w.heap.size, 0, none⟩)) true ty).run Tryz.prog wr = _ := fun ty => Lib.run_next_any_at wr w.heap.size s pos ty hit hp
      obtain ⟨wid, hwid⟩ : ∃ d, d = (Utf8.decode s pos).2 := ⟨_, rfl⟩
      obtain ⟨x, hx⟩ : ∃ x : Int, x = ((Utf8.decode s pos).1 : Int) := ⟨_, rfl⟩
      rw [← hwid] at hit2 hbw2 hpd
      simp only [← hwid, ← hx] at hnx
      rw [← hx] at hpd
      clear hwid hx
      have HPD := Lib.hid hpd
      have HIT := Lib.hid hit2
      have HBW := Lib.hid hbw2
      have HIT0 := Lib.hid hit
      have HHas := Lib.hid (hasR_any b n cap zs x (wr.iterAt w.heap.size s (pos + wid)) HN.out hbig (fun j hj => (hbw2.cell (p := ⟨b, j, none⟩) hb).trans (HC.out j hj)))
      clear hpd hit hit2 hbw hbw2
      obtain ⟨q, hq⟩ : ∃ q, q = plnZ zs x := ⟨_, rfl⟩
      have HQ := Lib.hid hq
      clear hq
      have hcs : (∃ d1 d2 d3 d4 h : Bool, decide (97 ≤ x) = d1 ∧ decide (x ≤ 122) = d2 ∧ decide (48 ≤ x) = d3 ∧ decide (x ≤ 57) = d4 ∧ hasZ zs x = h) := ⟨_, _, _, _, _, rfl, rfl, rfl, rfl, rfl⟩
      obtain ⟨d1, d2, d3, d4, h, e1, e2, e3, e4, eh⟩ := hcs
      have hqv : q = ((d1 && d2) || (d3 && d4) || h) := by rw [HQ.out, plnZ, e1, e2, e3, e4, eh]
      have HQV := Lib.hid hqv
      clear hqv
      have EH := Lib.hid eh
      clear eh
      cases d1 <;> cases d2 <;> cases d3 <;> cases d4 <;> cases h
      all_goals
        first
        | go_wp2_with (go_at_call 120; refine HHas.out.mono ?_; rintro e w' ⟨rfl, rfl⟩; rw [EH.out])
          first
          | go_ret
            refine ⟨?_, HBW.out⟩
            have h0 : plnB zs s[pos] = false := by rw [← HPD.out.1, ← HQ.out, HQV.out]; rfl
            rw [HR.out, all_not_at hp h0]; rfl
          | go_roundw
            case rel =>
              have h0 : plnB zs s[pos] = true := by rw [← HPD.out.1, ← HQ.out, HQV.out]; rfl
              have h1 := HPD.out.2 h0
              subst h1
              exact ⟨pos + 1, HIT.out, HBW.out, all_snoc_at hp HA.out h0⟩
            case measure =>
              have h0 : plnB zs s[pos] = true := by rw [← HPD.out.1, ← HQ.out, HQV.out]; rfl
              have h1 := HPD.out.2 h0
              subst h1
              simp only [World.iterPos, HIT.out, HIT0.out]
              omega
    · have hnx : ∀ ty, (Instr.next (.pointer (some ⟨w.heap.size, 0, none⟩)) true ty).run Tryz.prog wr = _ := fun ty => Lib.run_next_end_at wr w.heap.size s pos ty hit hp
      have HBW := Lib.hid hbw
      clear hbw hit
      go_wp2
      go_ret
      refine ⟨?_, HBW.out⟩
      rw [HR.out, all_of_at (fun j hj => HA.out j hj (by omega))]; rfl

set_option maxRecDepth 100000 in
set_option maxHeartbeats 1000000 in
theorem must_any (b n cap : Nat) (bs : List Bool) (t : ByteArray) (w : World) (hn : bs.length = n) (hbig : n ≤ 1000) (hb : b < w.heap.size) (hc : ∀ j, j < n → w.cell? ⟨b, j, none⟩ = some (.bool bs[j]!)) :
    Calls Tryz.prog 93 #[.string t, .slice (some ⟨b, 0, none⟩) n cap] w fun e w' => e = .returned (.agg #[.string t, .bool (!hasF bs)]) ∧ Below w.heap.size w w' := by
  have hB := (Below.refl w.heap.size w).alloc (Nat.le_refl _) (.cells #[.string ⟨#[]⟩, .bool false] 74)
  have HH := Lib.hid (hasB_any b n cap bs _ hn hbig (fun j hj => (hB.cell (p := ⟨b, j, none⟩) hb).trans (hc j hj)))
  have HB := Lib.hid hB
  clear hB hn hc
  go_enter Tryz.func93, Tryz.ntmps93
  go_wp2_with fail
  refine HH.out.mono ?_
  rintro e w' ⟨rfl, rfl⟩
  go_wp2
  refine bodyPost_ret (v := .agg #[.string t, .bool (!hasF bs)]) (by simp [results, Tryz.results93, go_sem]) rfl ⟨rfl, ?_⟩
  exact (Below.refl w.heap.size w).alloc (Nat.le_refl _) _

set_option maxRecDepth 100000 in
set_option maxHeartbeats 1000000 in
theorem must_nil (t : ByteArray) (w : World) :
    Calls Tryz.prog 93 #[.string t, .slice none 0 0] w fun e w' => e = .returned (.agg #[.string t, .bool true]) ∧ Below w.heap.size w w' := by
  go_enter Tryz.func93, Tryz.ntmps93
  go_wp2_with fail
  refine (hasB_nil none 0 _).mono ?_
  rintro e w' ⟨rfl, rfl⟩
  go_wp2
  refine bodyPost_ret (v := .agg #[.string t, .bool true]) (by simp [results, Tryz.results93, go_sem]) rfl ⟨rfl, ?_⟩
  exact (Below.refl w.heap.size w).alloc (Nat.le_refl _) _
end Go.Proofs.YtmbmolgkccjedaaGreatDoor
