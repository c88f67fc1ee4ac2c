/- Contracts of lettersOnly, rightAlone and argument of package item, and of the document's text: of every text, and item. -/
import Derived.Test.YtmbmolgkccjedaaGreatDoorIOpen
import Derived.Test.YtmbmolgkccjedaaGreatDoorM13
import Derived.Test.YtmbmolgkccjedaaGreatDoorM4
import Derived.LoopTactic
import Derived.Deep.RegionWith
import Derived.BigQuiet
import Derived.Deep.QuietTactic
import Derived.Deep.RegionHeld3
set_option linter.unusedVariables false
set_option linter.unusedSimpArgs false
namespace Go.Proofs.YtmbmolgkccjedaaGreatDoor
open Go.RowKit

/-- Is a byte from 20 to 7e? -/
def letB (b : UInt8) : Bool := decide (32 ≤ b.toNat) && decide (b.toNat ≤ 126)
theorem txtB_snoc (l : List UInt8) (b : UInt8) : txtB (l ++ [b]) = (txtB l && letB b) := by simp [txtB, letB, List.all_append]
theorem txtB_first {s : ByteArray} (h : txtB s.data.toList = true) (j : Nat) : txtB (firstB s j) = true := by
  unfold txtB at h ⊢
  rw [List.all_eq_true] at h ⊢
  exact fun b hb => h b (List.mem_of_mem_take hb)
set_option maxRecDepth 100000 in
set_option maxHeartbeats 1000000 in
theorem letters_any (s : ByteArray) (w : World) (hs : s.size ≤ maxLen) :
    Calls Tryz.prog 74 #[.string s] w fun e w' => e = .returned (.bool (txtB s.data.toList)) ∧ w = w' := by
  unfold maxLen at hs
  go_enter Tryz.func74, Tryz.ntmps74
  go_wp2_with fail
  go_loop [6] (fun i => ∃ j : Nat, j ≤ s.size ∧ i = .int .i64 (j : Int) ∧ txtB (firstB s j) = true) (fun i => s.size - (intOf i).toNat)
  case atStart => exact ⟨0, Nat.zero_le _, rfl, rfl⟩
  case round =>
    obtain ⟨j, hj, rfl, hv⟩ := hrel
    have HV := Lib.hid hv
    clear hv
    by_cases hlt : j < s.size
    · have HS := Lib.hid (show txtB (firstB s (j + 1)) = (txtB (firstB s j) && letB s[j]) by rw [firstB_succ s j hlt, txtB_snoc])
      have HN := Lib.hid (fun h : txtB s.data.toList = true => txtB_first h (j + 1))
      have HB := Lib.hid (show letB s[j] = (decide (32 ≤ s[j].toNat) && decide (s[j].toNat ≤ 126)) from rfl)
      have hb := s[j].toNat_lt
      by_cases h1 : s[j].toNat < 32
      · have b1 : decide ((s[j].toNat : Int) < 32) = true := by simp; omega
        have HR := Lib.hid (show txtB s.data.toList = false by
          cases h : txtB s.data.toList with
          | false => rfl
          | true =>
            have := HN.out h
            rw [HS.out, HB.out] at this
            simp at this
            omega)
        clear h1
        go_wp2
        go_ret
        exact ⟨by rw [HR.out]; rfl, rfl⟩
      · have b1 : decide ((s[j].toNat : Int) < 32) = false := by simp; omega
        by_cases h2 : 126 < s[j].toNat
        · have b2 : decide (126 < (s[j].toNat : Int)) = true := by simp; omega
          have HR := Lib.hid (show txtB s.data.toList = false by
            cases h : txtB s.data.toList with
            | false => rfl
            | true =>
              have := HN.out h
              rw [HS.out, HB.out] at this
              simp at this
              omega)
          clear h1 h2
          go_wp2
          go_ret
          exact ⟨by rw [HR.out]; rfl, rfl⟩
        · have b2 : decide (126 < (s[j].toNat : Int)) = false := by simp; omega
          have HR := Lib.hid (show txtB (firstB s (j + 1)) = true by
            rw [HS.out, HB.out, HV.out]
            simp
            omega)
          clear h1 h2
          go_wp2
          go_round
          case rel => exact ⟨j + 1, by omega, by go_num, HR.out⟩
          case measure => simp [intOf]; omega
    · obtain rfl : j = s.size := by omega
      rw [firstB_all] at HV
      go_wp2
      go_ret
      exact ⟨by rw [HV.out]; rfl, rfl⟩

set_option maxRecDepth 100000 in
set_option maxHeartbeats 1000000 in
theorem refText_any (s : ByteArray) (w : World) (hs : s.size ≤ maxLen) :
    Calls Tryz.prog 91 #[.string s] w fun e w' => e = .returned (.bool (txtB s.data.toList)) ∧ w = w' := by
  unfold maxLen at hs
  go_enter Tryz.func91, Tryz.ntmps91
  go_wp2_with fail
  go_loop [3] (fun i => ∃ j : Nat, j ≤ s.size ∧ i = .int .i64 (j : Int) ∧ txtB (firstB s j) = true) (fun i => s.size - (intOf i).toNat)
  case atStart => exact ⟨0, Nat.zero_le _, rfl, rfl⟩
  case round =>
    obtain ⟨j, hj, rfl, hv⟩ := hrel
    have HV := Lib.hid hv
    clear hv
    by_cases hlt : j < s.size
    · have HS := Lib.hid (show txtB (firstB s (j + 1)) = (txtB (firstB s j) && letB s[j]) by rw [firstB_succ s j hlt, txtB_snoc])
      have HN := Lib.hid (fun h : txtB s.data.toList = true => txtB_first h (j + 1))
      have HB := Lib.hid (show letB s[j] = (decide (32 ≤ s[j].toNat) && decide (s[j].toNat ≤ 126)) from rfl)
      have hb := s[j].toNat_lt
      by_cases h1 : s[j].toNat < 32
      · have b1 : decide ((s[j].toNat : Int) < 32) = true := by simp; omega
        have HR := Lib.hid (show txtB s.data.toList = false by
          cases h : txtB s.data.toList with
          | false => rfl
          | true =>
            have := HN.out h
            rw [HS.out, HB.out] at this
            simp at this
            omega)
        clear h1
        go_wp2
        go_ret
        exact ⟨by rw [HR.out]; rfl, rfl⟩
      · have b1 : decide ((s[j].toNat : Int) < 32) = false := by simp; omega
        by_cases h2 : 126 < s[j].toNat
        · have b2 : decide (126 < (s[j].toNat : Int)) = true := by simp; omega
          have HR := Lib.hid (show txtB s.data.toList = false by
            cases h : txtB s.data.toList with
            | false => rfl
            | true =>
              have := HN.out h
              rw [HS.out, HB.out] at this
              simp at this
              omega)
          clear h1 h2
          go_wp2
          go_ret
          exact ⟨by rw [HR.out]; rfl, rfl⟩
        · have b2 : decide (126 < (s[j].toNat : Int)) = false := by simp; omega
          have HR := Lib.hid (show txtB (firstB s (j + 1)) = true by
            rw [HS.out, HB.out, HV.out]
            simp
            omega)
          clear h1 h2
          go_wp2
          go_round
          case rel => exact ⟨j + 1, by omega, by go_num, HR.out⟩
          case measure => simp [intOf]; omega
    · obtain rfl : j = s.size := by omega
      rw [firstB_all] at HV
      go_wp2
      go_ret
      exact ⟨by rw [HV.out]; rfl, rfl⟩

set_option maxRecDepth 100000 in
set_option maxHeartbeats 1000000 in
theorem iarg_any (k n : Int) (s : List UInt8) (l : List Itm) (p : Option Addr) (cap : Nat) (w : World) :
    Calls Tryz.prog 69 #[.agg #[.int .i64 k, .int .i64 n, .string ⟨s.toArray⟩, .slice p l.length cap]] w fun e w' => e = .returned (.int .i64 (if k = 4 then (l.length : Int) else if k = 0 then n else (s.length : Int))) ∧ Below w.heap.size w w' := by
  by_cases h0 : k = 0
  · subst h0
    go_enter Tryz.func69, Tryz.ntmps69
    go_wp2
    go_ret
    exact ⟨rfl, (Below.refl _ _).alloc (Nat.le_refl _) _⟩
  by_cases h4 : k = 4
  · subst h4
    go_enter Tryz.func69, Tryz.ntmps69
    go_wp2
    go_ret
    exact ⟨rfl, (Below.refl _ _).alloc (Nat.le_refl _) _⟩
  have b0 : (k == 0) = false := by simpa using h0
  have b4 : (k == 4) = false := by simpa using h4
  rw [if_neg h4, if_neg h0]
  clear h0 h4
  go_enter Tryz.func69, Tryz.ntmps69
  go_wp2
  go_ret
  exact ⟨rfl, (Below.refl _ _).alloc (Nat.le_refl _) _⟩

theorem size_list {s : List UInt8} {m : Nat} (h : s.length ≤ m) : (⟨s.toArray⟩ : ByteArray).size ≤ m := by simpa [ByteArray.size] using h
theorem lenB (l : List Itm) : ((l.length : Int) == 0) = l.isEmpty := by cases l <;> simp <;> omega
theorem own0 (n : Int) (s : List UInt8) (l : List Itm) : ownB 0 n s l = (rightB n && s.isEmpty && l.isEmpty) := by simp [ownB, rightB]
theorem own2 (n : Int) (s : List UInt8) (l : List Itm) : ownB 2 n s l = ((n == 0) && decide ((s.length : Int) ≤ 600) && l.isEmpty) := by
  have : decide (s.length ≤ 600) = decide ((s.length : Int) ≤ 600) := by rw [decide_eq_decide]; omega
  have e : decide (n = 0) = (n == 0) := rfl
  simp only [ownB]
  rw [this, e]
  simp
theorem own3 (n : Int) (s : List UInt8) (l : List Itm) : ownB 3 n s l = ((n == 0) && decide ((s.length : Int) ≤ 600) && txtB s && l.isEmpty) := by
  have : decide (s.length ≤ 600) = decide ((s.length : Int) ≤ 600) := by rw [decide_eq_decide]; omega
  have e : decide (n = 0) = (n == 0) := rfl
  simp only [ownB]
  rw [this, e]
  cases decide ((s.length : Int) ≤ 600) <;> cases txtB s <;> cases l.isEmpty <;> simp
theorem own4 (n : Int) (s : List UInt8) (l : List Itm) : ownB 4 n s l = ((n == 0) && s.isEmpty) := by
  have e : decide (n = 0) = (n == 0) := rfl
  simp only [ownB]
  rw [e]
  simp
theorem ownX {k : Int} (n : Int) (s : List UInt8) (l : List Itm) (h0 : (k == 0) = false) (h2 : (k == 2) = false) (h3 : (k == 3) = false) (h4 : (k == 4) = false) : ownB k n s l = false := by
  simp only [beq_eq_false_iff_ne, ne_eq] at h0 h2 h3 h4
  simp [ownB, h0, h2, h3, h4]

set_option maxRecDepth 100000 in
set_option maxHeartbeats 1000000 in
theorem alone0 (n : Int) (s : List UInt8) (l : List Itm) (p : Option Addr) (cap : Nat) (w : World) (hs : s.length ≤ maxLen) :
    Calls Tryz.prog 44 #[.agg #[.int .i64 0, .int .i64 n, .string ⟨s.toArray⟩, .slice p l.length cap]] w fun e w' => e = .returned (.bool (ownB 0 n s l)) ∧ Below w.heap.size w w' := by
  rw [own0]
  go_enter Tryz.func44, Tryz.ntmps44
  go_wp2_with (go_at_call 73; refine (right_any _ _).mono ?_; rintro e w' ⟨rfl, rfl⟩)
  all_goals
    go_ret
    refine ⟨?_, (Below.refl _ _).alloc (Nat.le_refl _) _⟩
    simp_all [lenB]
    all_goals (try (intro; omega))
set_option maxRecDepth 100000 in
set_option maxHeartbeats 1000000 in
theorem alone2 (n : Int) (s : List UInt8) (l : List Itm) (p : Option Addr) (cap : Nat) (w : World) (hs : s.length ≤ maxLen) :
    Calls Tryz.prog 44 #[.agg #[.int .i64 2, .int .i64 n, .string ⟨s.toArray⟩, .slice p l.length cap]] w fun e w' => e = .returned (.bool (ownB 2 n s l)) ∧ Below w.heap.size w w' := by
  rw [own2]
  go_enter Tryz.func44, Tryz.ntmps44
  go_wp2_with fail
  all_goals
    go_ret
    refine ⟨?_, (Below.refl _ _).alloc (Nat.le_refl _) _⟩
    simp_all [lenB]
    all_goals (try (intro; omega))
set_option maxRecDepth 100000 in
set_option maxHeartbeats 1000000 in
theorem alone3 (n : Int) (s : List UInt8) (l : List Itm) (p : Option Addr) (cap : Nat) (w : World) (hs : s.length ≤ maxLen) :
    Calls Tryz.prog 44 #[.agg #[.int .i64 3, .int .i64 n, .string ⟨s.toArray⟩, .slice p l.length cap]] w fun e w' => e = .returned (.bool (ownB 3 n s l)) ∧ Below w.heap.size w w' := by
  rw [own3]
  go_enter Tryz.func44, Tryz.ntmps44
  go_wp2_with (go_at_call 74; refine (letters_any _ _ (size_list hs)).mono ?_; rintro e w' ⟨rfl, rfl⟩)
  all_goals
    go_ret
    refine ⟨?_, (Below.refl _ _).alloc (Nat.le_refl _) _⟩
    simp_all [lenB]
    all_goals (try (intro; omega))
set_option maxRecDepth 100000 in
set_option maxHeartbeats 1000000 in
theorem alone4 (n : Int) (s : List UInt8) (l : List Itm) (p : Option Addr) (cap : Nat) (w : World) (hs : s.length ≤ maxLen) :
    Calls Tryz.prog 44 #[.agg #[.int .i64 4, .int .i64 n, .string ⟨s.toArray⟩, .slice p l.length cap]] w fun e w' => e = .returned (.bool (ownB 4 n s l)) ∧ Below w.heap.size w w' := by
  rw [own4]
  go_enter Tryz.func44, Tryz.ntmps44
  go_wp2_with fail
  all_goals
    go_ret
    refine ⟨?_, (Below.refl _ _).alloc (Nat.le_refl _) _⟩
    simp_all [lenB]
    all_goals (try (intro; omega))
set_option maxRecDepth 100000 in
set_option maxHeartbeats 1000000 in
theorem alone_any (k n : Int) (s : List UInt8) (l : List Itm) (p : Option Addr) (cap : Nat) (w : World) (hs : s.length ≤ maxLen) :
    Calls Tryz.prog 44 #[.agg #[.int .i64 k, .int .i64 n, .string ⟨s.toArray⟩, .slice p l.length cap]] w fun e w' => e = .returned (.bool (ownB k n s l)) ∧ Below w.heap.size w w' := by
  cases h0 : (k == 0)
  case true => obtain rfl : k = 0 := by simpa using h0
               exact alone0 n s l p cap w hs
  cases h2 : (k == 2)
  case true => obtain rfl : k = 2 := by simpa using h2
               exact alone2 n s l p cap w hs
  cases h3 : (k == 3)
  case true => obtain rfl : k = 3 := by simpa using h3
               exact alone3 n s l p cap w hs
  cases h4 : (k == 4)
  case true => obtain rfl : k = 4 := by simpa using h4
               exact alone4 n s l p cap w hs
  rw [ownX n s l h0 h2 h3 h4]
  go_enter Tryz.func44, Tryz.ntmps44
  go_wp2
  go_ret
  exact ⟨rfl, (Below.refl _ _).alloc (Nat.le_refl _) _⟩
end Go.Proofs.YtmbmolgkccjedaaGreatDoor

/- Contracts of Same of package item, and of the document's: of every two items. -/
set_option linter.unusedVariables false
set_option linter.unusedSimpArgs false
namespace Go.Proofs.YtmbmolgkccjedaaGreatDoor
open Go.RowKit

theorem dep_mem {x : Itm} : ∀ {l : List Itm}, x ∈ l → dep x ≤ deps l
  | y :: r, h => by
    simp only [deps]
    rcases List.mem_cons.1 h with rfl | h
    · omega
    · have := dep_mem h; omega
theorem add_pos (A : Addr) (i : Nat) (h : i ≠ 0) : A.add i = ⟨A.block, A.off + i, none⟩ := by unfold Addr.add; rw [if_neg h]
/-- The item at a place of a row, its cells as a walk reads them. -/
theorem ItsV.reads {ok : Nat → Prop} {W : World} {p : Option Addr} (l : List Itm) (j : Nat) (x : Itm) (h : ItsV ok W l p 0) (hj : l[j]? = some x) :
    ∃ (a : Addr) (c0 c1 c2 c3 : Value), p = some a ∧ ok a.block ∧ W.cell? (a.add (j * 4)) = some c0 ∧ W.cell? ⟨(a.add (j * 4)).block, (a.add (j * 4)).off + 1, none⟩ = some c1 ∧ W.cell? ⟨(a.add (j * 4)).block, (a.add (j * 4)).off + 2, none⟩ = some c2 ∧ W.cell? ⟨(a.add (j * 4)).block, (a.add (j * 4)).off + 3, none⟩ = some c3 ∧ ItV ok W x (.agg #[c0, c1, c2, c3]) := by
  obtain ⟨a, c0, c1, c2, c3, hp, ho, h0, h1, h2, h3, hv⟩ := ItsV.at l 0 j x h hj
  rw [Nat.zero_add] at h0 h1 h2 h3
  rw [← add_add4, add_pos _ _ (by decide)] at h1 h2 h3
  exact ⟨a, c0, c1, c2, c3, hp, ho, h0, h1, h2, h3, hv⟩
theorem ItV.drew {ok : Nat → Prop} {W : World} {x : Itm} {v : Value} (h : ItV ok W x v) : ItV ok W.drew x v := ItV.keep (fun _ _ ho e => ⟨by simpa using e, ho⟩) x v h

set_option maxRecDepth 100000 in
set_option maxHeartbeats 1000000 in
theorem same_no (k n k' n' : Int) (s s' : List UInt8) (m m' : Nat) (p p' : Option Addr) (cap cap' : Nat) (w : World)
    (h : (k != k') = true ∨ (k != k') = false ∧ (n != n') = true ∨ (k != k') = false ∧ (n != n') = false ∧ (s == s') = false ∨ (k != k') = false ∧ (n != n') = false ∧ (s == s') = true ∧ ((m : Int) != (m' : Int)) = true) :
    Calls Tryz.prog 22 #[.agg #[.int .i64 k, .int .i64 n, .string ⟨s.toArray⟩, .slice p m cap], .agg #[.int .i64 k', .int .i64 n', .string ⟨s'.toArray⟩, .slice p' m' cap']] w fun e w' => e = .returned (.bool false) ∧ Below w.heap.size w w' := by
  rcases h with h1 | ⟨h1, h2⟩ | ⟨h1, h2, h3⟩ | ⟨h1, h2, h3, h4⟩
  all_goals
    go_enter Tryz.func22, Tryz.ntmps22
    go_wp2_with fail
    go_ret
    exact ⟨rfl, ((Below.refl _ _).alloc (Nat.le_refl _) _).alloc (by simp) _⟩

set_option maxRecDepth 100000 in
set_option maxHeartbeats 4000000 in
theorem same_yes (ok ok' : Nat → Prop) (f : Nat) (ih : ∀ (x y : Itm) (vx vy : Value) (W : World), dep x ≤ f → ItV ok W x vx → ItV ok' W y vy → Calls Tryz.prog 22 #[vx, vy] W fun e W' => e = .returned (.bool (sameB x y)) ∧ Below W.heap.size W W')
    (k n : Int) (s : List UInt8) (l l' : List Itm) (m : Nat) (hm : l.length = m) (hm' : l'.length = m) (hmx : m ≤ maxLen) (hd : deps l ≤ f) (p p' : Option Addr) (cap cap' : Nat) (w : World) (h1 : ItsV ok w l p 0) (h2 : ItsV ok' w l' p' 0) :
    Calls Tryz.prog 22 #[.agg #[.int .i64 k, .int .i64 n, .string ⟨s.toArray⟩, .slice p m cap], .agg #[.int .i64 k, .int .i64 n, .string ⟨s.toArray⟩, .slice p' m cap']] w fun e w' => e = .returned (.bool (sameBs l l')) ∧ Below w.heap.size w w' := by
  unfold maxLen at hmx
  have H1 := Lib.hid h1
  have H2 := Lib.hid h2
  have HI := Lib.hid ih
  have HL := Lib.hid hm
  have HL' := Lib.hid hm'
  have HD := Lib.hid hd
  clear h1 h2 ih hm hm' hd
  go_enter Tryz.func22, Tryz.ntmps22
  go_wp2_with fail
  have hB0 : Below w.heap.size w ((w.alloc (.cells #[.int .i64 k, .int .i64 n, .string ⟨s.toArray⟩, .slice p m cap] 26)).alloc (.cells #[.int .i64 k, .int .i64 n, .string ⟨s.toArray⟩, .slice p' m cap'] 26)) := ((Below.refl _ _).alloc (Nat.le_refl _) _).alloc (by simp) _
  have a3 : ((w.alloc (.cells #[.int .i64 k, .int .i64 n, .string ⟨s.toArray⟩, .slice p m cap] 26)).alloc (.cells #[.int .i64 k, .int .i64 n, .string ⟨s.toArray⟩, .slice p' m cap'] 26)).cell? ⟨w.heap.size, 3, none⟩ = some (.slice p m cap) := by go_simp
  have b3 : ((w.alloc (.cells #[.int .i64 k, .int .i64 n, .string ⟨s.toArray⟩, .slice p m cap] 26)).alloc (.cells #[.int .i64 k, .int .i64 n, .string ⟨s.toArray⟩, .slice p' m cap'] 26)).cell? ⟨w.heap.size + 1, 3, none⟩ = some (.slice p' m cap') := by go_simp
  generalize ((w.alloc (.cells #[.int .i64 k, .int .i64 n, .string ⟨s.toArray⟩, .slice p m cap] 26)).alloc (.cells #[.int .i64 k, .int .i64 n, .string ⟨s.toArray⟩, .slice p' m cap'] 26)) = w0 at *
  have A3 := Lib.hid a3
  have B3 := Lib.hid b3
  have HB0 := Lib.hid hB0
  clear a3 b3 hB0
  go_loopw [37] (fun i wr => ∃ j : Nat, j ≤ m ∧ i = .int .i64 (j : Int) ∧ l.take j = l'.take j ∧ Below w0.heap.size w0 wr) (fun i _ => m - (intOf i).toNat)
  case atStart => exact ⟨0, Nat.zero_le _, rfl, rfl, Below.refl _ _⟩
  case round =>
    obtain ⟨j, hj, rfl, hv, hB⟩ := hrel
    have HV := Lib.hid hv
    clear hv
    have HB := Lib.hid hB
    have a3 := (hB.cell (World.block_lt_of_cell? _ _ A3.out)).trans A3.out
    have b3 := (hB.cell (World.block_lt_of_cell? _ _ B3.out)).trans B3.out
    by_cases hlt : j < m
    · obtain ⟨x, hx⟩ : ∃ x, l[j]? = some x := ⟨_, List.getElem?_eq_getElem (by have := HL.out; omega)⟩
      obtain ⟨y, hy⟩ : ∃ y, l'[j]? = some y := ⟨_, List.getElem?_eq_getElem (by have := HL'.out; omega)⟩
      obtain ⟨a, c0, c1, c2, c3, rfl, _, e0, e1, e2, e3, hvx⟩ := ItsV.reads l j x ((H1.out.below HB0.out).below hB) hx
      obtain ⟨b, d0, d1, d2, d3, rfl, _, g0, g1, g2, g3, hvy⟩ := ItsV.reads l' j y ((H2.out.below HB0.out).below hB) hy
      have HX := Lib.hid hx
      have HY := Lib.hid hy
      have HVX := Lib.hid hvx
      have HVY := Lib.hid hvy
      clear hx hy hvx hvy hB
      have HDX := Lib.hid (show dep x ≤ f from Nat.le_trans (dep_mem (List.mem_of_getElem? HX.out)) HD.out)
      go_wp2_with fail
      go_region_held3 (fun w' => w'.cell? ⟨w.heap.size, 3, none⟩ = some (.slice (some a) m cap) ∧ w'.cell? ⟨w.heap.size + 1, 3, none⟩ = some (.slice (some b) m cap') ∧ w'.cell? (a.add (j * 4)) = some c0 ∧ w'.cell? ⟨(a.add (j * 4)).block, (a.add (j * 4)).off + 1, none⟩ = some c1 ∧ w'.cell? ⟨(a.add (j * 4)).block, (a.add (j * 4)).off + 2, none⟩ = some c2 ∧ w'.cell? ⟨(a.add (j * 4)).block, (a.add (j * 4)).off + 3, none⟩ = some c3 ∧ w'.cell? (b.add (j * 4)) = some d0 ∧ w'.cell? ⟨(b.add (j * 4)).block, (b.add (j * 4)).off + 1, none⟩ = some d1 ∧ w'.cell? ⟨(b.add (j * 4)).block, (b.add (j * 4)).off + 2, none⟩ = some d2 ∧ w'.cell? ⟨(b.add (j * 4)).block, (b.add (j * 4)).off + 3, none⟩ = some d3)
        (first
          | exact ⟨a3, b3, e0, e1, e2, e3, g0, g1, g2, g3⟩
          | exact ⟨(hb1.cell (World.block_lt_of_cell? _ _ a3)).trans (by simpa using a3), (hb1.cell (World.block_lt_of_cell? _ _ b3)).trans (by simpa using b3), (hb1.cell (World.block_lt_of_cell? _ _ e0)).trans (by simpa using e0), (hb1.cell (World.block_lt_of_cell? _ _ e1)).trans (by simpa using e1), (hb1.cell (World.block_lt_of_cell? _ _ e2)).trans (by simpa using e2), (hb1.cell (World.block_lt_of_cell? _ _ e3)).trans (by simpa using e3), (hb1.cell (World.block_lt_of_cell? _ _ g0)).trans (by simpa using g0), (hb1.cell (World.block_lt_of_cell? _ _ g1)).trans (by simpa using g1), (hb1.cell (World.block_lt_of_cell? _ _ g2)).trans (by simpa using g2), (hb1.cell (World.block_lt_of_cell? _ _ g3)).trans (by simpa using g3)⟩
          | go_keep)
        (first
          | (go_at_call 22; refine (HI.out x y _ _ _ HDX.out (HVX.out.drew) (HVY.out.drew)).mono ?_; rintro e w1 ⟨rfl, hb1⟩))
      have hb2 : Below wr.heap.size wr w1 := (Below.refl wr.heap.size wr).drew.trans (hb1.mono (by simp))
      have HB2 := Lib.hid (HB.out.trans (hb2.mono HB.out.size))
      clear hb1 hb2 a3 b3 e0 e1 e2 e3 g0 g1 g2 g3
      cases hsb : sameB x y with
      | false =>
        have HR := Lib.hid (show sameBs l l' = false by
          cases h : sameBs l l' with
          | false => rfl
          | true =>
            have e := (sameBs_iff l l').1 h
            have ex := HX.out
            rw [e, HY.out] at ex
            have : y = x := by simpa using ex
            rw [this, sameB_self] at hsb
            cases hsb)
        go_wp2_with fail
        go_ret
        exact ⟨by rw [HR.out]; rfl, HB0.out.trans (HB2.out.mono HB0.out.size)⟩
      | true =>
        have HR := Lib.hid (show l.take (j + 1) = l'.take (j + 1) by
          have e := (sameB_iff x y).1 hsb
          rw [List.take_add_one, List.take_add_one, HX.out, HY.out, HV.out, e])
        go_wp2_with fail
        go_roundw
        case rel => exact ⟨j + 1, by omega, by go_num, HR.out, HB2.out⟩
        case measure => simp [intOf]; omega
    · obtain rfl : j = m := by omega
      have HR := Lib.hid (show sameBs l l' = true by
        have e := HV.out
        rw [List.take_of_length_le (by rw [HL.out]; exact Nat.le_refl _), List.take_of_length_le (by rw [HL'.out]; exact Nat.le_refl _)] at e
        exact (sameBs_iff l l').2 e)
      go_wp2_with fail
      go_ret
      exact ⟨by rw [HR.out]; rfl, HB0.out.trans (HB.out.mono HB0.out.size)⟩

theorem same_any (ok ok' : Nat → Prop) : ∀ (f : Nat) (x y : Itm) (vx vy : Value) (W : World), dep x ≤ f → ItV ok W x vx → ItV ok' W y vy → Calls Tryz.prog 22 #[vx, vy] W fun e W' => e = .returned (.bool (sameB x y)) ∧ Below W.heap.size W W' := by
  intro f
  induction f with
  | zero => intro x y vx vy W hd; cases x; simp [dep] at hd
  | succ f ih =>
    intro x y vx vy W hd hx hy
    obtain ⟨k, n, s, l⟩ := x
    obtain ⟨k', n', s', l'⟩ := y
    simp only [ItV] at hx hy
    obtain ⟨p, cap, rfl, hc, hm, hs, _, _, hl⟩ := hx
    obtain ⟨p', cap', rfl, hc', hm', hs', _, _, hl'⟩ := hy
    by_cases hA : (k != k') = true ∨ (k != k') = false ∧ (n != n') = true ∨ (k != k') = false ∧ (n != n') = false ∧ (s == s') = false ∨ (k != k') = false ∧ (n != n') = false ∧ (s == s') = true ∧ ((l.length : Int) != (l'.length : Int)) = true
    · have e : sameB (.mk k n s l) (.mk k' n' s' l') = false := by
        cases h : sameB (.mk k n s l) (.mk k' n' s' l') with
        | false => rfl
        | true =>
          have := (sameB_iff _ _).1 h
          simp only [Itm.mk.injEq] at this
          obtain ⟨rfl, rfl, rfl, rfl⟩ := this
          simp at hA
      rw [e]
      exact same_no k n k' n' s s' l.length l'.length p p' cap cap' W hA
    · have hk : k = k' := by
        refine Classical.byContradiction fun h => hA (.inl (by simpa using h))
      subst hk
      have hn : n = n' := by
        refine Classical.byContradiction fun h => hA (.inr (.inl ⟨by simp, by simpa using h⟩))
      subst hn
      have hss : s = s' := by
        refine Classical.byContradiction fun h => hA (.inr (.inr (.inl ⟨by simp, by simp, by simpa using h⟩)))
      subst hss
      have hll : l.length = l'.length := by
        refine Classical.byContradiction fun h => hA (.inr (.inr (.inr ⟨by simp, by simp, by simp, by simp; omega⟩)))
      have e : sameB (.mk k n s l) (.mk k n s l') = sameBs l l' := by simp [sameB]
      rw [e]
      rw [← hll]
      simp only [dep] at hd
      exact same_yes ok ok' f ih k n s l l' l.length rfl hll.symm (Nat.le_trans hc hm) (by omega) p p' cap cap' W hl hl'

set_option maxRecDepth 100000 in
set_option maxHeartbeats 1000000 in
theorem rsame_no (k n k' n' : Int) (s s' : List UInt8) (m m' : Nat) (p p' : Option Addr) (cap cap' : Nat) (w : World)
    (h : (k != k') = true ∨ (k != k') = false ∧ (n != n') = true ∨ (k != k') = false ∧ (n != n') = false ∧ (s == s') = false ∨ (k != k') = false ∧ (n != n') = false ∧ (s == s') = true ∧ ((m : Int) != (m' : Int)) = true) :
    Calls Tryz.prog 15 #[.agg #[.int .i64 k, .int .i64 n, .string ⟨s.toArray⟩, .slice p m cap], .agg #[.int .i64 k', .int .i64 n', .string ⟨s'.toArray⟩, .slice p' m' cap']] w fun e w' => e = .returned (.bool false) ∧ Below w.heap.size w w' := by
  rcases h with h1 | ⟨h1, h2⟩ | ⟨h1, h2, h3⟩ | ⟨h1, h2, h3, h4⟩
  all_goals
    go_enter Tryz.func15, Tryz.ntmps15
    go_wp2_with fail
    go_ret
    exact ⟨rfl, ((Below.refl _ _).alloc (Nat.le_refl _) _).alloc (by simp) _⟩

set_option maxRecDepth 100000 in
set_option maxHeartbeats 4000000 in
theorem rsame_yes (ok ok' : Nat → Prop) (f : Nat) (ih : ∀ (x y : Itm) (vx vy : Value) (W : World), dep x ≤ f → ItV ok W x vx → ItV ok' W y vy → Calls Tryz.prog 15 #[vx, vy] W fun e W' => e = .returned (.bool (sameB x y)) ∧ Below W.heap.size W W')
    (k n : Int) (s : List UInt8) (l l' : List Itm) (m : Nat) (hm : l.length = m) (hm' : l'.length = m) (hmx : m ≤ maxLen) (hd : deps l ≤ f) (p p' : Option Addr) (cap cap' : Nat) (w : World) (h1 : ItsV ok w l p 0) (h2 : ItsV ok' w l' p' 0) :
    Calls Tryz.prog 15 #[.agg #[.int .i64 k, .int .i64 n, .string ⟨s.toArray⟩, .slice p m cap], .agg #[.int .i64 k, .int .i64 n, .string ⟨s.toArray⟩, .slice p' m cap']] w fun e w' => e = .returned (.bool (sameBs l l')) ∧ Below w.heap.size w w' := by
  unfold maxLen at hmx
  have H1 := Lib.hid h1
  have H2 := Lib.hid h2
  have HI := Lib.hid ih
  have HL := Lib.hid hm
  have HL' := Lib.hid hm'
  have HD := Lib.hid hd
  clear h1 h2 ih hm hm' hd
  go_enter Tryz.func15, Tryz.ntmps15
  go_wp2_with fail
  have hB0 : Below w.heap.size w ((w.alloc (.cells #[.int .i64 k, .int .i64 n, .string ⟨s.toArray⟩, .slice p m cap] 26)).alloc (.cells #[.int .i64 k, .int .i64 n, .string ⟨s.toArray⟩, .slice p' m cap'] 26)) := ((Below.refl _ _).alloc (Nat.le_refl _) _).alloc (by simp) _
  have a3 : ((w.alloc (.cells #[.int .i64 k, .int .i64 n, .string ⟨s.toArray⟩, .slice p m cap] 26)).alloc (.cells #[.int .i64 k, .int .i64 n, .string ⟨s.toArray⟩, .slice p' m cap'] 26)).cell? ⟨w.heap.size, 3, none⟩ = some (.slice p m cap) := by go_simp
  have b3 : ((w.alloc (.cells #[.int .i64 k, .int .i64 n, .string ⟨s.toArray⟩, .slice p m cap] 26)).alloc (.cells #[.int .i64 k, .int .i64 n, .string ⟨s.toArray⟩, .slice p' m cap'] 26)).cell? ⟨w.heap.size + 1, 3, none⟩ = some (.slice p' m cap') := by go_simp
  generalize ((w.alloc (.cells #[.int .i64 k, .int .i64 n, .string ⟨s.toArray⟩, .slice p m cap] 26)).alloc (.cells #[.int .i64 k, .int .i64 n, .string ⟨s.toArray⟩, .slice p' m cap'] 26)) = w0 at *
  have A3 := Lib.hid a3
  have B3 := Lib.hid b3
  have HB0 := Lib.hid hB0
  clear a3 b3 hB0
  go_loopw [5] (fun i wr => ∃ j : Nat, j ≤ m ∧ i = .int .i64 (j : Int) ∧ l.take j = l'.take j ∧ Below w0.heap.size w0 wr) (fun i _ => m - (intOf i).toNat)
  case atStart => exact ⟨0, Nat.zero_le _, rfl, rfl, Below.refl _ _⟩
  case round =>
    obtain ⟨j, hj, rfl, hv, hB⟩ := hrel
    have HV := Lib.hid hv
    clear hv
    have HB := Lib.hid hB
    have a3 := (hB.cell (World.block_lt_of_cell? _ _ A3.out)).trans A3.out
    have b3 := (hB.cell (World.block_lt_of_cell? _ _ B3.out)).trans B3.out
    by_cases hlt : j < m
    · obtain ⟨x, hx⟩ : ∃ x, l[j]? = some x := ⟨_, List.getElem?_eq_getElem (by have := HL.out; omega)⟩
      obtain ⟨y, hy⟩ : ∃ y, l'[j]? = some y := ⟨_, List.getElem?_eq_getElem (by have := HL'.out; omega)⟩
      obtain ⟨a, c0, c1, c2, c3, rfl, _, e0, e1, e2, e3, hvx⟩ := ItsV.reads l j x ((H1.out.below HB0.out).below hB) hx
      obtain ⟨b, d0, d1, d2, d3, rfl, _, g0, g1, g2, g3, hvy⟩ := ItsV.reads l' j y ((H2.out.below HB0.out).below hB) hy
      have HX := Lib.hid hx
      have HY := Lib.hid hy
      have HVX := Lib.hid hvx
      have HVY := Lib.hid hvy
      clear hx hy hvx hvy hB
      have HDX := Lib.hid (show dep x ≤ f from Nat.le_trans (dep_mem (List.mem_of_getElem? HX.out)) HD.out)
      go_wp2_with fail
      go_region_held3 (fun w' => w'.cell? ⟨w.heap.size, 3, none⟩ = some (.slice (some a) m cap) ∧ w'.cell? ⟨w.heap.size + 1, 3, none⟩ = some (.slice (some b) m cap') ∧ w'.cell? (a.add (j * 4)) = some c0 ∧ w'.cell? ⟨(a.add (j * 4)).block, (a.add (j * 4)).off + 1, none⟩ = some c1 ∧ w'.cell? ⟨(a.add (j * 4)).block, (a.add (j * 4)).off + 2, none⟩ = some c2 ∧ w'.cell? ⟨(a.add (j * 4)).block, (a.add (j * 4)).off + 3, none⟩ = some c3 ∧ w'.cell? (b.add (j * 4)) = some d0 ∧ w'.cell? ⟨(b.add (j * 4)).block, (b.add (j * 4)).off + 1, none⟩ = some d1 ∧ w'.cell? ⟨(b.add (j * 4)).block, (b.add (j * 4)).off + 2, none⟩ = some d2 ∧ w'.cell? ⟨(b.add (j * 4)).block, (b.add (j * 4)).off + 3, none⟩ = some d3)
        (first
          | exact ⟨a3, b3, e0, e1, e2, e3, g0, g1, g2, g3⟩
          | exact ⟨(hb1.cell (World.block_lt_of_cell? _ _ a3)).trans (by simpa using a3), (hb1.cell (World.block_lt_of_cell? _ _ b3)).trans (by simpa using b3), (hb1.cell (World.block_lt_of_cell? _ _ e0)).trans (by simpa using e0), (hb1.cell (World.block_lt_of_cell? _ _ e1)).trans (by simpa using e1), (hb1.cell (World.block_lt_of_cell? _ _ e2)).trans (by simpa using e2), (hb1.cell (World.block_lt_of_cell? _ _ e3)).trans (by simpa using e3), (hb1.cell (World.block_lt_of_cell? _ _ g0)).trans (by simpa using g0), (hb1.cell (World.block_lt_of_cell? _ _ g1)).trans (by simpa using g1), (hb1.cell (World.block_lt_of_cell? _ _ g2)).trans (by simpa using g2), (hb1.cell (World.block_lt_of_cell? _ _ g3)).trans (by simpa using g3)⟩
          | go_keep)
        (first
          | (go_at_call 15; refine (HI.out x y _ _ _ HDX.out (HVX.out.drew) (HVY.out.drew)).mono ?_; rintro e w1 ⟨rfl, hb1⟩))
      have hb2 : Below wr.heap.size wr w1 := (Below.refl wr.heap.size wr).drew.trans (hb1.mono (by simp))
      have HB2 := Lib.hid (HB.out.trans (hb2.mono HB.out.size))
      clear hb1 hb2 a3 b3 e0 e1 e2 e3 g0 g1 g2 g3
      cases hsb : sameB x y with
      | false =>
        have HR := Lib.hid (show sameBs l l' = false by
          cases h : sameBs l l' with
          | false => rfl
          | true =>
            have e := (sameBs_iff l l').1 h
            have ex := HX.out
            rw [e, HY.out] at ex
            have : y = x := by simpa using ex
            rw [this, sameB_self] at hsb
            cases hsb)
        go_wp2_with fail
        go_ret
        exact ⟨by rw [HR.out]; rfl, HB0.out.trans (HB2.out.mono HB0.out.size)⟩
      | true =>
        have HR := Lib.hid (show l.take (j + 1) = l'.take (j + 1) by
          have e := (sameB_iff x y).1 hsb
          rw [List.take_add_one, List.take_add_one, HX.out, HY.out, HV.out, e])
        go_wp2_with fail
        go_roundw
        case rel => exact ⟨j + 1, by omega, by go_num, HR.out, HB2.out⟩
        case measure => simp [intOf]; omega
    · obtain rfl : j = m := by omega
      have HR := Lib.hid (show sameBs l l' = true by
        have e := HV.out
        rw [List.take_of_length_le (by rw [HL.out]; exact Nat.le_refl _), List.take_of_length_le (by rw [HL'.out]; exact Nat.le_refl _)] at e
        exact (sameBs_iff l l').2 e)
      go_wp2_with fail
      go_ret
      exact ⟨by rw [HR.out]; rfl, HB0.out.trans (HB.out.mono HB0.out.size)⟩

theorem rsame_any (ok ok' : Nat → Prop) : ∀ (f : Nat) (x y : Itm) (vx vy : Value) (W : World), dep x ≤ f → ItV ok W x vx → ItV ok' W y vy → Calls Tryz.prog 15 #[vx, vy] W fun e W' => e = .returned (.bool (sameB x y)) ∧ Below W.heap.size W W' := by
  intro f
  induction f with
  | zero => intro x y vx vy W hd; cases x; simp [dep] at hd
  | succ f ih =>
    intro x y vx vy W hd hx hy
    obtain ⟨k, n, s, l⟩ := x
    obtain ⟨k', n', s', l'⟩ := y
    simp only [ItV] at hx hy
    obtain ⟨p, cap, rfl, hc, hm, hs, _, _, hl⟩ := hx
    obtain ⟨p', cap', rfl, hc', hm', hs', _, _, hl'⟩ := hy
    by_cases hA : (k != k') = true ∨ (k != k') = false ∧ (n != n') = true ∨ (k != k') = false ∧ (n != n') = false ∧ (s == s') = false ∨ (k != k') = false ∧ (n != n') = false ∧ (s == s') = true ∧ ((l.length : Int) != (l'.length : Int)) = true
    · have e : sameB (.mk k n s l) (.mk k' n' s' l') = false := by
        cases h : sameB (.mk k n s l) (.mk k' n' s' l') with
        | false => rfl
        | true =>
          have := (sameB_iff _ _).1 h
          simp only [Itm.mk.injEq] at this
          obtain ⟨rfl, rfl, rfl, rfl⟩ := this
          simp at hA
      rw [e]
      exact rsame_no k n k' n' s s' l.length l'.length p p' cap cap' W hA
    · have hk : k = k' := by
        refine Classical.byContradiction fun h => hA (.inl (by simpa using h))
      subst hk
      have hn : n = n' := by
        refine Classical.byContradiction fun h => hA (.inr (.inl ⟨by simp, by simpa using h⟩))
      subst hn
      have hss : s = s' := by
        refine Classical.byContradiction fun h => hA (.inr (.inr (.inl ⟨by simp, by simp, by simpa using h⟩)))
      subst hss
      have hll : l.length = l'.length := by
        refine Classical.byContradiction fun h => hA (.inr (.inr (.inr ⟨by simp, by simp, by simp, by simp; omega⟩)))
      have e : sameB (.mk k n s l) (.mk k n s l') = sameBs l l' := by simp [sameB]
      rw [e]
      rw [← hll]
      simp only [dep] at hd
      exact rsame_yes ok ok' f ih k n s l l' l.length rfl hll.symm (Nat.le_trans hc hm) (by omega) p p' cap cap' W hl hl'
end Go.Proofs.YtmbmolgkccjedaaGreatDoor
