/- Contract of the document's count and Right: how many items there are in an item, or 61; is it right. -/
import Derived.Test.YtmbmolgkccjedaaGreatDoorM14
import Derived.Test.YtmbmolgkccjedaaGreatDoorM13
import Derived.Test.YtmbmolgkccjedaaGreatDoorM4
set_option linter.unusedVariables false
set_option linter.unusedSimpArgs false
namespace Go.Proofs.YtmbmolgkccjedaaGreatDoor
open Go.RowKit

set_option maxRecDepth 100000 in
set_option maxHeartbeats 1000000 in
theorem rcount_deep (c0 c1 c2 c3 : Value) (w : World) :
    Calls Tryz.prog 85 #[.agg #[c0, c1, c2, c3], .int .i64 7] w fun e w' => e = .returned (.int .i64 61) ∧ Below w.heap.size w w' := by
  go_enter Tryz.func85, Tryz.ntmps85
  go_wp2_with fail
  go_ret
  exact ⟨rfl, (Below.refl _ _).alloc (Nat.le_refl _) _⟩

theorem lenP (l : List Itm) : decide (0 < l.length) = !l.isEmpty := by cases l <;> simp
theorem bytes_ne (s : List UInt8) (h : s.isEmpty = false) : ∃ b r, s = b :: r := by cases s with | nil => cases h | cons b r => exact ⟨b, r, rfl⟩

set_option maxRecDepth 100000 in
set_option maxHeartbeats 1000000 in
theorem rcount_bad0 (n : Int) (s : List UInt8) (l : List Itm) (p : Option Addr) (cap d : Nat) (w : World) (hd : d ≤ 6)
    (h : rightB n = false ∨ rightB n = true ∧ s.isEmpty = false ∨ rightB n = true ∧ s = [] ∧ decide (0 < l.length) = true) :
    Calls Tryz.prog 85 #[.agg #[.int .i64 0, .int .i64 n, .string ⟨s.toArray⟩, .slice p l.length cap], .int .i64 (d : Int)] w fun e w' => e = .returned (.int .i64 61) ∧ Below w.heap.size w w' := by
  rcases h with h | ⟨h, h2⟩ | ⟨h, rfl, h3⟩
  all_goals
    go_enter Tryz.func85, Tryz.ntmps85
    go_wp2_with (go_at_call 110; refine (refRight_any _ _).mono ?_; rintro e w' ⟨rfl, rfl⟩)
    go_ret
    exact ⟨rfl, (Below.refl _ _).alloc (Nat.le_refl _) _⟩

set_option maxRecDepth 100000 in
set_option maxHeartbeats 1000000 in
theorem rcount_bad2 (n : Int) (s : List UInt8) (l : List Itm) (p : Option Addr) (cap d : Nat) (w : World) (hd : d ≤ 6)
    (h : (n != 0) = true ∨ n = 0 ∧ decide (600 < (s.length : Int)) = true ∨ n = 0 ∧ decide (600 < (s.length : Int)) = false ∧ decide (0 < l.length) = true) :
    Calls Tryz.prog 85 #[.agg #[.int .i64 2, .int .i64 n, .string ⟨s.toArray⟩, .slice p l.length cap], .int .i64 (d : Int)] w fun e w' => e = .returned (.int .i64 61) ∧ Below w.heap.size w w' := by
  rcases h with h | ⟨rfl, h2⟩ | ⟨rfl, h2, h3⟩
  all_goals
    go_enter Tryz.func85, Tryz.ntmps85
    go_wp2_with fail
    go_ret
    exact ⟨rfl, (Below.refl _ _).alloc (Nat.le_refl _) _⟩

set_option maxRecDepth 100000 in
set_option maxHeartbeats 1000000 in
theorem rcount_bad3 (n : Int) (s : List UInt8) (l : List Itm) (p : Option Addr) (cap d : Nat) (w : World) (hd : d ≤ 6) (hs : s.length ≤ maxLen)
    (h : (n != 0) = true ∨ n = 0 ∧ decide (600 < (s.length : Int)) = true ∨ n = 0 ∧ decide (600 < (s.length : Int)) = false ∧ decide (0 < l.length) = true ∨ n = 0 ∧ decide (600 < (s.length : Int)) = false ∧ decide (0 < l.length) = false ∧ txtB s = false) :
    Calls Tryz.prog 85 #[.agg #[.int .i64 3, .int .i64 n, .string ⟨s.toArray⟩, .slice p l.length cap], .int .i64 (d : Int)] w fun e w' => e = .returned (.int .i64 61) ∧ Below w.heap.size w w' := by
  have HS := Lib.hid hs
  clear hs
  rcases h with h | ⟨rfl, h2⟩ | ⟨rfl, h2, h3⟩ | ⟨rfl, h2, h3, h4⟩
  all_goals
    go_enter Tryz.func85, Tryz.ntmps85
    go_wp2_with (go_at_call 91; refine (refText_any _ _ (size_list HS.out)).mono ?_; rintro e w' ⟨rfl, rfl⟩)
    go_ret
    exact ⟨rfl, (Below.refl _ _).alloc (Nat.le_refl _) _⟩

set_option maxRecDepth 100000 in
set_option maxHeartbeats 1000000 in
theorem rcount_bad4 (n : Int) (s : List UInt8) (l : List Itm) (p : Option Addr) (cap d : Nat) (w : World) (hd : d ≤ 6)
    (h : (n != 0) = true ∨ n = 0 ∧ s.isEmpty = false) :
    Calls Tryz.prog 85 #[.agg #[.int .i64 4, .int .i64 n, .string ⟨s.toArray⟩, .slice p l.length cap], .int .i64 (d : Int)] w fun e w' => e = .returned (.int .i64 61) ∧ Below w.heap.size w w' := by
  rcases h with h | ⟨rfl, h2⟩
  all_goals
    go_enter Tryz.func85, Tryz.ntmps85
    go_wp2_with fail
    go_ret
    exact ⟨rfl, (Below.refl _ _).alloc (Nat.le_refl _) _⟩

set_option maxRecDepth 100000 in
set_option maxHeartbeats 1000000 in
theorem rcount_badX (k n : Int) (s : List UInt8) (l : List Itm) (p : Option Addr) (cap d : Nat) (w : World) (hd : d ≤ 6) (h0 : (k == 0) = false) (h2 : (k == 2) = false) (h3 : (k == 3) = false) (h4 : (k == 4) = false) :
    Calls Tryz.prog 85 #[.agg #[.int .i64 k, .int .i64 n, .string ⟨s.toArray⟩, .slice p l.length cap], .int .i64 (d : Int)] w fun e w' => e = .returned (.int .i64 61) ∧ Below w.heap.size w w' := by
  go_enter Tryz.func85, Tryz.ntmps85
  go_wp2_with fail
  go_ret
  exact ⟨rfl, (Below.refl _ _).alloc (Nat.le_refl _) _⟩

theorem rcount_bad (k n : Int) (s : List UInt8) (l : List Itm) (p : Option Addr) (cap d : Nat) (w : World) (hd : d ≤ 6) (hs : s.length ≤ maxLen) (h : ownB k n s l = false) :
    Calls Tryz.prog 85 #[.agg #[.int .i64 k, .int .i64 n, .string ⟨s.toArray⟩, .slice p l.length cap], .int .i64 (d : Int)] w fun e w' => e = .returned (.int .i64 61) ∧ Below w.heap.size w w' := by
  have e6 : decide (600 < (s.length : Int)) = !decide ((s.length : Int) ≤ 600) := by
    cases h : decide ((s.length : Int) ≤ 600) <;> simp at h ⊢ <;> omega
  cases h0 : (k == 0)
  case true =>
    obtain rfl : k = 0 := by simpa using h0
    rw [own0] at h
    refine rcount_bad0 n s l p cap d w hd ?_
    rw [lenP]
    cases h1 : rightB n <;> cases h2 : s.isEmpty <;> cases h3 : l.isEmpty <;> simp_all
  cases h2 : (k == 2)
  case true =>
    obtain rfl : k = 2 := by simpa using h2
    rw [own2] at h
    refine rcount_bad2 n s l p cap d w hd ?_
    rw [lenP, e6]
    by_cases hn : n = 0
    · cases h2 : decide ((s.length : Int) ≤ 600) <;> cases h3 : l.isEmpty <;> simp_all
    · exact .inl (by simpa using hn)
  cases h3 : (k == 3)
  case true =>
    obtain rfl : k = 3 := by simpa using h3
    rw [own3] at h
    refine rcount_bad3 n s l p cap d w hd hs ?_
    rw [lenP, e6]
    by_cases hn : n = 0
    · cases h2 : decide ((s.length : Int) ≤ 600) <;> cases h3 : l.isEmpty <;> cases h4 : txtB s <;> simp_all
    · exact .inl (by simpa using hn)
  cases h4 : (k == 4)
  case true =>
    obtain rfl : k = 4 := by simpa using h4
    rw [own4] at h
    refine rcount_bad4 n s l p cap d w hd ?_
    by_cases hn : n = 0
    · cases h2 : s.isEmpty <;> simp_all
    · exact .inl (by simpa using hn)
  exact rcount_badX k n s l p cap d w hd h0 h2 h3 h4

set_option maxRecDepth 100000 in
set_option maxHeartbeats 1000000 in
theorem rcount_leaf (k n : Int) (s : List UInt8) (p : Option Addr) (cap d : Nat) (w : World) (hd : d ≤ 6) (hs : s.length ≤ maxLen)
    (h : k = 0 ∧ rightB n = true ∧ s = [] ∨ k = 2 ∧ n = 0 ∧ decide (600 < (s.length : Int)) = false ∨ k = 3 ∧ n = 0 ∧ decide (600 < (s.length : Int)) = false ∧ txtB s = true) :
    Calls Tryz.prog 85 #[.agg #[.int .i64 k, .int .i64 n, .string ⟨s.toArray⟩, .slice p 0 cap], .int .i64 (d : Int)] w fun e w' => e = .returned (.int .i64 1) ∧ Below w.heap.size w w' := by
  have HS := Lib.hid hs
  clear hs
  rcases h with ⟨rfl, h2, rfl⟩ | ⟨rfl, rfl, h2⟩ | ⟨rfl, rfl, h2, h3⟩
  all_goals
    go_enter Tryz.func85, Tryz.ntmps85
    go_wp2_with (first
      | (go_at_call 110; refine (refRight_any _ _).mono ?_; rintro e w' ⟨rfl, rfl⟩)
      | (go_at_call 91; refine (refText_any _ _ (size_list HS.out)).mono ?_; rintro e w' ⟨rfl, rfl⟩))
    refine wp_loop_rounds 1 ?_
    rw [rounds_succ]
    go_wp2_with fail
    go_ret
    exact ⟨rfl, (Below.refl _ _).alloc (Nat.le_refl _) _⟩

set_option maxRecDepth 100000 in
set_option maxHeartbeats 2000000 in
theorem rcount_list (ok : Nat → Prop) (f : Nat) (l : List Itm) (m : Nat) (hm : l.length = m) (hmx : m ≤ maxLen) (p : Option Addr) (cap d : Nat) (w : World) (hd : d + f = 6) (h1 : ItsV ok w l p 0)
    (ih : ∀ (x : Itm) (v : Value) (W : World), ItV ok W x v → Calls Tryz.prog 85 #[v, .int .i64 ((d + 1 : Nat) : Int)] W fun e W' => e = .returned (.int .i64 ((cr f x : Nat) : Int)) ∧ Below W.heap.size W W') :
    Calls Tryz.prog 85 #[.agg #[.int .i64 4, .int .i64 0, .string ⟨#[]⟩, .slice p m cap], .int .i64 (d : Int)] w fun e w' => e = .returned (.int .i64 ((min (crs (cr f) 1 l) 61 : Nat) : Int)) ∧ Below w.heap.size w w' := by
  unfold maxLen at hmx
  have H1 := Lib.hid h1
  have HI := Lib.hid ih
  have HL := Lib.hid hm
  have hd6 : d ≤ 6 := by omega
  clear h1 ih hm hd
  go_enter Tryz.func85, Tryz.ntmps85
  go_wp2_with fail
  have hB0 : Below w.heap.size w (w.alloc (.cells #[.int .i64 4, .int .i64 0, .string ⟨#[]⟩, .slice p m cap] 26)) := (Below.refl _ _).alloc (Nat.le_refl _) _
  have a3 : (w.alloc (.cells #[.int .i64 4, .int .i64 0, .string ⟨#[]⟩, .slice p m cap] 26)).cell? ⟨w.heap.size, 3, none⟩ = some (.slice p m cap) := by go_simp
  generalize (w.alloc (.cells #[.int .i64 4, .int .i64 0, .string ⟨#[]⟩, .slice p m cap] 26)) = w0 at *
  have A3 := Lib.hid a3
  have HB0 := Lib.hid hB0
  clear a3 hB0
  go_loopw [5, 6] (fun n i wr => ∃ j c : Nat, j ≤ m ∧ i = .int .i64 (j : Int) ∧ n = .int .i64 (c : Int) ∧ c ≤ 121 ∧ crs (cr f) 1 l = crs (cr f) c (l.drop j) ∧ Below w0.heap.size w0 wr) (fun _ i _ => m - (intOf i).toNat)
  case atStart => exact ⟨0, 1, Nat.zero_le _, rfl, rfl, by omega, rfl, Below.refl _ _⟩
  case round =>
    obtain ⟨j, c, hj, rfl, rfl, hc, hv, hB⟩ := hrel
    have HV := Lib.hid hv
    clear hv
    have HB := Lib.hid hB
    have a3 := (hB.cell (World.block_lt_of_cell? _ _ A3.out)).trans A3.out
    by_cases hlt : j < m
    · obtain ⟨x, hx⟩ : ∃ x, l[j]? = some x := ⟨_, List.getElem?_eq_getElem (by have := HL.out; omega)⟩
      have hdr : l.drop j = x :: l.drop (j + 1) := by
        have hjl : j < l.length := by have := HL.out; omega
        rw [List.drop_eq_getElem_cons hjl]
        congr 1
        rw [List.getElem?_eq_getElem hjl] at hx
        simpa using hx
      by_cases h60 : c ≤ 60
      · obtain ⟨a, c0, c1, c2, c3, rfl, _, e0, e1, e2, e3, hvx⟩ := ItsV.reads l j x ((H1.out.below HB0.out).below hB) hx
        have HVX := Lib.hid hvx
        have hcr := (cr_iff f x).2.2.1
        have HS := Lib.hid (show crs (cr f) 1 l = crs (cr f) (c + cr f x) (l.drop (j + 1)) by rw [HV.out, hdr, crs, if_pos h60])
        clear hx hvx hB hdr
        go_wp2_with fail
        refine (HI.out x _ _ HVX.out).mono ?_
        rintro e w1 ⟨rfl, hb1⟩
        have HB2 := Lib.hid (HB.out.trans (hb1.mono HB.out.size))
        clear hb1 a3 e0 e1 e2 e3
        generalize cr f x = y at *
        go_wp2_with fail
        go_roundw
        case rel => exact ⟨j + 1, c + y, by omega, by go_num, by go_num, by omega, HS.out, HB2.out⟩
        case measure => simp [intOf]; omega
      · have HR := Lib.hid (show min (crs (cr f) 1 l) 61 = 61 by rw [HV.out, hdr, crs, if_neg h60]; omega)
        clear hx hdr
        go_wp2_with fail
        all_goals
          go_ret
          refine ⟨?_, HB0.out.trans (HB.out.mono HB0.out.size)⟩
          refine congrArg (fun q : Int => Ending.returned (.int .i64 q)) ?_
          rw [HR.out]
          omega
    · obtain rfl : j = m := by omega
      have HR := Lib.hid (show crs (cr f) 1 l = c by rw [HV.out, List.drop_of_length_le (by rw [HL.out]; exact Nat.le_refl _), crs])
      go_wp2_with fail
      all_goals
        go_ret
        refine ⟨?_, HB0.out.trans (HB.out.mono HB0.out.size)⟩
        refine congrArg (fun q : Int => Ending.returned (.int .i64 q)) ?_
        rw [HR.out]
        omega

theorem rcount_any (ok : Nat → Prop) : ∀ (f : Nat) (x : Itm) (v : Value) (W : World) (d : Nat), d + f = 7 → ItV ok W x v → Calls Tryz.prog 85 #[v, .int .i64 (d : Int)] W fun e W' => e = .returned (.int .i64 ((cr f x : Nat) : Int)) ∧ Below W.heap.size W W' := by
  intro f
  induction f with
  | zero =>
    intro x v W d hd hx
    obtain rfl : d = 7 := by omega
    obtain ⟨k, n, s, l⟩ := x
    simp only [ItV] at hx
    obtain ⟨p, cap, rfl, _⟩ := hx
    exact rcount_deep _ _ _ _ W
  | succ f ih =>
    intro x v W d hd hx
    obtain ⟨k, n, s, l⟩ := x
    simp only [ItV] at hx
    obtain ⟨p, cap, rfl, hc, hm, hs, _, _, hl⟩ := hx
    cases ho : ownB k n s l with
    | false =>
      rw [show cr (f + 1) (.mk k n s l) = 61 by rw [cr, if_neg (by rw [ho]; decide)]]
      exact rcount_bad k n s l p cap d W (by omega) hs ho
    | true =>
      rw [show cr (f + 1) (.mk k n s l) = min (crs (cr f) 1 l) 61 by rw [cr, if_pos ho]]
      rcases ownB_cases ho with ⟨N, rfl, rfl, hN, rfl, rfl⟩ | ⟨rfl, rfl, hs6, rfl⟩ | ⟨rfl, rfl, hs6, rfl, ht⟩ | ⟨rfl, rfl, rfl⟩
      · exact rcount_leaf 0 N [] p cap d W (by omega) hs (.inl ⟨rfl, rightB_yes hN, rfl⟩)
      · exact rcount_leaf 2 0 s p cap d W (by omega) hs (.inr (.inl ⟨rfl, rfl, by simp; omega⟩))
      · exact rcount_leaf 3 0 s p cap d W (by omega) hs (.inr (.inr ⟨rfl, rfl, by simp; omega, ht⟩))
      · exact rcount_list ok f l l.length rfl (Nat.le_trans hc hm) p cap d W (by omega) hl (fun x v W hv => ih x v W (d + 1) (by omega) hv)

set_option maxHeartbeats 400000 in
theorem rright_any (ok : Nat → Prop) (x : Itm) (v : Value) (w : World) (hx : ItV ok w x v) :
    Calls Tryz.prog 53 #[v] w fun e w' => e = .returned (.bool (rightI x)) ∧ Below w.heap.size w w' := by
  have hv := hx
  obtain ⟨k, n, s, l⟩ := x
  simp only [ItV] at hx
  obtain ⟨p, cap, rfl, _⟩ := hx
  have hx2 := hv.below ((Below.refl _ _).alloc (Nat.le_refl _) (.cells #[.int .i64 k, .int .i64 n, .string ⟨s.toArray⟩, .slice p l.length cap] 26))
  rw [rightI_cr]
  have HC := Lib.hid (rcount_any ok 6 _ _ _ 1 rfl hx2)
  have HV := Lib.hid hv
  clear hv hx2
  generalize cr 6 (.mk k n s l) = c at *
  go_enter Tryz.func53, Tryz.ntmps53
  go_wp2_with fail
  refine HC.out.mono ?_
  rintro e w1 ⟨rfl, hb1⟩
  have hB := Lib.hid (((Below.refl w.heap.size w).alloc (Nat.le_refl _) (.cells #[.int .i64 k, .int .i64 n, .string ⟨s.toArray⟩, .slice p l.length cap] 26)).trans (hb1.mono (by simp)))
  clear hb1
  go_wp2_with fail
  go_ret
  refine ⟨?_, hB.out⟩
  refine congrArg (fun q : Bool => Ending.returned (.bool q)) ?_
  rw [decide_eq_decide]
  omega
end Go.Proofs.YtmbmolgkccjedaaGreatDoor

/- Contracts of the document's bytes and Encode: those of a right item; ErrItem of any other. -/
set_option linter.unusedVariables false
set_option linter.unusedSimpArgs false
namespace Go.Proofs.YtmbmolgkccjedaaGreatDoor
open Go.RowKit

theorem encIs_append (a b : List Itm) : encIs (a ++ b) = encIs a ++ encIs b := by
  induction a with
  | nil => rfl
  | cons x r ih => simp only [List.cons_append, encIs, ih, List.append_assoc]
theorem cnts_append (a b : List Itm) : cnts (a ++ b) = cnts a + cnts b := by
  induction a with
  | nil => simp [cnts]
  | cons x r ih => simp only [List.cons_append, cnts, ih]; omega
theorem okIs_mem {x : Itm} : ∀ {l : List Itm}, x ∈ l → okIs l = true → okI x = true
  | y :: r, h, ho => by
    simp only [okIs, Bool.and_eq_true] at ho
    rcases List.mem_cons.1 h with rfl | h
    · exact ho.1
    · exact okIs_mem h ho.2
theorem cnt_mem {x : Itm} : ∀ {l : List Itm}, x ∈ l → cnt x ≤ cnts l
  | y :: r, h => by
    simp only [cnts]
    rcases List.mem_cons.1 h with rfl | h
    · omega
    · have := cnt_mem h; omega
theorem own_len {k n : Int} {s : List UInt8} {l : List Itm} (h : ownB k n s l = true) : s.length ≤ 600 := by
  rcases ownB_cases h with ⟨N, rfl, rfl, hN, rfl, rfl⟩ | ⟨rfl, rfl, hs6, rfl⟩ | ⟨rfl, rfl, hs6, rfl, ht⟩ | ⟨rfl, rfl, rfl⟩
  · exact Nat.zero_le _
  · exact hs6
  · exact hs6
  · exact Nat.zero_le _
mutual
theorem enc_len : ∀ (x : Itm), okI x = true → (encI x).length ≤ 609 * cnt x
  | .mk k n s l, h => by
    simp only [okI, Bool.and_eq_true] at h
    have h1 := encs_len l h.2
    have h2 := own_len h.1
    have h3 := headL_length k.toNat (argN k n s l)
    have h4 := wid_le (argN k n s l)
    simp only [encI, cnt, List.length_append]
    omega
theorem encs_len : ∀ (l : List Itm), okIs l = true → (encIs l).length ≤ 609 * cnts l
  | [], _ => by simp [encIs]
  | x :: r, h => by
    simp only [okIs, Bool.and_eq_true] at h
    have h1 := enc_len x h.1
    have h2 := encs_len r h.2
    simp only [encIs, cnts, List.length_append]
    omega
end
theorem okIs_take {l : List Itm} (h : okIs l = true) (j : Nat) : okIs (l.take j) = true := by
  induction l generalizing j with
  | nil => simpa using h
  | cons x r ih =>
    simp only [okIs, Bool.and_eq_true] at h
    cases j with
    | zero => rfl
    | succ j => simp only [List.take_succ_cons, okIs, Bool.and_eq_true]; exact ⟨h.1, ih h.2 j⟩
theorem cnts_take (l : List Itm) (j : Nat) : cnts (l.take j) ≤ cnts l := by
  have := cnts_append (l.take j) (l.drop j)
  rw [List.take_append_drop] at this
  omega
theorem ba_nil (h : ByteArray) : h ++ ⟨#[]⟩ = h := by
  apply ByteArray.ext
  apply Array.toList_inj.1
  simp
theorem ba_append (a b : List UInt8) : (⟨a.toArray⟩ : ByteArray) ++ ⟨b.toArray⟩ = ⟨(a ++ b).toArray⟩ := by
  apply ByteArray.ext
  apply Array.toList_inj.1
  simp

set_option maxRecDepth 100000 in
set_option maxHeartbeats 1000000 in
theorem rbytes_leaf (k n : Int) (s : List UInt8) (N : Nat) (h : ByteArray) (p : Option Addr) (cap : Nat) (w : World) (hk : k = 0 ∧ n = N ∨ k = 2 ∧ N = s.length ∨ k = 3 ∧ N = s.length) (hs : s.length ≤ 600) (hh : hencR k N = (h, 0)) (hhl : h.size ≤ 9) :
    Calls Tryz.prog 54 #[.agg #[.int .i64 k, .int .i64 n, .string ⟨s.toArray⟩, .slice p 0 cap]] w fun e w' => e = .returned (.string (h ++ ⟨s.toArray⟩)) ∧ Below w.heap.size w w' := by
  have HH := Lib.hid hh
  clear hh
  rcases hk with ⟨rfl, rfl⟩ | ⟨rfl, rfl⟩ | ⟨rfl, rfl⟩
  all_goals
    go_enter Tryz.func54, Tryz.ntmps54
    go_wp2_with fail
    refine (rencode_any _ _ _).mono ?_
    rintro e w1 ⟨rfl, hb1⟩
    rw [HH.out]
    obtain ⟨hc, hf⟩ := bcell hb1
    have a2 : w1.cell? ⟨w.heap.size, 2, none⟩ = some (.string ⟨s.toArray⟩) := (hc w.heap.size 2 (by simp)).trans (by go_simp)
    have a3 : w1.cell? ⟨w.heap.size, 3, none⟩ = some (.slice p 0 cap) := (hc w.heap.size 3 (by simp)).trans (by go_simp)
    have hB := Lib.hid (((Below.refl w.heap.size w).alloc (Nat.le_refl _) _).trans (hb1.mono (by simp)))
    clear hb1 hc hf
    go_wp2_with fail
    refine wp_loop_rounds 1 ?_
    rw [rounds_succ]
    go_wp2_with fail
    go_ret
    exact ⟨by simp, hB.out⟩

set_option maxRecDepth 100000 in
set_option maxHeartbeats 2000000 in
theorem rbytes_list (ok : Nat → Prop) (l : List Itm) (m : Nat) (hm : l.length = m) (hmx : m ≤ 60) (hok : okIs l = true) (hcn : cnts l ≤ 60) (h : ByteArray) (p : Option Addr) (cap : Nat) (w : World) (h1 : ItsV ok w l p 0) (hh : hencR 4 m = (h, 0)) (hhl : h.size ≤ 9)
    (ih : ∀ (x : Itm) (v : Value) (W : World), x ∈ l → ItV ok W x v → Calls Tryz.prog 54 #[v] W fun e W' => e = .returned (.string ⟨(encI x).toArray⟩) ∧ Below W.heap.size W W') :
    Calls Tryz.prog 54 #[.agg #[.int .i64 4, .int .i64 0, .string ⟨#[]⟩, .slice p m cap]] w fun e w' => e = .returned (.string (h ++ ⟨(encIs l).toArray⟩)) ∧ Below w.heap.size w w' := by
  have HH := Lib.hid hh
  have H1 := Lib.hid h1
  have HI := Lib.hid ih
  have HL := Lib.hid hm
  have HO := Lib.hid hok
  clear hh h1 ih hm hok
  go_enter Tryz.func54, Tryz.ntmps54
  go_wp2_with fail
  refine (rencode_any _ _ _).mono ?_
  rintro e w0 ⟨rfl, hb1⟩
  rw [HH.out]
  obtain ⟨hc, hf⟩ := bcell hb1
  have a2 : w0.cell? ⟨w.heap.size, 2, none⟩ = some (.string ⟨#[]⟩) := (hc w.heap.size 2 (by simp)).trans (by go_simp)
  have a3 : w0.cell? ⟨w.heap.size, 3, none⟩ = some (.slice p m cap) := (hc w.heap.size 3 (by simp)).trans (by go_simp)
  have HB0 := Lib.hid (((Below.refl w.heap.size w).alloc (Nat.le_refl _) (.cells #[.int .i64 4, .int .i64 0, .string ⟨#[]⟩, .slice p m cap] 26)).trans (hb1.mono (by simp)))
  clear hb1 hc hf
  go_wp2_with fail
  have A3 := Lib.hid a3
  clear a3 a2
  go_loopw [4, 6] (fun t i wr => ∃ (j : Nat) (q : ByteArray), j ≤ m ∧ i = .int .i64 (j : Int) ∧ t = .string q ∧ q = h ++ ⟨(encIs (l.take j)).toArray⟩ ∧ Below w0.heap.size w0 wr) (fun _ i _ => m - (intOf i).toNat)
  case atStart => exact ⟨0, h, Nat.zero_le _, rfl, by rw [ba_nil], (ba_nil h).symm, Below.refl _ _⟩
  case round =>
    obtain ⟨j, q, hj, rfl, rfl, hq, hB⟩ := hrel
    have HB := Lib.hid hB
    have a3 := (hB.cell (World.block_lt_of_cell? _ _ A3.out)).trans A3.out
    by_cases hlt : j < m
    · obtain ⟨x, hx⟩ : ∃ x, l[j]? = some x := ⟨_, List.getElem?_eq_getElem (by have := HL.out; omega)⟩
      obtain ⟨a, c0, c1, c2, c3, rfl, _, e0, e1, e2, e3, hvx⟩ := ItsV.reads l j x ((H1.out.below HB0.out).below hB) hx
      have HVX := Lib.hid hvx
      have hmem := List.mem_of_getElem? hx
      have hxl : (encI x).length ≤ 36540 := by
        have := enc_len x (okIs_mem hmem HO.out)
        have := cnt_mem hmem
        omega
      have hql : q.size ≤ 36549 := by
        have h1 := encs_len (l.take j) (okIs_take HO.out j)
        have h2 := cnts_take l j
        rw [hq, ByteArray.size_append]
        have h3 : (⟨(encIs (l.take j)).toArray⟩ : ByteArray).size = (encIs (l.take j)).length := by simp [ByteArray.size]
        omega
      have HQ := Lib.hid (show q ++ ⟨(encI x).toArray⟩ = h ++ ⟨(encIs (l.take (j + 1))).toArray⟩ by
        have e1 : encIs (some x).toList = encI x := by simp [encIs]
        rw [hq, List.take_add_one, hx, encIs_append, e1, ByteArray.append_assoc, ba_append (encIs (l.take j)) (encI x)])
      have HM := Lib.hid hmem
      clear hx hvx hB hq hmem
      go_wp2_with fail
      refine (HI.out x _ _ HM.out HVX.out).mono ?_
      rintro e w1 ⟨rfl, hb1⟩
      have HB2 := Lib.hid (HB.out.trans (hb1.mono HB.out.size))
      clear hb1 a3 e0 e1 e2 e3
      generalize encI x = y at *
      go_wp2_with fail
      go_roundw
      case rel => exact ⟨j + 1, _, by omega, by go_num, rfl, HQ.out, HB2.out⟩
      case measure => simp [intOf]; omega
    · obtain rfl : j = m := by omega
      have HR := Lib.hid (show q = h ++ ⟨(encIs l).toArray⟩ by rw [hq, List.take_of_length_le (by rw [HL.out]; exact Nat.le_refl _)])
      clear hq
      go_wp2_with fail
      go_ret
      exact ⟨by rw [← HR.out]; rfl, HB0.out.trans (HB.out.mono HB0.out.size)⟩

theorem rbytes_any (ok : Nat → Prop) : ∀ (f : Nat) (x : Itm) (v : Value) (W : World), dep x ≤ f → okI x = true → cnt x ≤ 60 → ItV ok W x v → Calls Tryz.prog 54 #[v] W fun e W' => e = .returned (.string ⟨(encI x).toArray⟩) ∧ Below W.heap.size W W' := by
  intro f
  induction f with
  | zero => intro x v W hd; cases x; simp [dep] at hd
  | succ f ih =>
    intro x v W hd ho hcn hx
    obtain ⟨k, n, s, l⟩ := x
    simp only [ItV] at hx
    obtain ⟨p, cap, rfl, hc, hm, hs, _, _, hl⟩ := hx
    simp only [okI, Bool.and_eq_true] at ho
    simp only [cnt] at hcn
    simp only [dep] at hd
    rcases ownB_cases ho.1 with ⟨N, rfl, rfl, hN, rfl, rfl⟩ | ⟨rfl, rfl, hs6, rfl⟩ | ⟨rfl, rfl, hs6, rfl, ht⟩ | ⟨rfl, rfl, rfl⟩
    · have e : encI (.mk 0 N [] []) = headL 0 N ++ [] := by simp [encI, encIs, argN]
      rw [e, ← ba_append]
      exact rbytes_leaf 0 N [] N _ p cap W (.inl ⟨rfl, rfl⟩) (Nat.zero_le _) (hencR_of (M := 0) (by decide) hN) (by rw [head_size, headL_length]; have := wid_le N; omega)
    · have e : encI (.mk 2 0 s []) = headL 2 s.length ++ s := by simp [encI, encIs, argN]
      rw [e, ← ba_append]
      exact rbytes_leaf 2 0 s s.length _ p cap W (.inr (.inl ⟨rfl, rfl⟩)) hs6 (hencR_of (M := 2) (by decide) (by omega)) (by rw [head_size, headL_length]; have := wid_le s.length; omega)
    · have e : encI (.mk 3 0 s []) = headL 3 s.length ++ s := by simp [encI, encIs, argN]
      rw [e, ← ba_append]
      exact rbytes_leaf 3 0 s s.length _ p cap W (.inr (.inr ⟨rfl, rfl⟩)) hs6 (hencR_of (M := 3) (by decide) (by omega)) (by rw [head_size, headL_length]; have := wid_le s.length; omega)
    · have e : encI (.mk 4 0 [] l) = headL 4 l.length ++ encIs l := by simp [encI, argN]
      have := cnts_length l
      rw [e, ← ba_append]
      exact rbytes_list ok l l.length rfl (by omega) ho.2 (by omega) _ p cap W hl (hencR_of (M := 4) (by decide) (by omega)) (by rw [head_size, headL_length]; have := wid_le l.length; omega)
        (fun x v W hx hv => ih x v W (by have := dep_mem hx; omega) (okIs_mem hx ho.2) (by have := cnt_mem hx; omega) hv)

/-- What Encode answers: the bytes, and the error's number. -/
def iencB (x : Itm) : ByteArray × Int := if rightI x = true then (⟨(encI x).toArray⟩, 0) else (⟨#[]⟩, 40)
theorem iencB_ok {x : Itm} (h : rightI x = true) : iencB x = (⟨(encI x).toArray⟩, 0) := if_pos h
theorem iencB_bad {x : Itm} (h : rightI x = false) : iencB x = (⟨#[]⟩, 40) := if_neg (by rw [h]; decide)

set_option maxHeartbeats 1000000 in
theorem rencI_any (ok : Nat → Prop) (x : Itm) (v : Value) (w : World) (hx : ItV ok w x v) :
    Calls Tryz.prog 36 #[v] w fun e w' => e = .returned (.tuple #[.string (iencB x).1, .int .i64 (iencB x).2]) ∧ Below w.heap.size w w' := by
  have hv := hx
  obtain ⟨k, n, s, l⟩ := x
  simp only [ItV] at hx
  obtain ⟨p, cap, rfl, _⟩ := hx
  have hB1 := (Below.refl w.heap.size w).alloc (Nat.le_refl _) (.cells #[.int .i64 k, .int .i64 n, .string ⟨s.toArray⟩, .slice p l.length cap] 26)
  have hx2 := hv.below hB1
  have HR := Lib.hid (rright_any ok _ _ _ hx2)
  cases hr : rightI (.mk k n s l) with
  | false =>
    rw [iencB_bad hr]
    rw [hr] at HR
    clear hx2 hv hr
    go_enter Tryz.func36, Tryz.ntmps36
    go_wp2_with fail
    refine HR.out.mono ?_
    rintro e w1 ⟨rfl, hb1⟩
    have hB := Lib.hid (hB1.trans (hb1.mono (by simp)))
    clear hb1
    go_wp2_with fail
    go_ret2
    exact ⟨rfl, hB.out⟩
  | true =>
    rw [iencB_ok hr]
    rw [hr] at HR
    obtain ⟨r1, r2, r3⟩ := (rightI_iff _).1 hr
    have HBy := Lib.hid (fun W h => rbytes_any ok 6 (.mk k n s l) (.agg #[.int .i64 k, .int .i64 n, .string ⟨s.toArray⟩, .slice p l.length cap]) W r2 r1 r3 h)
    have HX := Lib.hid hx2
    clear hx2 hv hr r1 r2 r3
    generalize encI (.mk k n s l) = y at *
    go_enter Tryz.func36, Tryz.ntmps36
    go_wp2_with fail
    refine HR.out.mono ?_
    rintro e w1 ⟨rfl, hb1⟩
    have hB := Lib.hid (hB1.trans (hb1.mono (by simp)))
    obtain ⟨hc, hf⟩ := bcell hb1
    have a0 : w1.cell? ⟨w.heap.size, 0, none⟩ = some (.int .i64 k) := (hc w.heap.size 0 (by simp)).trans (by go_simp)
    have a1 : w1.cell? ⟨w.heap.size, 1, none⟩ = some (.int .i64 n) := (hc w.heap.size 1 (by simp)).trans (by go_simp)
    have a2 : w1.cell? ⟨w.heap.size, 2, none⟩ = some (.string ⟨s.toArray⟩) := (hc w.heap.size 2 (by simp)).trans (by go_simp)
    have a3 : w1.cell? ⟨w.heap.size, 3, none⟩ = some (.slice p l.length cap) := (hc w.heap.size 3 (by simp)).trans (by go_simp)
    have HX1 := Lib.hid (HX.out.below hb1)
    clear hb1 hc hf
    go_wp2_with fail
    refine (HBy.out _ HX1.out).mono ?_
    rintro e w2 ⟨rfl, hb2⟩
    have hB2 := Lib.hid (hB.out.trans (hb2.mono hB.out.size))
    clear hb2 a0 a1 a2 a3
    go_wp2_with fail
    go_ret2
    exact ⟨rfl, hB2.out⟩
end Go.Proofs.YtmbmolgkccjedaaGreatDoor

/- Contracts of walk and within of package item: all items in items, each ahead of what is in it, with how deep it stands, as an iterator. -/
set_option linter.unusedVariables false
set_option linter.unusedSimpArgs false
namespace Go.Proofs.YtmbmolgkccjedaaGreatDoor
open Go.RowKit Go.Shelf

attribute [local go_sem] Oper.semAt_some

theorem room_none (k : Nat) : Fence.wide.room k := fun d h => by cases h
theorem roundAny {m m' : Nat} {P : Program} {l : Nat} {f : FuncId} {tmps : Array Value} {assign body : Code} {w : World} {R : Ending → World → Prop}
    (h : RoundIn Fence.wide m P l f tmps assign body w R) : RoundIn Fence.wide m' P l f tmps assign body w R := ⟨h.1, fun c cs _ => h.2 c cs (room_none _)⟩
theorem yieldAny {m : Nat} (m' : Nat) {P : Program} {l : Nat} {args : Array Value} {W : World} {R : Ending → World → Prop} (h : YieldAt Fence.wide m P l args W R) : YieldAt Fence.wide m' P l args W R := by
  obtain ⟨fn, tmps, assign, body, hy, hR⟩ := h
  exact ⟨fn, tmps, assign, body, hy, roundAny hR⟩

/-- What is gone through: how deep it stands, the item, its value. -/
structure Yl (PY : Itm → Prop) (ok : Nat → Prop) (w0 : World) where
  d : Nat
  x : Itm
  v : Value
  h : ItV ok w0 x v
  q : PY x
def Yl.key {PY : Itm → Prop} {ok : Nat → Prop} {w0 : World} (y : Yl PY ok w0) : Nat × Itm := (y.d, y.x)

mutual
/-- An item, and all in it, each ahead of what is in it, with how deep it stands. -/
def flat (d : Nat) : Itm → List (Nat × Itm)
  | .mk k n s l => (d, .mk k n s l) :: flats (d + 1) l
def flats (d : Nat) : List Itm → List (Nat × Itm)
  | [] => []
  | x :: r => flat d x ++ flats d r
end
mutual
theorem flat_length : ∀ (d : Nat) (x : Itm), (flat d x).length = cnt x
  | d, .mk k n s l => by simp only [flat, List.length_cons, flats_length (d + 1) l, cnt]
theorem flats_length : ∀ (d : Nat) (l : List Itm), (flats d l).length = cnts l
  | _, [] => rfl
  | d, x :: r => by simp only [flats, List.length_append, flat_length d x, flats_length d r, cnts]
end
theorem flats_append (d : Nat) (a b : List Itm) : flats d (a ++ b) = flats d a ++ flats d b := by
  induction a with
  | nil => rfl
  | cons x r ih => simp only [List.cons_append, flats, ih, List.append_assoc]

/-- The cells of blocks that are ok stay. -/
def KeepOk (ok : Nat → Prop) (W W' : World) : Prop := W.heap.size ≤ W'.heap.size ∧ ∀ (a : Addr) (u : Value), ok a.block → W.cell? a = some u → W'.cell? a = some u
theorem KeepOk.refl (ok : Nat → Prop) (W : World) : KeepOk ok W W := ⟨Nat.le_refl _, fun _ _ _ h => h⟩
theorem KeepOk.trans {ok : Nat → Prop} {A B C : World} (h : KeepOk ok A B) (k : KeepOk ok B C) : KeepOk ok A C := ⟨Nat.le_trans h.1 k.1, fun a u ho e => k.2 a u ho (h.2 a u ho e)⟩
theorem KeepOk.below {ok : Nat → Prop} {A B : World} (h : Below A.heap.size A B) : KeepOk ok A B := ⟨h.size, fun a u _ e => (h.cell (World.block_lt_of_cell? _ _ e)).trans e⟩
theorem KeepOk.alloc {ok : Nat → Prop} (A : World) (o : Obj) : KeepOk ok A (A.alloc o) := KeepOk.below ((Below.refl _ _).alloc (Nat.le_refl _) _)
theorem KeepOk.grown {ok : Nat → Prop} {A B : World} {row : Option Nat} (hg : A.grownBy B row) (hr : ∀ r, row = some r → (∃ o : Obj, A.heap[r]? = some o ∧ o.isCells = false) ) : KeepOk ok A B := ⟨hg.size, fun a u _ e => cell_kept e hg hr⟩
theorem keepOk_b {ok : Nat → Prop} {w : World} (W : World) (l : Nat) (o o' : Obj) (_ : w.heap.size ≤ l) (h : W.heap[l]? = some o) (hc : o.isCells = false) (_ : o.isWalk = false) : KeepOk ok W (W.putObj l o') :=
  KeepOk.grown (grownBy_putObj' _ l o') (fun r e => by cases e; exact ⟨_, h, hc⟩)
theorem KeepOk.item {ok : Nat → Prop} {A B : World} (h : KeepOk ok A B) {x : Itm} {v : Value} (hx : ItV ok A x v) : ItV ok B x v := ItV.keep (fun a u ho e => ⟨h.2 a u ho e, ho⟩) x v hx
theorem KeepOk.items {ok : Nat → Prop} {A B : World} (h : KeepOk ok A B) {l : List Itm} {p : Option Addr} {i : Nat} (hx : ItsV ok A l p i) : ItsV ok B l p i := ItsV.keep (fun a u ho e => ⟨h.2 a u ho e, ho⟩) l p i hx

/-- What walk answers. -/
def WalkR (PY : Itm → Prop) (ok : Nat → Prop) (w0 : World) (Kp : World → World → Prop) (J Jx : List (Yl PY ok w0) → World → Prop) (d : Nat) (xs : List Itm) (pre : List (Yl PY ok w0)) (W : World) (e : Ending) (W' : World) : Prop :=
  (e = .returned (.bool true) ∧ ∃ ys, ys.map Yl.key = flats d xs ∧ J (pre ++ ys) W' ∧ Kp W W') ∨ (e = .returned (.bool false) ∧ ∃ ys, ys.map Yl.key <+: flats d xs ∧ Jx (pre ++ ys) W')

set_option maxRecDepth 100000 in
set_option maxHeartbeats 4000000 in
theorem walkAny (l N : Nat) (PY : Itm → Prop) (hPY : ∀ (k n : Int) (s : List UInt8) (l : List Itm), PY (.mk k n s l) → ∀ x ∈ l, PY x) (ok : Nat → Prop) (w0 : World) (Kp : World → World → Prop) (hKr : ∀ W, Kp W W) (hKt : ∀ {A B C : World}, Kp A B → Kp B C → Kp A C) (hKa : ∀ W o, Kp w0 W → Kp W (W.alloc o)) (hK1 : ∀ W, Kp w0 W → ∀ (a : Addr) (u : Value), ok a.block → w0.cell? a = some u → W.cell? a = some u)
    (hK2 : ∀ W (cs : Array Value) W', Kp w0 W → Kp (W.alloc (.cells cs 26)) W' → ∀ (i : Nat) (u : Value), cs[i]? = some u → W'.cell? ⟨W.heap.size, i, none⟩ = some u) (J Jx : List (Yl PY ok w0) → World → Prop)
    (hJ : ∀ pre W o, J pre W → J pre (W.alloc o))
    (hY : ∀ m pre (y : Yl PY ok w0) W, J pre W → pre.length < N → YieldAt Fence.wide m Tryz.prog l #[.int .i64 (y.d : Int), y.v] W fun e W' =>
      (e = .returned (.bool true) ∧ J (pre ++ [y]) W' ∧ Kp W W') ∨ (e = .returned (.bool false) ∧ Jx (pre ++ [y]) W')) :
    ∀ (f n : Nat) (p : Option Addr) (cap : Nat) (pre : List (Yl PY ok w0)) (W : World) (d : Nat) (xs : List Itm) (m : Nat), xs.length = m → deps xs ≤ f → d + f ≤ 1000 → m ≤ maxLen → ItsV ok w0 xs p 0 → (∀ x ∈ xs, PY x) → Kp w0 W → J pre W → pre.length + cnts xs ≤ N →
      CallsIn Fence.wide n Tryz.prog 72 #[.func (.yield l) #[] #[], .int .i64 (d : Int), .slice p m cap] W (WalkR PY ok w0 Kp J Jx d xs pre W) := by
  intro f
  induction f using Nat.strongRecOn with
  | _ f ih =>
  intro n p cap pre W d xs m hm hf hdf hmx hI hPx hK h0 hN
  unfold maxLen at hmx
  have HI := Lib.hid hI
  have HK := Lib.hid hK
  have HL := Lib.hid hm
  have HF := Lib.hid hf
  have HN := Lib.hid hN
  have IH := Lib.hid ih
  clear hI hK hm hf hN ih
  refine callsIn_of_wp Tryz.func72 rfl trivial ?_ rfl
  simp only [Tryz.ntmps72, List.size_toArray, List.length_cons, List.length_nil, Nat.reduceAdd, Nat.reduceSub, Array.replicate_succ, Array.replicate_zero, List.push_toArray, List.append_toArray, List.nil_append, List.cons_append]
  gi_wp2
  gi_loopw [11] (fun i wr => ∃ (k : Nat) (ys : List (Yl PY ok w0)), k ≤ m ∧ i = .int .i64 (k : Int) ∧ ys.map Yl.key = flats d (xs.take k) ∧ J (pre ++ ys) wr ∧ Kp W wr) (fun i _ => m - (intOf i).toNat)
  case atStart => exact ⟨0, [], Nat.zero_le _, rfl, by simp [flats], by simpa using h0, hKr _⟩
  case round =>
    obtain ⟨k, ys, hk, rfl, hys, hJs, hkw⟩ := hrel
    have HYS := Lib.hid hys
    have HKW := Lib.hid hkw
    clear hys hkw
    by_cases hlt : k < m
    · obtain ⟨x, hx⟩ : ∃ x, xs[k]? = some x := ⟨_, List.getElem?_eq_getElem (by have := HL.out; omega)⟩
      obtain ⟨a, c0, c1, c2, c3, rfl, _, e0, e1, e2, e3, hvx⟩ := ItsV.reads xs k x (HI.out) hx
      obtain ⟨kk, nn, ss, ll⟩ := x
      have hvx' := hvx
      simp only [ItV] at hvx'
      obtain ⟨q, qc, hq, hqc, hqm, hsl, _, _, hll⟩ := hvx'
      simp only [Value.agg.injEq, Array.mk.injEq, List.cons.injEq, and_true] at hq
      obtain ⟨rfl, rfl, rfl, rfl⟩ := hq
      have hxl := Lib.hid hx
      have hmem := List.mem_of_getElem? hx
      have hd1 : dep (.mk kk nn ss ll) ≤ f := Nat.le_trans (dep_mem hmem) HF.out
      simp only [dep] at hd1
      have hcn : cnts (xs.take k) + cnt (.mk kk nn ss ll) ≤ cnts xs := by
        have h1 := cnts_append (xs.take (k + 1)) (xs.drop (k + 1))
        rw [List.take_append_drop, List.take_add_one, hx, cnts_append] at h1
        have : cnts (some (Itm.mk kk nn ss ll)).toList = cnt (.mk kk nn ss ll) := by simp [cnts]
        omega
      have hyl : ys.length = cnts (xs.take k) := by
        have := congrArg List.length HYS.out
        rw [List.length_map, flats_length] at this
        exact this
      have hcx : cnt (.mk kk nn ss ll) = cnts ll + 1 := by simp only [cnt]
      have hNN := HN.out
      have K := hKt HK.out HKW.out
      have k0 := hK1 _ K _ _ (by rw [add_block]; assumption) e0
      have k1 := hK1 _ K _ _ (by show ok (a.add (k * 4)).block; rw [add_block]; assumption) e1
      have k2 := hK1 _ K _ _ (by show ok (a.add (k * 4)).block; rw [add_block]; assumption) e2
      have k3 := hK1 _ K _ _ (by show ok (a.add (k * 4)).block; rw [add_block]; assumption) e3
      clear e0 e1 e2 e3
      obtain ⟨y, hyd⟩ : ∃ y : Yl PY ok w0, y = ⟨d, .mk kk nn ss ll, _, hvx, hPx _ hmem⟩ := ⟨_, rfl⟩
      have hyv : y.v = .agg #[.int .i64 kk, .int .i64 nn, .string ⟨ss.toArray⟩, .slice q ll.length qc] := by rw [hyd]
      have hyd' : y.d = d := by rw [hyd]
      have hyk := Lib.hid (show y.key = (d, .mk kk nn ss ll) by rw [hyd]; rfl)
      have hYY := hY (n - 1) (pre ++ ys) y (wr.alloc (.cells #[.int .i64 kk, .int .i64 nn, .string ⟨ss.toArray⟩, .slice q ll.length qc] 26)) (hJ _ _ _ hJs) (by rw [List.length_append]; omega)
      rw [hyv, hyd'] at hYY
      obtain ⟨fn, tmps, assign, body, hy, hR⟩ := hYY
      have HR := Lib.hid hR
      have HLL := Lib.hid hll
      have HPL := Lib.hid (hPY _ _ _ _ (hPx _ hmem))
      have HK1 := Lib.hid hK1
      have HK2 := Lib.hid hK2
      have HKA := Lib.hid hKa
      have HKT := Lib.hid (show ∀ A B C, Kp A B → Kp B C → Kp A C from fun A B C h k => hKt h k)
      have HJ := Lib.hid hJ
      have HY := Lib.hid hY
      have HJS := Lib.hid hJs
      have KK := Lib.hid K
      clear hR hll hK1 hK2 hKa hKt hKr hJ hY hJs hyd hyv hyd' hvx hx K
      gi_wp2
      refine ⟨fun h => (by cases h), ?_⟩
      refine HR.out.mono ?_
      clear HR k0 k1 k2 k3
      rintro e W3 (⟨rfl, hJ3, hk3⟩ | ⟨rfl, hJx3⟩)
      · have b3 : W3.cell? ⟨wr.heap.size, 3, none⟩ = some (.slice q ll.length qc) := HK2.out wr _ W3 KK.out hk3 3 _ rfl
        have K3 := Lib.hid (HKT.out _ _ _ (HKA.out _ _ KK.out) hk3)
        have HC := IH.out (f - 1) (by omega) (n - 1) q qc (pre ++ ys ++ [y]) W3 (d + 1) ll ll.length rfl (by omega) (by omega) (by omega) HLL.out (HPL.out) (HKT.out _ _ _ KK.out K3.out) hJ3 (by simp only [List.length_append, List.length_cons, List.length_nil]; omega)
        rw [show ((d + 1 : Nat) : Int) = (d : Int) + 1 by omega] at HC
        have HCC := Lib.hid HC
        clear HC hk3
        gi_wp2
        refine ⟨trivial, fun h => (by cases h), ?_⟩
        refine HCC.out.mono ?_
        clear HCC b3
        rintro e W4 (⟨rfl, ys2, hys2, hJ4, hk4⟩ | ⟨rfl, ys2, hys2, hJ4⟩)
        · have HR := Lib.hid (show (ys ++ [y] ++ ys2).map Yl.key = flats d (xs.take (k + 1)) by
            rw [List.take_add_one, hxl.out, flats_append, List.map_append, List.map_append, HYS.out, hys2, List.append_assoc]
            congr 1
            simp [flats, flat, hyk.out])
          have HJ4 := Lib.hid (show J (pre ++ (ys ++ [y] ++ ys2)) W4 by rw [← List.append_assoc, ← List.append_assoc]; exact hJ4)
          have HK4 := Lib.hid (HKT.out _ _ _ (HKT.out _ _ _ HKW.out K3.out) hk4)
          clear hys2 hJ4 hk4 hJ3
          gi_wp2
          go_roundw
          case rel => exact ⟨k + 1, _, by omega, by go_num, HR.out, HJ4.out, HK4.out⟩
          case measure => simp [intOf]; omega
        · have HR := Lib.hid (show (ys ++ [y] ++ ys2).map Yl.key <+: flats d xs by
            have e1 : flats d xs = flats d (xs.take (k + 1)) ++ flats d (xs.drop (k + 1)) := by rw [← flats_append, List.take_append_drop]
            obtain ⟨r, hr⟩ := hys2
            refine ⟨r ++ flats d (xs.drop (k + 1)), ?_⟩
            rw [e1, List.take_add_one, hxl.out, flats_append, List.map_append, List.map_append, HYS.out]
            simp [flats, flat, hyk.out, ← hr])
          have HJ4 := Lib.hid (show Jx (pre ++ (ys ++ [y] ++ ys2)) W4 by rw [← List.append_assoc, ← List.append_assoc]; exact hJ4)
          clear hys2 hJ4 hJ3
          gi_wp2
          go_ret
          exact .inr ⟨rfl, _, HR.out, HJ4.out⟩
      · gi_wp2
        refine ⟨trivial, ?_⟩
        have HR := Lib.hid (show (ys ++ [y]).map Yl.key <+: flats d xs by
          have e1 : flats d xs = flats d (xs.take (k + 1)) ++ flats d (xs.drop (k + 1)) := by rw [← flats_append, List.take_append_drop]
          refine ⟨flats (d + 1) ll ++ flats d (xs.drop (k + 1)), ?_⟩
          rw [e1, List.take_add_one, hxl.out, flats_append, List.map_append, HYS.out]
          simp [flats, flat, hyk.out])
        have HJ3 := Lib.hid (show Jx (pre ++ (ys ++ [y])) W3 by rw [← List.append_assoc]; exact hJx3)
        clear hJx3
        gi_wp2
        go_ret
        exact .inr ⟨rfl, _, HR.out, HJ3.out⟩
    · obtain rfl : k = m := by omega
      have HR := Lib.hid (show ys.map Yl.key = flats d xs by rw [HYS.out, List.take_of_length_le (by rw [HL.out]; exact Nat.le_refl _)])
      have HJS := Lib.hid hJs
      clear hJs
      gi_wp2
      go_ret
      exact .inl ⟨rfl, _, HR.out, HJS.out, HKW.out⟩

set_option maxHeartbeats 1000000 in
theorem within_in (n d m cap : Nat) (p : Option Addr) (w : World) :
    CallsIn Fence.wide n Tryz.prog 43 #[.int .i64 (d : Int), .slice p m cap] w fun e w' => e = .returned (.func (.func 71) #[] #[.pointer (some ⟨w.heap.size, 0, none⟩), .pointer (some ⟨w.heap.size + 1, 0, none⟩)]) ∧ w' = (w.alloc (.cells #[.int .i64 (d : Int)] 3)).alloc (.cells #[.slice p m cap] 24) := by
  refine callsIn_of_wp Tryz.func43 rfl trivial ?_ rfl
  simp only [Tryz.ntmps43, List.size_toArray, List.length_cons, List.length_nil, Nat.reduceAdd, Nat.reduceSub, Array.replicate_succ, Array.replicate_zero, List.push_toArray, List.append_toArray, List.nil_append, List.cons_append]
  gi_wp2
  go_ret
  exact ⟨rfl, rfl⟩

set_option maxHeartbeats 1000000 in
theorem within1_in (l n N : Nat) (PY : Itm → Prop) (hPY : ∀ (k n : Int) (s : List UInt8) (l : List Itm), PY (.mk k n s l) → ∀ x ∈ l, PY x) (ok : Nat → Prop) (w0 : World) (Kp : World → World → Prop) (hKr : ∀ W, Kp W W) (hKt : ∀ {A B C : World}, Kp A B → Kp B C → Kp A C) (hKa : ∀ W o, Kp w0 W → Kp W (W.alloc o)) (hK1 : ∀ W, Kp w0 W → ∀ (a : Addr) (u : Value), ok a.block → w0.cell? a = some u → W.cell? a = some u)
    (hK2 : ∀ W (cs : Array Value) W', Kp w0 W → Kp (W.alloc (.cells cs 26)) W' → ∀ (i : Nat) (u : Value), cs[i]? = some u → W'.cell? ⟨W.heap.size, i, none⟩ = some u) (J Jx : List (Yl PY ok w0) → World → Prop)
    (hJ : ∀ pre W o, J pre W → J pre (W.alloc o))
    (hY : ∀ pre (y : Yl PY ok w0) W, J pre W → pre.length < N → YieldAt Fence.wide (n - 1) Tryz.prog l #[.int .i64 (y.d : Int), y.v] W fun e W' =>
      (e = .returned (.bool true) ∧ J (pre ++ [y]) W' ∧ Kp W W') ∨ (e = .returned (.bool false) ∧ Jx (pre ++ [y]) W'))
    (f : Nat) (p : Option Addr) (cap : Nat) (W : World) (d : Nat) (xs : List Itm) (m : Nat) (hm : xs.length = m) (hf : deps xs ≤ f) (hdf : d + f ≤ 1000) (hmx : m ≤ maxLen) (hI : ItsV ok w0 xs p 0) (hPx : ∀ x ∈ xs, PY x) (hK : Kp w0 W) (h0 : J [] W) (hN : cnts xs ≤ N)
    (B1 B2 : Nat) (c1 : W.cell? ⟨B1, 0, none⟩ = some (.int .i64 (d : Int))) (c2 : W.cell? ⟨B2, 0, none⟩ = some (.slice p m cap)) :
    CallsIn Fence.wide n Tryz.prog 71 #[.func (.yield l) #[] #[], .pointer (some ⟨B1, 0, none⟩), .pointer (some ⟨B2, 0, none⟩)] W fun e W' => (∃ v, e = .returned v) ∧
      ((∃ ys : List (Yl PY ok w0), ys.map Yl.key = flats d xs ∧ J ys W') ∨ (∃ ys : List (Yl PY ok w0), ys.map Yl.key <+: flats d xs ∧ Jx ys W')) := by
  have HC := Lib.hid (walkAny l N PY hPY ok w0 Kp hKr hKt hKa hK1 hK2 J Jx hJ (fun m pre y W hj hl => yieldAny m (hY pre y W hj hl)) f (n - 1) p cap [] W d xs m hm hf hdf hmx hI hPx hK h0 (by simpa using hN))
  clear hY hJ hI h0 hPx
  refine callsIn_of_wp Tryz.func71 rfl trivial ?_ rfl
  simp only [Tryz.ntmps71, List.size_toArray, List.length_cons, List.length_nil, Nat.reduceAdd, Nat.reduceSub, Array.replicate_succ, Array.replicate_zero, List.push_toArray, List.append_toArray, List.nil_append, List.cons_append]
  gi_wp2
  refine ⟨trivial, fun h => (by cases h), ?_⟩
  refine HC.out.mono ?_
  rintro e W4 (⟨rfl, ys2, hys2, hJ4, hk4⟩ | ⟨rfl, ys2, hys2, hJ4⟩)
  · gi_wp2
    go_end0
    exact ⟨⟨_, rfl⟩, .inl ⟨_, hys2, by simpa using hJ4⟩⟩
  · gi_wp2
    go_end0
    exact ⟨⟨_, rfl⟩, .inr ⟨_, hys2, by simpa using hJ4⟩⟩

theorem KeepOk.box {ok : Nat → Prop} {w0 : World} (hfr : ∀ b, w0.heap.size ≤ b → ok b) (W : World) (cs : Array Value) (W' : World) (h : KeepOk ok w0 W) (h' : KeepOk ok (W.alloc (.cells cs 26)) W') (i : Nat) (u : Value) (hu : cs[i]? = some u) : W'.cell? ⟨W.heap.size, i, none⟩ = some u :=
  h'.2 ⟨W.heap.size, i, none⟩ u (hfr _ h.1) (by rw [World.cell?_alloc_at _ _ _ _ (by rfl)]; exact hu)

/-- All items in items, as an iterator that a round may stop. -/
theorem within_stops (n : Nat) (PY : Itm → Prop) (hPY : ∀ (k n : Int) (s : List UInt8) (l : List Itm), PY (.mk k n s l) → ∀ x ∈ l, PY x) (ok : Nat → Prop) (w : World) (Kp : World → World → Prop) (hKr : ∀ W, Kp W W) (hKt : ∀ {A B C : World}, Kp A B → Kp B C → Kp A C) (hKa : ∀ W o, Kp w W → Kp W (W.alloc o)) (hK1 : ∀ W, Kp w W → ∀ (a : Addr) (u : Value), ok a.block → w.cell? a = some u → W.cell? a = some u)
    (hK2 : ∀ W (cs : Array Value) W', Kp w W → Kp (W.alloc (.cells cs 26)) W' → ∀ (i : Nat) (u : Value), cs[i]? = some u → W'.cell? ⟨W.heap.size, i, none⟩ = some u)
    (hKb : ∀ W, Below w.heap.size w W → Kp w W) (f : Nat) (p : Option Addr) (cap d : Nat) (xs : List Itm) (m : Nat) (hm : xs.length = m) (hf : deps xs ≤ f) (hdf : d + f ≤ 1000) (hmx : m ≤ maxLen) (hI : ItsV ok w xs p 0) (hPx : ∀ x ∈ xs, PY x)
    (B1 B2 : Nat) (o1 : ok B1) (o2 : ok B2) (c1 : w.cell? ⟨B1, 0, none⟩ = some (.int .i64 (d : Int))) (c2 : w.cell? ⟨B2, 0, none⟩ = some (.slice p m cap)) :
    SeqStopsK Fence.wide n Tryz.prog 71 #[.pointer (some ⟨B1, 0, none⟩), .pointer (some ⟨B2, 0, none⟩)] (fun y : Yl PY ok w => #[Value.int .i64 (y.d : Int), y.v]) Kp (fun ys => ys.map Yl.key = flats d xs) (fun ys => ys.map Yl.key <+: flats d xs) (cnts xs) w := fun l J Jx W hW hJ _ hY h0 => by
  have hK : Kp w W := hKb W hW
  refine (within1_in l n (cnts xs) PY hPY ok w Kp hKr hKt hKa hK1 hK2 J Jx (fun pre W' o h => hJ _ _ _ none h (World.grownBy_alloc W' o none) (fun r e => by cases e)) hY f p cap W d xs m hm hf hdf hmx hI hPx hK h0 (Nat.le_refl _) B1 B2 (hK1 _ hK _ _ o1 c1) (hK1 _ hK _ _ o2 c2)).mono ?_
  rintro e W' ⟨he, ⟨ys, hk, hj⟩ | ⟨ys, hk, hj⟩⟩
  · exact ⟨he, .inl ⟨_, hk, hj⟩⟩
  · exact ⟨he, .inr ⟨_, hk, hj⟩⟩
end Go.Proofs.YtmbmolgkccjedaaGreatDoor
