/- Names' bytes, names of bytes (package eid7). -/
import Derived.Test.YtmbmolgkccjedaaGreatDoorJName
import Derived.Test.YtmbmolgkccjedaaGreatDoorM25
import Derived.Test.YtmbmolgkccjedaaGreatDoorM28
set_option linter.unusedVariables false
set_option linter.unusedSimpArgs false
namespace Go.Proofs.YtmbmolgkccjedaaGreatDoor
open Go.RowKit
attribute [local go_sem ↓] Go.wp_at_zero Go.wp_at_succ

/-- What Encode answers. -/
def encN (o : Nm) : ByteArray × Int := if nmR o = true then (⟨(encI (itmN o)).toArray⟩, 0) else (⟨#[]⟩, 60)
theorem encN_yes {o : Nm} (h : nmR o = true) : encN o = (⟨(encI (itmN o)).toArray⟩, 0) := if_pos h
theorem encN_no {o : Nm} (h : nmR o = false) : encN o = (⟨#[]⟩, 60) := if_neg (by rw [h]; decide)

set_option maxRecDepth 100000 in
set_option maxHeartbeats 2000000 in
theorem layBytes_any (k : Int) (nd sv : ByteArray) (a b : Int) (w : World) (hE : EnvN w) (hH : HeadOK w) (hA : EnvE w) (ha : I64 a) (hb9 : I64 b) :
    Calls Tryz.prog 35 #[.agg #[.int .i64 k, .string nd, .string sv, .int .i64 a, .int .i64 b]] w fun e w' => e = .returned (.tuple #[.string (encN (nmO k nd sv a b)).1, .int .i64 (encN (nmO k nd sv a b)).2]) ∧ Below w.heap.size w w' := by
  cases hr : nmR (nmO k nd sv a b) with
  | false =>
    rw [encN_no hr]
    have HLY := Lib.hid (show layI (nmO k nd sv a b) = (zerI, 60) by unfold layI; rw [hr]; rfl)
    clear hr
    have bN : Blk (w.alloc (.cells #[.int .i64 k, .string nd, .string sv, .int .i64 a, .int .i64 b] 23)) (w.heap.size) 23 #[.int .i64 k, .string nd, .string sv, .int .i64 a, .int .i64 b] := Blk.new w _ _
    have hb : Below w.heap.size w (w.alloc (.cells #[.int .i64 k, .string nd, .string sv, .int .i64 a, .int .i64 b] 23)) := ((Below.refl _ w).alloc (Nat.le_refl _) _)
    have hE0 := hE.below hb
    obtain ⟨cN0, cN1, cN2, cN3, cN4⟩ := bN.five
    have lN := bN.lt
    go_enter Tryz.func35, Tryz.ntmps35
    go_wp2_with fail
    generalize (w.alloc (.cells #[.int .i64 k, .string nd, .string sv, .int .i64 a, .int .i64 b] 23)) = w0 at *
    refine (jlay_any k nd sv a b w0 hE0 ha hb9).mono ?_
    rintro e w1 ⟨⟨k1, m1, s1, p1, l1, c1, rfl, hI⟩, hc1⟩
    have hb1 := hb.trans (hc1.mono hb.size)
    replace bN := bN.here hc1
    have hE1 := hE0.below hc1
    clear hE0
    rw [HLY.out] at hI ⊢
    clear hc1 hb
    clear cN0 cN1 cN2 cN3 cN4 lN
    have hc2 : Below w1.heap.size w1 (w1.alloc (.cells #[.int .i64 k1, .int .i64 m1, .string s1, .slice p1 l1 c1] 26)) := (Below.refl _ _).alloc (Nat.le_refl _) _
    have bO : Blk (w1.alloc (.cells #[.int .i64 k1, .int .i64 m1, .string s1, .slice p1 l1 c1] 26)) w1.heap.size 26 #[.int .i64 k1, .int .i64 m1, .string s1, .slice p1 l1 c1] := Blk.new _ _ _
    have hb2 := hb1.trans (hc2.mono hb1.size)
    replace bN := bN.here hc2
    have hE2 := hE1.below hc2
    clear hE1
    clear hc2 hb1
    go_wp2_with fail
    generalize (w1.alloc (.cells #[.int .i64 k1, .int .i64 m1, .string s1, .slice p1 l1 c1] 26)) = w2 at *
    go_ret2
    exact ⟨rfl, hb2⟩
  | true =>
    rw [encN_yes hr]
    have hie := iencB_ok (itm_right hr)
    have HIE := Lib.hid hie
    have HLY := Lib.hid (show layI (nmO k nd sv a b) = (itmN (nmO k nd sv a b), 0) by unfold layI; rw [hr]; rfl)
    clear hr hie
    generalize hoo : nmO k nd sv a b = o at *
    have bN : Blk (w.alloc (.cells #[.int .i64 k, .string nd, .string sv, .int .i64 a, .int .i64 b] 23)) (w.heap.size) 23 #[.int .i64 k, .string nd, .string sv, .int .i64 a, .int .i64 b] := Blk.new w _ _
    have hb : Below w.heap.size w (w.alloc (.cells #[.int .i64 k, .string nd, .string sv, .int .i64 a, .int .i64 b] 23)) := ((Below.refl _ w).alloc (Nat.le_refl _) _)
    have hE0 := hE.below hb
    have hH0 := hH.below hb
    have hA0 := hA.below hb
    obtain ⟨cN0, cN1, cN2, cN3, cN4⟩ := bN.five
    have lN := bN.lt
    go_enter Tryz.func35, Tryz.ntmps35
    go_wp2_with fail
    generalize (w.alloc (.cells #[.int .i64 k, .string nd, .string sv, .int .i64 a, .int .i64 b] 23)) = w0 at *
    refine (jlay_any k nd sv a b w0 hE0 ha hb9).mono ?_
    rintro e w1 ⟨⟨k1, m1, s1, p1, l1, c1, rfl, hI⟩, hc1⟩
    have hb1 := hb.trans (hc1.mono hb.size)
    replace bN := bN.here hc1
    have hE1 := hE0.below hc1
    clear hE0
    have hH1 := hH0.below hc1
    clear hH0
    have hA1 := hA0.below hc1
    clear hA0
    rw [hoo, HLY.out] at hI ⊢
    clear hc1 hb
    clear hoo
    clear cN0 cN1 cN2 cN3 cN4 lN
    have hc2 : Below w1.heap.size w1 (w1.alloc (.cells #[.int .i64 k1, .int .i64 m1, .string s1, .slice p1 l1 c1] 26)) := (Below.refl _ _).alloc (Nat.le_refl _) _
    have bO : Blk (w1.alloc (.cells #[.int .i64 k1, .int .i64 m1, .string s1, .slice p1 l1 c1] 26)) w1.heap.size 26 #[.int .i64 k1, .int .i64 m1, .string s1, .slice p1 l1 c1] := Blk.new _ _ _
    have hb2 := hb1.trans (hc2.mono hb1.size)
    replace bN := bN.here hc2
    have hE2 := hE1.below hc2
    clear hE1
    have hH2 := hH1.below hc2
    clear hH1
    have hA2 := hA1.below hc2
    clear hA1
    have hI2 := hI.below hc2
    clear hc2 hb1
    obtain ⟨cO0, cO1, cO2, cO3⟩ := bO.four
    have lO := bO.lt
    go_wp2_with fail
    generalize (w1.alloc (.cells #[.int .i64 k1, .int .i64 m1, .string s1, .slice p1 l1 c1] 26)) = w2 at *
    refine (iencode_any _ (itmN o) _ w2 hH2 hA2 hI2 (Nat.le_trans (itm_dep o) (by decide))).mono ?_
    rintro e w3 ⟨rfl, hc3⟩
    have hb3 := hb2.trans (hc3.mono hb2.size)
    replace bN := bN.here hc3
    replace bO := bO.here hc3
    have hE3 := hE2.below hc3
    clear hE2
    have hH3 := hH2.below hc3
    clear hH2
    have hA3 := hA2.below hc3
    clear hA2
    have hI3 := hI2.below hc3
    clear hI2
    clear hc3 hb2
    rw [HIE.out]
    go_wp2_with fail
    go_ret2
    exact ⟨rfl, hb3⟩

set_option maxRecDepth 100000 in
set_option maxHeartbeats 2000000 in
theorem Encode_any (k : Int) (nd sv : ByteArray) (a b : Int) (w : World) (hE : EnvN w) (hH : HeadOK w) (hA : EnvE w) (ha : I64 a) (hb9 : I64 b) :
    Calls Tryz.prog 17 #[.agg #[.int .i64 k, .string nd, .string sv, .int .i64 a, .int .i64 b]] w fun e w' => e = .returned (.tuple #[.string (encN (nmO k nd sv a b)).1, .int .i64 (encN (nmO k nd sv a b)).2]) ∧ Below w.heap.size w w' := by
  cases hr : nmR (nmO k nd sv a b) with
  | false =>
    have HEN := Lib.hid (encN_no hr)
    rw [HEN.out]
    clear hr
    have bN : Blk (w.alloc (.cells #[.int .i64 k, .string nd, .string sv, .int .i64 a, .int .i64 b] 23)) (w.heap.size) 23 #[.int .i64 k, .string nd, .string sv, .int .i64 a, .int .i64 b] := Blk.new w _ _
    have hb : Below w.heap.size w (w.alloc (.cells #[.int .i64 k, .string nd, .string sv, .int .i64 a, .int .i64 b] 23)) := ((Below.refl _ w).alloc (Nat.le_refl _) _)
    have hE0 := hE.below hb
    have hH0 := hH.below hb
    have hA0 := hA.below hb
    obtain ⟨cN0, cN1, cN2, cN3, cN4⟩ := bN.five
    have lN := bN.lt
    go_enter Tryz.func17, Tryz.ntmps17
    go_wp2_with fail
    generalize (w.alloc (.cells #[.int .i64 k, .string nd, .string sv, .int .i64 a, .int .i64 b] 23)) = w0 at *
    refine (layBytes_any k nd sv a b w0 hE0 hH0 hA0 ha hb9).mono ?_
    rintro e w1 ⟨rfl, hc1⟩
    have hb1 := hb.trans (hc1.mono hb.size)
    replace bN := bN.here hc1
    have hE1 := hE0.below hc1
    clear hE0
    have hH1 := hH0.below hc1
    clear hH0
    have hA1 := hA0.below hc1
    clear hA0
    clear hc1 hb
    rw [HEN.out]
    clear cN0 cN1 cN2 cN3 cN4 lN
    go_wp2_with fail
    refine (tellJ_bad _ 60 (by decide) w1).mono ?_
    rintro e w2 ⟨rfl, hc2⟩
    have hb2 := hb1.trans (hc2.mono hb1.size)
    replace bN := bN.here hc2
    have hE2 := hE1.below hc2
    clear hE1
    have hH2 := hH1.below hc2
    clear hH1
    have hA2 := hA1.below hc2
    clear hA1
    clear hc2 hb1
    go_wp2_with fail
    go_ret2
    exact ⟨rfl, hb2⟩
  | true =>
    have HEN := Lib.hid (encN_yes hr)
    rw [HEN.out]
    clear hr
    generalize (⟨(encI (itmN (nmO k nd sv a b))).toArray⟩ : ByteArray) = t at *
    have bN : Blk (w.alloc (.cells #[.int .i64 k, .string nd, .string sv, .int .i64 a, .int .i64 b] 23)) (w.heap.size) 23 #[.int .i64 k, .string nd, .string sv, .int .i64 a, .int .i64 b] := Blk.new w _ _
    have hb : Below w.heap.size w (w.alloc (.cells #[.int .i64 k, .string nd, .string sv, .int .i64 a, .int .i64 b] 23)) := ((Below.refl _ w).alloc (Nat.le_refl _) _)
    have hE0 := hE.below hb
    have hH0 := hH.below hb
    have hA0 := hA.below hb
    obtain ⟨cN0, cN1, cN2, cN3, cN4⟩ := bN.five
    have lN := bN.lt
    go_enter Tryz.func17, Tryz.ntmps17
    go_wp2_with fail
    generalize (w.alloc (.cells #[.int .i64 k, .string nd, .string sv, .int .i64 a, .int .i64 b] 23)) = w0 at *
    refine (layBytes_any k nd sv a b w0 hE0 hH0 hA0 ha hb9).mono ?_
    rintro e w1 ⟨rfl, hc1⟩
    have hb1 := hb.trans (hc1.mono hb.size)
    replace bN := bN.here hc1
    have hE1 := hE0.below hc1
    clear hE0
    have hH1 := hH0.below hc1
    clear hH0
    have hA1 := hA0.below hc1
    clear hA0
    clear hc1 hb
    rw [HEN.out]
    clear cN0 cN1 cN2 cN3 cN4 lN
    go_wp2_with fail
    refine (tellJ_ok _ w1).mono ?_
    rintro e w2 ⟨rfl, hc2⟩
    have hb2 := hb1.trans (hc2.mono hb1.size)
    replace bN := bN.here hc2
    have hE2 := hE1.below hc2
    clear hE1
    have hH2 := hH1.below hc2
    clear hH1
    have hA2 := hA1.below hc2
    clear hA1
    clear hc2 hb1
    go_wp2_with fail
    go_ret2
    exact ⟨rfl, hb2⟩

theorem Blk.six {w : World} {B : Nat} {t : TypeId} {x0 x1 x2 x3 x4 x5 : Value} (h : Blk w B t #[x0, x1, x2, x3, x4, x5]) : w.cell? ⟨B, 0, none⟩ = some x0 ∧ w.cell? ⟨B, 1, none⟩ = some x1 ∧ w.cell? ⟨B, 2, none⟩ = some x2 ∧ w.cell? ⟨B, 3, none⟩ = some x3 ∧ w.cell? ⟨B, 4, none⟩ = some x4 ∧ w.cell? ⟨B, 5, none⟩ = some x5 := ⟨h.cell 0, h.cell 1, h.cell 2, h.cell 3, h.cell 4, h.cell 5⟩
theorem Blk.set6 {W : World} {B : Nat} {t : TypeId} {x0 x1 x2 x3 x4 x5 : Value} (h : Blk W B t #[x0, x1, x2, x3, x4, x5]) (v0 v1 v2 v3 v4 v5 : Value) : Blk (((((((W).setCell ⟨B, 0, none⟩ v0).setCell ⟨B, 1, none⟩ v1).setCell ⟨B, 2, none⟩ v2).setCell ⟨B, 3, none⟩ v3).setCell ⟨B, 4, none⟩ v4).setCell ⟨B, 5, none⟩ v5) B t #[v0, v1, v2, v3, v4, v5] :=
  (((((h.set_ 0 v0).set_ 1 v1).set_ 2 v2).set_ 3 v3).set_ 4 v4).set_ 5 v5
theorem below_sets6 {w W : World} {n B : Nat} (h : Below n w W) (hB : n ≤ B) (v0 v1 v2 v3 v4 v5 : Value) : Below n w (((((((W).setCell ⟨B, 0, none⟩ v0).setCell ⟨B, 1, none⟩ v1).setCell ⟨B, 2, none⟩ v2).setCell ⟨B, 3, none⟩ v3).setCell ⟨B, 4, none⟩ v4).setCell ⟨B, 5, none⟩ v5) := ((((((h).setCell hB _).setCell hB _).setCell hB _).setCell hB _).setCell hB _).setCell hB _
theorem res_spot2 {w : World} {B : Nat} {x0 x1 x2 x3 x4 x5 v : Value} (h : Blk w B 58 #[x0, x1, x2, x3, x4, x5]) {fn : Func} {j s : Nat} (hres : fn.results = #[.cell j 58, .tmp s]) {tmps : Array Value} (h2 : tmps[j]?.getD undef = .pointer (some ⟨B, 0, none⟩)) (h3 : tmps[s]?.getD undef = v) :
    (results fn tmps).run Tryz.prog w = .ok (.tuple #[.agg #[x0, x1, x2, x3, x4, x5], v]) w := by
  obtain ⟨c0, c1, c2, c3, c4, c5⟩ := h.six
  simp [results, hres, go_sem, h2, h3, c0, c1, c2, c3, c4, c5]
/-- What Decode answers. -/
def decN (s : ByteArray) (at0 : Int) : Nm × Int × Int := if (decI s at0).2.2 = 0 then match nmI (decI s at0).1 with | some o => (o, (decI s at0).2.1, 0) | none => (nm0, 0, 60) else (nm0, 0, (decI s at0).2.2)
/-- What stands at a place of a right item is no longer than a text may be. -/
theorem prt_small {x : Itm} (h : rightI x = true) (j : Nat) : (prt x j).s.length ≤ 600 := by
  by_cases hlt : j < x.l.length
  · obtain ⟨y, hy⟩ : ∃ y, x.l[j]? = some y := ⟨_, List.getElem?_eq_getElem hlt⟩
    rw [prt_some hy]
    obtain ⟨k, n, s, l⟩ := x
    have h1 := ((rightI_iff _).1 h).1
    have h2 := (parts_ok (List.mem_of_getElem? hy) h1).1
    obtain ⟨k', n', s', l'⟩ := y
    simp only [okI, Bool.and_eq_true] at h2
    show s'.length ≤ 600
    rcases ownB_cases h2.1 with ⟨N, _, _, _, h, _⟩ | ⟨_, _, h, _⟩ | ⟨_, _, h, _⟩ | ⟨_, _, h⟩
    · rw [h]; exact Nat.zero_le _
    · exact h
    · exact h
    · rw [h]; exact Nat.zero_le _
  · rw [prt_none (by omega)]
    exact Nat.zero_le _

set_option maxRecDepth 100000 in
set_option maxHeartbeats 2000000 in
theorem tellP_ok (k : Int) (nd sv : ByteArray) (a b : Int) (bh : Int) (w : World) :
    Calls Tryz.prog 37 #[.agg #[.int .i64 k, .string nd, .string sv, .int .i64 a, .int .i64 b, .int .i64 bh], .int .i64 0] w fun e w' => e = .returned (.tuple #[.agg #[.int .i64 k, .string nd, .string sv, .int .i64 a, .int .i64 b, .int .i64 bh], .int .i64 0]) ∧ Below w.heap.size w w' := by
  go_enter Tryz.func37, Tryz.ntmps37
  go_wp2_with fail
  exact bodyPost_ret (res_spot2 (blk2 _ _ _ _) rfl rfl rfl) rfl ⟨rfl, below2 _ _ _⟩

set_option maxRecDepth 100000 in
set_option maxHeartbeats 2000000 in
theorem tellP_bad (k : Int) (nd sv : ByteArray) (a b : Int) (bh u : Int) (hu : (u != 0) = true) (w : World) :
    Calls Tryz.prog 37 #[.agg #[.int .i64 k, .string nd, .string sv, .int .i64 a, .int .i64 b, .int .i64 bh], .int .i64 u] w fun e w' => e = .returned (.tuple #[.agg #[.int .i64 0, .string ⟨#[]⟩, .string ⟨#[]⟩, .int .i64 0, .int .i64 0, .int .i64 0], .int .i64 u]) ∧ Below w.heap.size w w' := by
  go_enter Tryz.func37, Tryz.ntmps37
  go_wp2_with fail
  exact bodyPost_ret (res_spot2 ((blk2 _ _ _ _).alloc _) rfl rfl rfl) rfl ⟨rfl, (below2 _ _ _).alloc (by simp; try omega) _⟩

set_option maxRecDepth 100000 in
set_option maxHeartbeats 2000000 in
theorem readBytes_err (s : ByteArray) (at0 : Int) (x : Itm) (bh er : Int) (hd : decI s at0 = (x, bh, er)) (her : (er != 0) = true) (w : World) (hE : EnvN w) (hH : HeadOK w) (hA : EnvE w) (hs : s.size ≤ 1000000) :
    Calls Tryz.prog 38 #[.string s, .int .i64 at0] w fun e w' => e = .returned (.tuple #[.agg #[.int .i64 0, .string ⟨#[]⟩, .string ⟨#[]⟩, .int .i64 0, .int .i64 0, .int .i64 0], .int .i64 er]) ∧ Below w.heap.size w w' := by
  have HD := Lib.hid hd
  clear hd
  have bR : Blk (w.alloc (.cells #[.int .i64 0, .string ⟨#[]⟩, .string ⟨#[]⟩, .int .i64 0, .int .i64 0, .int .i64 0] 58)) (w.heap.size) 58 #[.int .i64 0, .string ⟨#[]⟩, .string ⟨#[]⟩, .int .i64 0, .int .i64 0, .int .i64 0] := Blk.new w _ _
  have hb : Below w.heap.size w (w.alloc (.cells #[.int .i64 0, .string ⟨#[]⟩, .string ⟨#[]⟩, .int .i64 0, .int .i64 0, .int .i64 0] 58)) := ((Below.refl _ w).alloc (Nat.le_refl _) _)
  have hE0 := hE.below hb
  have hH0 := hH.below hb
  have hA0 := hA.below hb
  go_enter Tryz.func38, Tryz.ntmps38
  go_wp2_with fail
  generalize (w.alloc (.cells #[.int .i64 0, .string ⟨#[]⟩, .string ⟨#[]⟩, .int .i64 0, .int .i64 0, .int .i64 0] 58)) = w0 at *
  refine (idecode_any s at0 w0 hH0 hA0 hs).mono ?_
  rintro e w1 ⟨k1, n1, s1, p1, l1, c1, rfl, hI, hc1⟩
  have hb1 := hb.trans (hc1.mono hb.size)
  replace bR := bR.here hc1
  have hE1 := hE0.below hc1
  clear hE0
  have hH1 := hH0.below hc1
  clear hH0
  have hA1 := hA0.below hc1
  clear hA0
  rw [HD.out] at hI ⊢
  clear hc1 hb
  have hc2 : Below w1.heap.size w1 (w1.alloc (.cells #[.int .i64 k1, .int .i64 n1, .string s1, .slice p1 l1 c1] 26)) := (Below.refl _ _).alloc (Nat.le_refl _) _
  have bO : Blk (w1.alloc (.cells #[.int .i64 k1, .int .i64 n1, .string s1, .slice p1 l1 c1] 26)) w1.heap.size 26 #[.int .i64 k1, .int .i64 n1, .string s1, .slice p1 l1 c1] := Blk.new _ _ _
  have hb2 := hb1.trans (hc2.mono hb1.size)
  replace bR := bR.here hc2
  have hE2 := hE1.below hc2
  clear hE1
  have hH2 := hH1.below hc2
  clear hH1
  have hA2 := hA1.below hc2
  clear hA1
  have hI2 := hI.below hc2
  clear hc2 hb1
  obtain ⟨cR0, cR1, cR2, cR3, cR4, cR5⟩ := bR.six
  have fR0 := bR.frozen 0
  have fR1 := bR.frozen 1
  have fR2 := bR.frozen 2
  have fR3 := bR.frozen 3
  have fR4 := bR.frozen 4
  have fR5 := bR.frozen 5
  have lR := bR.lt
  go_wp2_with fail
  generalize (w1.alloc (.cells #[.int .i64 k1, .int .i64 n1, .string s1, .slice p1 l1 c1] 26)) = w2 at *
  refine bodyPost_ret (res_spot2 (bR.set6 _ _ _ _ _ _) rfl rfl rfl) rfl ⟨rfl, below_sets6 hb2 (Nat.le_refl _) _ _ _ _ _ _⟩

set_option maxRecDepth 100000 in
set_option maxHeartbeats 2000000 in
theorem readBytes_of (s : ByteArray) (at0 : Int) (x : Itm) (bh : Int) (hd : decI s at0 = (x, bh, 0)) (o : Nm) (u : Int) (q : Option Nm) (hq : nmI x = q) (ho : q.getD nm0 = o) (hu : erX q = u) (hsm : (prt x 1).s.length ≤ 4000000000) (w : World) (hE : EnvN w) (hH : HeadOK w) (hA : EnvE w) (hs : s.size ≤ 1000000) :
    Calls Tryz.prog 38 #[.string s, .int .i64 at0] w fun e w' => e = .returned (.tuple #[.agg #[.int .i64 o.k, .string ⟨o.node.toArray⟩, .string ⟨o.serv.toArray⟩, .int .i64 o.a, .int .i64 o.b, .int .i64 bh], .int .i64 u]) ∧ Below w.heap.size w w' := by
  have HD := Lib.hid hd
  have HQ := Lib.hid hq
  have HO := Lib.hid ho
  have HU := Lib.hid hu
  clear hd hq ho hu
  have bR : Blk (w.alloc (.cells #[.int .i64 0, .string ⟨#[]⟩, .string ⟨#[]⟩, .int .i64 0, .int .i64 0, .int .i64 0] 58)) (w.heap.size) 58 #[.int .i64 0, .string ⟨#[]⟩, .string ⟨#[]⟩, .int .i64 0, .int .i64 0, .int .i64 0] := Blk.new w _ _
  have hb : Below w.heap.size w (w.alloc (.cells #[.int .i64 0, .string ⟨#[]⟩, .string ⟨#[]⟩, .int .i64 0, .int .i64 0, .int .i64 0] 58)) := ((Below.refl _ w).alloc (Nat.le_refl _) _)
  have hE0 := hE.below hb
  have hH0 := hH.below hb
  have hA0 := hA.below hb
  go_enter Tryz.func38, Tryz.ntmps38
  go_wp2_with fail
  generalize (w.alloc (.cells #[.int .i64 0, .string ⟨#[]⟩, .string ⟨#[]⟩, .int .i64 0, .int .i64 0, .int .i64 0] 58)) = w0 at *
  refine (idecode_any s at0 w0 hH0 hA0 hs).mono ?_
  rintro e w1 ⟨k1, n1, s1, p1, l1, c1, rfl, hI, hc1⟩
  have hb1 := hb.trans (hc1.mono hb.size)
  replace bR := bR.here hc1
  have hE1 := hE0.below hc1
  clear hE0
  have hH1 := hH0.below hc1
  clear hH0
  have hA1 := hA0.below hc1
  clear hA0
  rw [HD.out] at hI ⊢
  clear hc1 hb
  have hc2 : Below w1.heap.size w1 (w1.alloc (.cells #[.int .i64 k1, .int .i64 n1, .string s1, .slice p1 l1 c1] 26)) := (Below.refl _ _).alloc (Nat.le_refl _) _
  have bO : Blk (w1.alloc (.cells #[.int .i64 k1, .int .i64 n1, .string s1, .slice p1 l1 c1] 26)) w1.heap.size 26 #[.int .i64 k1, .int .i64 n1, .string s1, .slice p1 l1 c1] := Blk.new _ _ _
  have hb2 := hb1.trans (hc2.mono hb1.size)
  replace bR := bR.here hc2
  have hE2 := hE1.below hc2
  clear hE1
  have hH2 := hH1.below hc2
  clear hH1
  have hA2 := hA1.below hc2
  clear hA1
  have hI2 := hI.below hc2
  clear hc2 hb1
  obtain ⟨cO0, cO1, cO2, cO3⟩ := bO.four
  have lO := bO.lt
  go_wp2_with fail
  generalize (w1.alloc (.cells #[.int .i64 k1, .int .i64 n1, .string s1, .slice p1 l1 c1] 26)) = w2 at *
  refine (jread_any _ x _ w2 hE2 hI2 hsm).mono ?_
  rintro e w3 ⟨rfl, hc3⟩
  have hb3 := hb2.trans (hc3.mono hb2.size)
  replace bR := bR.here hc3
  replace bO := bO.here hc3
  have hE3 := hE2.below hc3
  clear hE2
  have hH3 := hH2.below hc3
  clear hH2
  have hA3 := hA2.below hc3
  clear hA2
  have hI3 := hI2.below hc3
  clear hI2
  clear hc3 hb2
  unfold nmX
  rw [HQ.out, HO.out, HU.out]
  unfold nmW nmV
  clear cO0 cO1 cO2 cO3 lO
  have hc4 : Below w3.heap.size w3 (w3.alloc (.cells #[.int .i64 o.k, .string ⟨o.node.toArray⟩, .string ⟨o.serv.toArray⟩, .int .i64 o.a, .int .i64 o.b] 23)) := (Below.refl _ _).alloc (Nat.le_refl _) _
  have bE : Blk (w3.alloc (.cells #[.int .i64 o.k, .string ⟨o.node.toArray⟩, .string ⟨o.serv.toArray⟩, .int .i64 o.a, .int .i64 o.b] 23)) w3.heap.size 23 #[.int .i64 o.k, .string ⟨o.node.toArray⟩, .string ⟨o.serv.toArray⟩, .int .i64 o.a, .int .i64 o.b] := Blk.new _ _ _
  have hb4 := hb3.trans (hc4.mono hb3.size)
  replace bR := bR.here hc4
  replace bO := bO.here hc4
  have hE4 := hE3.below hc4
  clear hE3
  have hH4 := hH3.below hc4
  clear hH3
  have hA4 := hA3.below hc4
  clear hA3
  have hI4 := hI3.below hc4
  clear hI3
  clear hc4 hb3
  obtain ⟨cE0, cE1, cE2, cE3, cE4⟩ := bE.five
  have lE := bE.lt
  obtain ⟨cR0, cR1, cR2, cR3, cR4, cR5⟩ := bR.six
  have fR0 := bR.frozen 0
  have fR1 := bR.frozen 1
  have fR2 := bR.frozen 2
  have fR3 := bR.frozen 3
  have fR4 := bR.frozen 4
  have fR5 := bR.frozen 5
  have lR := bR.lt
  go_wp2_with fail
  generalize (w3.alloc (.cells #[.int .i64 o.k, .string ⟨o.node.toArray⟩, .string ⟨o.serv.toArray⟩, .int .i64 o.a, .int .i64 o.b] 23)) = w4 at *
  refine bodyPost_ret (res_spot2 (bR.set6 _ _ _ _ _ _) rfl rfl rfl) rfl ⟨rfl, below_sets6 hb4 (Nat.le_refl _) _ _ _ _ _ _⟩

theorem decI_of (s : ByteArray) (at0 : Int) : decI s at0 = ((decI s at0).1, (decI s at0).2.1, (decI s at0).2.2) := rfl
theorem decI_right {s : ByteArray} {at0 : Int} (h : (decI s at0).2.2 = 0) : rightI (decI s at0).1 = true := by
  cases hr : rdAt s at0 with
  | error e =>
    rw [decI_err hr]
    show rightI (.mk 0 0 [] []) = true
    decide
  | ok t =>
    obtain ⟨x, r, c⟩ := t
    rw [decI_ok hr]
    unfold rdAt at hr
    split at hr
    · cases hr
    · obtain ⟨h1, h2, h3, h4, _⟩ := rd_back _ _ _ _ _ _ hr
      exact (rightI_iff _).2 ⟨h1, h2, by rw [h3] at h4; simpa using h4⟩

set_option maxRecDepth 100000 in
set_option maxHeartbeats 2000000 in
theorem Decode_of (s : ByteArray) (at0 : Int) (o o2 : Nm) (bh bh2 u : Int) (w : World) (hE : EnvN w) (hH : HeadOK w) (hA : EnvE w) (hC : ∀ W, EnvN W → HeadOK W → EnvE W → Calls Tryz.prog 38 #[.string s, .int .i64 at0] W fun e w' => e = .returned (.tuple #[.agg #[.int .i64 o.k, .string ⟨o.node.toArray⟩, .string ⟨o.serv.toArray⟩, .int .i64 o.a, .int .i64 o.b, .int .i64 bh], .int .i64 u]) ∧ Below W.heap.size W w') (hT : ∀ W, Calls Tryz.prog 37 #[.agg #[.int .i64 o.k, .string ⟨o.node.toArray⟩, .string ⟨o.serv.toArray⟩, .int .i64 o.a, .int .i64 o.b, .int .i64 bh], .int .i64 u] W fun e w' => e = .returned (.tuple #[.agg #[.int .i64 o2.k, .string ⟨o2.node.toArray⟩, .string ⟨o2.serv.toArray⟩, .int .i64 o2.a, .int .i64 o2.b, .int .i64 bh2], .int .i64 u]) ∧ Below W.heap.size W w') (hs : s.size ≤ 1000000) :
    Calls Tryz.prog 19 #[.string s, .int .i64 at0] w fun e w' => e = .returned (.tuple #[.agg #[.int .i64 o2.k, .string ⟨o2.node.toArray⟩, .string ⟨o2.serv.toArray⟩, .int .i64 o2.a, .int .i64 o2.b], .int .i64 bh2, .int .i64 u]) ∧ Below w.heap.size w w' := by
  have HC := Lib.hid hC
  have HT := Lib.hid hT
  clear hC hT
  have bR : Blk (w.alloc (.cells #[.int .i64 0, .string ⟨#[]⟩, .string ⟨#[]⟩, .int .i64 0, .int .i64 0] 23)) (w.heap.size) 23 #[.int .i64 0, .string ⟨#[]⟩, .string ⟨#[]⟩, .int .i64 0, .int .i64 0] := Blk.new w _ _
  have hb : Below w.heap.size w (w.alloc (.cells #[.int .i64 0, .string ⟨#[]⟩, .string ⟨#[]⟩, .int .i64 0, .int .i64 0] 23)) := ((Below.refl _ w).alloc (Nat.le_refl _) _)
  have hE0 := hE.below hb
  have hH0 := hH.below hb
  have hA0 := hA.below hb
  go_enter Tryz.func19, Tryz.ntmps19
  go_wp2_with fail
  generalize (w.alloc (.cells #[.int .i64 0, .string ⟨#[]⟩, .string ⟨#[]⟩, .int .i64 0, .int .i64 0] 23)) = w0 at *
  refine (HC.out w0 hE0 hH0 hA0).mono ?_
  rintro e w1 ⟨rfl, hc1⟩
  have hb1 := hb.trans (hc1.mono hb.size)
  replace bR := bR.here hc1
  have hE1 := hE0.below hc1
  clear hE0
  have hH1 := hH0.below hc1
  clear hH0
  have hA1 := hA0.below hc1
  clear hA0
  clear hc1 hb
  go_wp2_with fail
  refine (HT.out w1).mono ?_
  rintro e w2 ⟨rfl, hc2⟩
  have hb2 := hb1.trans (hc2.mono hb1.size)
  replace bR := bR.here hc2
  have hE2 := hE1.below hc2
  clear hE1
  have hH2 := hH1.below hc2
  clear hH1
  have hA2 := hA1.below hc2
  clear hA1
  clear hc2 hb1
  have hne1 := Nat.ne_of_lt bR.lt
  have hne2 := Nat.ne_of_gt bR.lt
  have hc3 : Below w2.heap.size w2 (w2.alloc (.cells #[.int .i64 o2.k, .string ⟨o2.node.toArray⟩, .string ⟨o2.serv.toArray⟩, .int .i64 o2.a, .int .i64 o2.b, .int .i64 bh2] 58)) := (Below.refl _ _).alloc (Nat.le_refl _) _
  have bS : Blk (w2.alloc (.cells #[.int .i64 o2.k, .string ⟨o2.node.toArray⟩, .string ⟨o2.serv.toArray⟩, .int .i64 o2.a, .int .i64 o2.b, .int .i64 bh2] 58)) w2.heap.size 58 #[.int .i64 o2.k, .string ⟨o2.node.toArray⟩, .string ⟨o2.serv.toArray⟩, .int .i64 o2.a, .int .i64 o2.b, .int .i64 bh2] := Blk.new _ _ _
  have hb3 := hb2.trans (hc3.mono hb2.size)
  replace bR := bR.here hc3
  have hE3 := hE2.below hc3
  clear hE2
  have hH3 := hH2.below hc3
  clear hH2
  have hA3 := hA2.below hc3
  clear hA2
  clear hc3 hb2
  obtain ⟨cS0, cS1, cS2, cS3, cS4, cS5⟩ := bS.six
  have lS := bS.lt
  obtain ⟨cR0, cR1, cR2, cR3, cR4⟩ := bR.five
  have fR0 := bR.frozen 0
  have fR1 := bR.frozen 1
  have fR2 := bR.frozen 2
  have fR3 := bR.frozen 3
  have fR4 := bR.frozen 4
  have lR := bR.lt
  go_wp2_with fail
  generalize (w2.alloc (.cells #[.int .i64 o2.k, .string ⟨o2.node.toArray⟩, .string ⟨o2.serv.toArray⟩, .int .i64 o2.a, .int .i64 o2.b, .int .i64 bh2] 58)) = w3 at *
  go_region
  all_goals
    go_wp2_with fail
    first
      | exact bodyPost_ret (res_name3 ((bR.set5 _ _ _ _ _).drew) rfl rfl rfl rfl) rfl ⟨rfl, (below_sets5 hb3 (Nat.le_refl _) _ _ _ _ _).drew⟩
      | exact bodyPost_ret (res_name3 (bR.set5 _ _ _ _ _) rfl rfl rfl rfl) rfl ⟨rfl, below_sets5 hb3 (Nat.le_refl _) _ _ _ _ _⟩

theorem Decode_any (s : ByteArray) (at0 : Int) (w : World) (hE : EnvN w) (hH : HeadOK w) (hA : EnvE w) (hs : s.size ≤ 1000000) :
    Calls Tryz.prog 19 #[.string s, .int .i64 at0] w fun e w' => e = .returned (.tuple #[nmW (decN s at0).1, .int .i64 (decN s at0).2.1, .int .i64 (decN s at0).2.2]) ∧ Below w.heap.size w w' := by
  unfold decN
  by_cases her : (decI s at0).2.2 = 0
  · rw [if_pos her]
    have hd : decI s at0 = ((decI s at0).1, (decI s at0).2.1, 0) := by rw [← her]
    have hsm := Nat.le_trans (prt_small (decI_right her) 1) (show 600 ≤ 4000000000 by decide)
    cases hq : nmI (decI s at0).1 with
    | none =>
      exact Decode_of s at0 nm0 nm0 (decI s at0).2.1 0 60 w hE hH hA
        (fun W a b c => readBytes_of s at0 _ _ hd nm0 60 none hq rfl rfl hsm W a b c hs) (fun W => tellP_bad _ _ _ _ _ _ 60 (by decide) W) hs
    | some o =>
      exact Decode_of s at0 o o (decI s at0).2.1 (decI s at0).2.1 0 w hE hH hA
        (fun W a b c => readBytes_of s at0 _ _ hd o 0 (some o) hq rfl rfl hsm W a b c hs) (fun W => tellP_ok _ _ _ _ _ _ W) hs
  · rw [if_neg her]
    have hub : ((decI s at0).2.2 != 0) = true := by simpa using her
    exact Decode_of s at0 nm0 nm0 0 0 _ w hE hH hA (fun W a b c => readBytes_err s at0 _ _ _ rfl hub W a b c hs) (fun W => tellP_bad _ _ _ _ _ _ _ hub W) hs

end Go.Proofs.YtmbmolgkccjedaaGreatDoor

/- The document's Item (package postriderref10). -/
set_option linter.unusedVariables false
set_option linter.unusedSimpArgs false
namespace Go.Proofs.YtmbmolgkccjedaaGreatDoor
open Go.RowKit
attribute [local go_sem ↓] Go.wp_at_zero Go.wp_at_succ

set_option maxRecDepth 100000 in
set_option maxHeartbeats 2000000 in
theorem rjnumber_any (n : Int) (w : World) :
    Calls Tryz.prog 30 #[.int .i64 n] w fun e w' => e = .returned (.agg #[.int .i64 0, .int .i64 n, .string ⟨#[]⟩, .slice none 0 0]) ∧ Below w.heap.size w w' := by
  go_enter Tryz.func30, Tryz.ntmps30
  go_wp2_with fail
  exact bodyPost_ret (res_item (Blk.new _ _ _) rfl rfl) rfl ⟨rfl, belowA _ _⟩

set_option maxRecDepth 100000 in
set_option maxHeartbeats 2000000 in
theorem rjlist_any (p : Option Addr) (l c : Nat) (w : World) :
    Calls Tryz.prog 29 #[.slice p l c] w fun e w' => e = .returned (.agg #[.int .i64 4, .int .i64 0, .string ⟨#[]⟩, .slice p l c]) ∧ Below w.heap.size w w' := by
  go_enter Tryz.func29, Tryz.ntmps29
  go_wp2_with fail
  exact bodyPost_ret (res_item (Blk.new _ _ _) rfl rfl) rfl ⟨rfl, belowA _ _⟩

set_option maxRecDepth 100000 in
set_option maxHeartbeats 2000000 in
theorem rjItem_no (k : Int) (nd sv : ByteArray) (a b : Int) (rs : ByteArray) (her : erS (nmO k nd sv a b) = 60) (hrse : rsS (nmO k nd sv a b) = rs) (w : World) (hn : nd.size ≤ 4000000000) (hv : sv.size ≤ 4000000000) :
    Calls Tryz.prog 12 #[.agg #[.int .i64 k, .string nd, .string sv, .int .i64 a, .int .i64 b]] w fun e w' => MadeI2 w.heap.size zerI 60 e w' ∧ Below w.heap.size w w' := by
  have HER := Lib.hid her
  have HRS := Lib.hid hrse
  clear her hrse
  have bR_ := Blk.new (w.alloc (.cells #[.int .i64 k, .string nd, .string sv, .int .i64 a, .int .i64 b] 23)) 26 #[.int .i64 0, .int .i64 0, .string ⟨#[]⟩, .slice none 0 0]
  simp only [World.size_alloc] at bR_
  have bN : Blk ((w.alloc (.cells #[.int .i64 k, .string nd, .string sv, .int .i64 a, .int .i64 b] 23)).alloc (.cells #[.int .i64 0, .int .i64 0, .string ⟨#[]⟩, .slice none 0 0] 26)) (w.heap.size) 23 #[.int .i64 k, .string nd, .string sv, .int .i64 a, .int .i64 b] := (Blk.new w _ _).alloc _
  have bR : Blk ((w.alloc (.cells #[.int .i64 k, .string nd, .string sv, .int .i64 a, .int .i64 b] 23)).alloc (.cells #[.int .i64 0, .int .i64 0, .string ⟨#[]⟩, .slice none 0 0] 26)) (w.heap.size + 1) 26 #[.int .i64 0, .int .i64 0, .string ⟨#[]⟩, .slice none 0 0] := bR_
  have hb : Below w.heap.size w ((w.alloc (.cells #[.int .i64 k, .string nd, .string sv, .int .i64 a, .int .i64 b] 23)).alloc (.cells #[.int .i64 0, .int .i64 0, .string ⟨#[]⟩, .slice none 0 0] 26)) := (((Below.refl _ w).alloc (Nat.le_refl _) _).alloc (by simp; try omega) _)
  clear bR_
  obtain ⟨cN0, cN1, cN2, cN3, cN4⟩ := bN.five
  have lN := bN.lt
  go_enter Tryz.func12, Tryz.ntmps12
  go_wp2_with fail
  generalize ((w.alloc (.cells #[.int .i64 k, .string nd, .string sv, .int .i64 a, .int .i64 b] 23)).alloc (.cells #[.int .i64 0, .int .i64 0, .string ⟨#[]⟩, .slice none 0 0] 26)) = w0 at *
  refine (rhalves_any k nd sv a b w0 hn hv).mono ?_
  rintro e w1 ⟨rfl, hc1⟩
  have hb1 := hb.trans (hc1.mono hb.size)
  replace bN := bN.here hc1
  replace bR := bR.here hc1
  clear hc1 hb
  rw [HER.out, HRS.out]
  clear cN0 cN1 cN2 cN3 cN4 lN
  obtain ⟨cR0, cR1, cR2, cR3⟩ := bR.four
  have fR0 := bR.frozen 0
  have fR1 := bR.frozen 1
  have fR2 := bR.frozen 2
  have fR3 := bR.frozen 3
  have lR := bR.lt
  go_wp2_with fail
  refine bodyPost_ret (res_item2 (bR.set4 _ _ _ _) rfl rfl rfl) rfl ⟨MadeI2.done (m := w.heap.size + 1) itv_zero (Nat.le_refl _) (Nat.le_succ _), below_sets4 hb1 (by omega) _ _ _ _⟩

set_option maxRecDepth 100000 in
set_option maxHeartbeats 2000000 in
theorem rjItem_dtn (nd sv : ByteArray) (a b : Int) (rs : ByteArray) (her : erS (nmO 1 nd sv a b) = 0) (hrse : rsS (nmO 1 nd sv a b) = rs) (hrs : rs.size ≤ maxLen) (w : World) (hn : nd.size ≤ 4000000000) (hv : sv.size ≤ 4000000000) :
    Calls Tryz.prog 12 #[.agg #[.int .i64 1, .string nd, .string sv, .int .i64 a, .int .i64 b]] w fun e w' => MadeI2 w.heap.size (lstI [numI 1, txtI rs.data.toList]) 0 e w' ∧ Below w.heap.size w w' := by
  have HER := Lib.hid her
  have HRS := Lib.hid hrse
  clear her hrse
  have bR_ := Blk.new (w.alloc (.cells #[.int .i64 1, .string nd, .string sv, .int .i64 a, .int .i64 b] 23)) 26 #[.int .i64 0, .int .i64 0, .string ⟨#[]⟩, .slice none 0 0]
  simp only [World.size_alloc] at bR_
  have bN : Blk ((w.alloc (.cells #[.int .i64 1, .string nd, .string sv, .int .i64 a, .int .i64 b] 23)).alloc (.cells #[.int .i64 0, .int .i64 0, .string ⟨#[]⟩, .slice none 0 0] 26)) (w.heap.size) 23 #[.int .i64 1, .string nd, .string sv, .int .i64 a, .int .i64 b] := (Blk.new w _ _).alloc _
  have bR : Blk ((w.alloc (.cells #[.int .i64 1, .string nd, .string sv, .int .i64 a, .int .i64 b] 23)).alloc (.cells #[.int .i64 0, .int .i64 0, .string ⟨#[]⟩, .slice none 0 0] 26)) (w.heap.size + 1) 26 #[.int .i64 0, .int .i64 0, .string ⟨#[]⟩, .slice none 0 0] := bR_
  have hb : Below w.heap.size w ((w.alloc (.cells #[.int .i64 1, .string nd, .string sv, .int .i64 a, .int .i64 b] 23)).alloc (.cells #[.int .i64 0, .int .i64 0, .string ⟨#[]⟩, .slice none 0 0] 26)) := (((Below.refl _ w).alloc (Nat.le_refl _) _).alloc (by simp; try omega) _)
  clear bR_
  obtain ⟨cN0, cN1, cN2, cN3, cN4⟩ := bN.five
  have lN := bN.lt
  go_enter Tryz.func12, Tryz.ntmps12
  go_wp2_with fail
  generalize ((w.alloc (.cells #[.int .i64 1, .string nd, .string sv, .int .i64 a, .int .i64 b] 23)).alloc (.cells #[.int .i64 0, .int .i64 0, .string ⟨#[]⟩, .slice none 0 0] 26)) = w0 at *
  refine (rhalves_any 1 nd sv a b w0 hn hv).mono ?_
  rintro e w1 ⟨rfl, hc1⟩
  have hb1 := hb.trans (hc1.mono hb.size)
  replace bN := bN.here hc1
  replace bR := bR.here hc1
  clear hc1 hb
  rw [HER.out, HRS.out]
  clear cN0 cN1 cN2 cN3 cN4 lN
  obtain ⟨cN0, cN1, cN2, cN3, cN4⟩ := bN.five
  have lN := bN.lt
  go_wp2_with fail
  refine (rjnumber_any 1 w1).mono ?_
  rintro e w2 ⟨rfl, hc2⟩
  have hb2 := hb1.trans (hc2.mono hb1.size)
  replace bN := bN.here hc2
  replace bR := bR.here hc2
  clear hc2 hb1
  clear cN0 cN1 cN2 cN3 cN4 lN
  go_wp2_with fail
  have lL := bR.lt
  have hc3 : Below w2.heap.size w2 (w2.alloc (.cells #[.int .i64 0, .int .i64 1, .string ⟨#[]⟩, .slice none 0 0, .int .i64 3, .int .i64 0, .string rs, .slice none 0 0] 26)) := (Below.refl _ _).alloc (Nat.le_refl _) _
  have bL : Blk (w2.alloc (.cells #[.int .i64 0, .int .i64 1, .string ⟨#[]⟩, .slice none 0 0, .int .i64 3, .int .i64 0, .string rs, .slice none 0 0] 26)) w2.heap.size 26 #[.int .i64 0, .int .i64 1, .string ⟨#[]⟩, .slice none 0 0, .int .i64 3, .int .i64 0, .string rs, .slice none 0 0] := Blk.new _ _ _
  have hb3 := hb2.trans (hc3.mono hb2.size)
  replace bN := bN.here hc3
  replace bR := bR.here hc3
  clear hc3 hb2
  generalize (w2.alloc (.cells #[.int .i64 0, .int .i64 1, .string ⟨#[]⟩, .slice none 0 0, .int .i64 3, .int .i64 0, .string rs, .slice none 0 0] 26)) = w3 at *
  refine (rjlist_any _ _ _ w3).mono ?_
  rintro e w4 ⟨rfl, hc4⟩
  have hb4 := hb3.trans (hc4.mono hb3.size)
  replace bN := bN.here hc4
  replace bR := bR.here hc4
  replace bL := bL.here hc4
  clear hc4 hb3
  obtain ⟨cR0, cR1, cR2, cR3⟩ := bR.four
  have fR0 := bR.frozen 0
  have fR1 := bR.frozen 1
  have fR2 := bR.frozen 2
  have fR3 := bR.frozen 3
  have lR := bR.lt
  go_wp2_with fail
  have hI : ItV (fun x => w.heap.size + 1 < x) w4 (lstI [numI 1, txtI rs.data.toList]) (.agg #[.int .i64 4, .int .i64 0, .string ⟨#[]⟩, .slice (some ⟨w2.heap.size, 0, none⟩) 2 2]) := ItV.two bL lL (ItV.num (by decide)) (ItV.txt hrs)
  refine bodyPost_ret (res_item2 (bR.set4 _ _ _ _) rfl rfl rfl) rfl ⟨MadeI2.done hI (Nat.le_refl _) (Nat.le_succ _), below_sets4 hb4 (by omega) _ _ _ _⟩

set_option maxRecDepth 100000 in
set_option maxHeartbeats 2000000 in
theorem rjItem_none (nd sv : ByteArray) (a b : Int) (rs : ByteArray) (her : erS (nmO 0 nd sv a b) = 0) (hrse : rsS (nmO 0 nd sv a b) = rs) (w : World) (hn : nd.size ≤ 4000000000) (hv : sv.size ≤ 4000000000) :
    Calls Tryz.prog 12 #[.agg #[.int .i64 0, .string nd, .string sv, .int .i64 a, .int .i64 b]] w fun e w' => MadeI2 w.heap.size (lstI [numI 1, numI 0]) 0 e w' ∧ Below w.heap.size w w' := by
  have HER := Lib.hid her
  have HRS := Lib.hid hrse
  clear her hrse
  have bR_ := Blk.new (w.alloc (.cells #[.int .i64 0, .string nd, .string sv, .int .i64 a, .int .i64 b] 23)) 26 #[.int .i64 0, .int .i64 0, .string ⟨#[]⟩, .slice none 0 0]
  simp only [World.size_alloc] at bR_
  have bN : Blk ((w.alloc (.cells #[.int .i64 0, .string nd, .string sv, .int .i64 a, .int .i64 b] 23)).alloc (.cells #[.int .i64 0, .int .i64 0, .string ⟨#[]⟩, .slice none 0 0] 26)) (w.heap.size) 23 #[.int .i64 0, .string nd, .string sv, .int .i64 a, .int .i64 b] := (Blk.new w _ _).alloc _
  have bR : Blk ((w.alloc (.cells #[.int .i64 0, .string nd, .string sv, .int .i64 a, .int .i64 b] 23)).alloc (.cells #[.int .i64 0, .int .i64 0, .string ⟨#[]⟩, .slice none 0 0] 26)) (w.heap.size + 1) 26 #[.int .i64 0, .int .i64 0, .string ⟨#[]⟩, .slice none 0 0] := bR_
  have hb : Below w.heap.size w ((w.alloc (.cells #[.int .i64 0, .string nd, .string sv, .int .i64 a, .int .i64 b] 23)).alloc (.cells #[.int .i64 0, .int .i64 0, .string ⟨#[]⟩, .slice none 0 0] 26)) := (((Below.refl _ w).alloc (Nat.le_refl _) _).alloc (by simp; try omega) _)
  clear bR_
  obtain ⟨cN0, cN1, cN2, cN3, cN4⟩ := bN.five
  have lN := bN.lt
  go_enter Tryz.func12, Tryz.ntmps12
  go_wp2_with fail
  generalize ((w.alloc (.cells #[.int .i64 0, .string nd, .string sv, .int .i64 a, .int .i64 b] 23)).alloc (.cells #[.int .i64 0, .int .i64 0, .string ⟨#[]⟩, .slice none 0 0] 26)) = w0 at *
  refine (rhalves_any 0 nd sv a b w0 hn hv).mono ?_
  rintro e w1 ⟨rfl, hc1⟩
  have hb1 := hb.trans (hc1.mono hb.size)
  replace bN := bN.here hc1
  replace bR := bR.here hc1
  clear hc1 hb
  rw [HER.out, HRS.out]
  clear cN0 cN1 cN2 cN3 cN4 lN
  obtain ⟨cN0, cN1, cN2, cN3, cN4⟩ := bN.five
  have lN := bN.lt
  go_wp2_with fail
  refine (rjnumber_any 1 w1).mono ?_
  rintro e w2 ⟨rfl, hc2⟩
  have hb2 := hb1.trans (hc2.mono hb1.size)
  replace bN := bN.here hc2
  replace bR := bR.here hc2
  clear hc2 hb1
  clear cN0 cN1 cN2 cN3 cN4 lN
  go_wp2_with fail
  refine (rjnumber_any 0 w2).mono ?_
  rintro e w3 ⟨rfl, hc3⟩
  have hb3 := hb2.trans (hc3.mono hb2.size)
  replace bN := bN.here hc3
  replace bR := bR.here hc3
  clear hc3 hb2
  go_wp2_with fail
  have lL := bR.lt
  have hc4 : Below w3.heap.size w3 (w3.alloc (.cells #[.int .i64 0, .int .i64 1, .string ⟨#[]⟩, .slice none 0 0, .int .i64 0, .int .i64 0, .string ⟨#[]⟩, .slice none 0 0] 26)) := (Below.refl _ _).alloc (Nat.le_refl _) _
  have bL : Blk (w3.alloc (.cells #[.int .i64 0, .int .i64 1, .string ⟨#[]⟩, .slice none 0 0, .int .i64 0, .int .i64 0, .string ⟨#[]⟩, .slice none 0 0] 26)) w3.heap.size 26 #[.int .i64 0, .int .i64 1, .string ⟨#[]⟩, .slice none 0 0, .int .i64 0, .int .i64 0, .string ⟨#[]⟩, .slice none 0 0] := Blk.new _ _ _
  have hb4 := hb3.trans (hc4.mono hb3.size)
  replace bN := bN.here hc4
  replace bR := bR.here hc4
  clear hc4 hb3
  generalize (w3.alloc (.cells #[.int .i64 0, .int .i64 1, .string ⟨#[]⟩, .slice none 0 0, .int .i64 0, .int .i64 0, .string ⟨#[]⟩, .slice none 0 0] 26)) = w4 at *
  refine (rjlist_any _ _ _ w4).mono ?_
  rintro e w5 ⟨rfl, hc5⟩
  have hb5 := hb4.trans (hc5.mono hb4.size)
  replace bN := bN.here hc5
  replace bR := bR.here hc5
  replace bL := bL.here hc5
  clear hc5 hb4
  obtain ⟨cR0, cR1, cR2, cR3⟩ := bR.four
  have fR0 := bR.frozen 0
  have fR1 := bR.frozen 1
  have fR2 := bR.frozen 2
  have fR3 := bR.frozen 3
  have lR := bR.lt
  go_wp2_with fail
  have hI : ItV (fun x => w.heap.size + 1 < x) w5 (lstI [numI 1, numI 0]) (.agg #[.int .i64 4, .int .i64 0, .string ⟨#[]⟩, .slice (some ⟨w3.heap.size, 0, none⟩) 2 2]) := ItV.two bL lL (ItV.num (by decide)) (ItV.num (by decide))
  refine bodyPost_ret (res_item2 (bR.set4 _ _ _ _) rfl rfl rfl) rfl ⟨MadeI2.done hI (Nat.le_refl _) (Nat.le_succ _), below_sets4 hb5 (by omega) _ _ _ _⟩

set_option maxRecDepth 100000 in
set_option maxHeartbeats 2000000 in
theorem rjItem_ipn (nd sv : ByteArray) (a b : Int) (rs : ByteArray) (her : erS (nmO 2 nd sv a b) = 0) (hrse : rsS (nmO 2 nd sv a b) = rs) (w : World) (hn : nd.size ≤ 4000000000) (hv : sv.size ≤ 4000000000) (ha : (Lit.int .i64 a).wf = true) (hb9 : (Lit.int .i64 b).wf = true) :
    Calls Tryz.prog 12 #[.agg #[.int .i64 2, .string nd, .string sv, .int .i64 a, .int .i64 b]] w fun e w' => MadeI2 w.heap.size (lstI [numI 2, lstI [numI a, numI b]]) 0 e w' ∧ Below w.heap.size w w' := by
  have HER := Lib.hid her
  have HRS := Lib.hid hrse
  clear her hrse
  have bR_ := Blk.new (w.alloc (.cells #[.int .i64 2, .string nd, .string sv, .int .i64 a, .int .i64 b] 23)) 26 #[.int .i64 0, .int .i64 0, .string ⟨#[]⟩, .slice none 0 0]
  simp only [World.size_alloc] at bR_
  have bN : Blk ((w.alloc (.cells #[.int .i64 2, .string nd, .string sv, .int .i64 a, .int .i64 b] 23)).alloc (.cells #[.int .i64 0, .int .i64 0, .string ⟨#[]⟩, .slice none 0 0] 26)) (w.heap.size) 23 #[.int .i64 2, .string nd, .string sv, .int .i64 a, .int .i64 b] := (Blk.new w _ _).alloc _
  have bR : Blk ((w.alloc (.cells #[.int .i64 2, .string nd, .string sv, .int .i64 a, .int .i64 b] 23)).alloc (.cells #[.int .i64 0, .int .i64 0, .string ⟨#[]⟩, .slice none 0 0] 26)) (w.heap.size + 1) 26 #[.int .i64 0, .int .i64 0, .string ⟨#[]⟩, .slice none 0 0] := bR_
  have hb : Below w.heap.size w ((w.alloc (.cells #[.int .i64 2, .string nd, .string sv, .int .i64 a, .int .i64 b] 23)).alloc (.cells #[.int .i64 0, .int .i64 0, .string ⟨#[]⟩, .slice none 0 0] 26)) := (((Below.refl _ w).alloc (Nat.le_refl _) _).alloc (by simp; try omega) _)
  clear bR_
  obtain ⟨cN0, cN1, cN2, cN3, cN4⟩ := bN.five
  have lN := bN.lt
  go_enter Tryz.func12, Tryz.ntmps12
  go_wp2_with fail
  generalize ((w.alloc (.cells #[.int .i64 2, .string nd, .string sv, .int .i64 a, .int .i64 b] 23)).alloc (.cells #[.int .i64 0, .int .i64 0, .string ⟨#[]⟩, .slice none 0 0] 26)) = w0 at *
  refine (rhalves_any 2 nd sv a b w0 hn hv).mono ?_
  rintro e w1 ⟨rfl, hc1⟩
  have hb1 := hb.trans (hc1.mono hb.size)
  replace bN := bN.here hc1
  replace bR := bR.here hc1
  clear hc1 hb
  rw [HER.out, HRS.out]
  clear cN0 cN1 cN2 cN3 cN4 lN
  obtain ⟨cN0, cN1, cN2, cN3, cN4⟩ := bN.five
  have lN := bN.lt
  go_wp2_with fail
  have lR := bR.lt
  have HR := Lib.hid bR.drew
  clear bR
  have hcum : Below w1.heap.size w1 w1.drew := (Below.refl w1.heap.size w1).drew
  go_region_held3 (fun w' => w'.cell? ⟨w.heap.size, 3, none⟩ = some (.int .i64 a) ∧ w'.cell? ⟨w.heap.size, 4, none⟩ = some (.int .i64 b))
    (first
      | with_reducible exact ⟨(hcum.cell (p := ⟨w.heap.size, 3, none⟩) lN).trans cN3, (hcum.cell (p := ⟨w.heap.size, 4, none⟩) lN).trans cN4⟩
      | with_reducible exact ⟨((hcum.alloc hcum.size _).cell (p := ⟨w.heap.size, 3, none⟩) lN).trans cN3, ((hcum.alloc hcum.size _).cell (p := ⟨w.heap.size, 4, none⟩) lN).trans cN4⟩
      | with_reducible exact ⟨(cell_sets4 (Nat.ne_of_lt (Nat.lt_succ_self _)) _ _ _ _ ((hcum.cell (p := ⟨w.heap.size, 3, none⟩) lN).trans cN3)), (cell_sets4 (Nat.ne_of_lt (Nat.lt_succ_self _)) _ _ _ _ ((hcum.cell (p := ⟨w.heap.size, 4, none⟩) lN).trans cN4))⟩
      | go_keep)
    (first
      | ((go_at_call 30; refine (rjnumber_any _ _).mono ?_; rintro e v1 ⟨rfl, hq1⟩; replace hcum := hcum.trans (hq1.mono hcum.size); replace HR := Lib.hid (HR.out.here hq1); try replace hIn := hIn.below hq1; clear hq1))
      | ((go_at_call 29; refine (rjlist_any _ _ _ _).mono ?_; rintro e v1 ⟨rfl, hq1⟩; have hIn := ItV.two (ok := fun x => w.heap.size + 1 < x) ((Blk.new _ _ _).here hq1) (Nat.lt_of_lt_of_le lR hcum.size) (ItV.num ha) (ItV.num hb9); replace hcum := (hcum.alloc hcum.size _).trans (hq1.mono (hcum.alloc hcum.size _).size); replace HR := Lib.hid ((HR.out.alloc _).here hq1); clear hq1))
      | ((go_at_call 29; refine (rjlist_any _ _ _ _).mono ?_; rintro e v1 ⟨rfl, hq1⟩; have hOut := ItV.two (ok := fun x => w.heap.size + 1 < x) ((Blk.new _ _ _).here hq1) (Nat.lt_of_lt_of_le lR hcum.size) (ItV.num (n := 2) (by decide)) ((hIn.below (belowA _ _)).below hq1); replace hcum := (hcum.alloc hcum.size _).trans (hq1.mono (hcum.alloc hcum.size _).size); replace HR := Lib.hid ((HR.out.alloc _).here hq1); clear hq1; obtain ⟨cR0, cR1, cR2, cR3⟩ := HR.out.four; have fR0 := HR.out.frozen 0; have fR1 := HR.out.frozen 1; have fR2 := HR.out.frozen 2; have fR3 := HR.out.frozen 3)))
  go_wp2_with fail
  refine bodyPost_ret (res_item2 (HR.out.set4 _ _ _ _) rfl rfl rfl) rfl ⟨MadeI2.done hOut (Nat.le_refl _) (Nat.le_succ _), below_sets4 (hb1.trans (hcum.mono hb1.size)) (Nat.le_succ _) _ _ _ _⟩

theorem rjItem_any (k : Int) (nd sv : ByteArray) (a b : Int) (x : Itm) (u : Int) (hl : layI (nmO k nd sv a b) = (x, u)) (w : World) (hn : nd.size ≤ 4000000000) (hv : sv.size ≤ 4000000000) (ha : I64 a) (hb : I64 b) :
    Calls Tryz.prog 12 #[.agg #[.int .i64 k, .string nd, .string sv, .int .i64 a, .int .i64 b]] w fun e w' => MadeI2 w.heap.size x u e w' ∧ Below w.heap.size w w' := by
  unfold layI at hl
  cases hr : nmR (nmO k nd sv a b) with
  | false =>
    rw [hr] at hl
    obtain ⟨rfl, rfl⟩ := Prod.mk.inj hl
    exact rjItem_no k nd sv a b _ (by unfold erS; rw [hr]; rfl) rfl w hn hv
  | true =>
    rw [hr] at hl
    obtain ⟨rfl, rfl⟩ := Prod.mk.inj hl
    have her : erS (nmO k nd sv a b) = 0 := by unfold erS; rw [hr]; rfl
    have hrs := Nat.le_trans (rs_size (nmO k nd sv a b)) (show 100 ≤ maxLen by unfold maxLen; omega)
    rcases nmR_cases hr with e | ⟨e, _⟩ | ⟨A, B, e, _⟩
    · obtain rfl : k = 0 := congrArg Nm.k e
      rw [e]
      exact rjItem_none nd sv a b _ her rfl w hn hv
    · obtain rfl : k = 1 := e
      have h := rjItem_dtn nd sv a b _ her rfl hrs w hn hv
      have e1 : itmN (nmO 1 nd sv a b) = lstI [numI 1, txtI (hlv (nmO 1 nd sv a b)).2] := rfl
      have e2 : (rsS (nmO 1 nd sv a b)).data.toList = (hlv (nmO 1 nd sv a b)).2 := by unfold rsS; rw [if_pos hr]
      rw [e2] at h
      rw [e1]
      exact h
    · obtain rfl : k = 2 := congrArg Nm.k e
      exact rjItem_ipn nd sv a b _ her rfl w hn hv (i64_wf ha) (i64_wf hb)

end Go.Proofs.YtmbmolgkccjedaaGreatDoor
