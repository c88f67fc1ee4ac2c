/- Numbers of two texts, one behind the other, are those of the first one and those of the second one: the walk of SdnvJoins. -/
import Derived.Test.YtajeanmmelldnaaDoorSCodes
import Derived.Laws.AppendOwnNone
set_option linter.unusedVariables false
set_option linter.unusedSimpArgs false
namespace Go.Proofs.YtajeanmmelldnaaDoor
open Go.RowKit

set_option maxRecDepth 100000 in
set_option maxHeartbeats 8000000 in
theorem joins_bad1 (s t q r : ByteArray) (k : Int) (w : World) (hG : EnvE w) (hs : s.size ≤ maxLen) (ht : t.size ≤ maxLen) (hq : s.extract 0 (min s.size 100) = q) (hql : q.size ≤ 100) (hr : t.extract 0 (min t.size 100) = r) (hrl : r.size ≤ 100)
    (hA : allL q.data.toList = .error k) :
    Calls Tryd.prog 8 #[.string s, .string t] w fun e w' => e = .returned (.bool true) ∧ Below w.heap.size w w' := by
  have Q := Lib.hid hq
  have HRR := Lib.hid hr
  have hk := allL_err hA
  have hk' : (k != 0) = true := by simpa using hk
  have HA := Lib.hid hA
  clear hq hr hA
  go_enter Tryd.func8, Tryd.ntmps8
  go_wp2_with fail
  refine (shown_any _ hG).mono ?_
  rintro e w1 ⟨rfl, hb1⟩
  have hG1 := hG.below hb1
  go_wp2_with fail
  refine (lawCut_any s _ hs).mono ?_
  rintro e w' ⟨rfl, rfl⟩
  rw [Q.out]
  go_wp2_with fail
  refine (lawCut_any t _ ht).mono ?_
  rintro e w' ⟨rfl, rfl⟩
  rw [HRR.out]
  go_wp2_with fail
  refine (all_any _ _ hG1 (by omega)).mono ?_
  rintro e w2 ⟨⟨k', ha, rfl⟩ | ⟨ms, B, ha, hB, rfl⟩, hb2⟩
  case inr => exact absurd (HA.out.symm.trans ha) (fun h => by cases h)
  obtain rfl : k = k' := by rw [HA.out] at ha; injection ha
  have hG2 := hG1.below hb2
  replace hb2 := hb1.trans (hb2.mono hb1.size)
  clear ha
  go_wp2_with fail
  refine (all_any _ _ hG2 (by omega)).mono ?_
  rintro e w3 ⟨⟨k3, ha, rfl⟩ | ⟨ms, B, ha, hB, rfl⟩, hb3⟩
  all_goals
    have hG3 := hG2.below hb3
    replace hb3 := hb2.trans (hb3.mono hb2.size)
    clear ha
    go_wp2_with fail
    refine (all_any _ _ hG3 (by simp only [ByteArray.size_append]; omega)).mono ?_
    rintro e w4 ⟨⟨k4, ha, rfl⟩ | ⟨ms, B, ha, hB, rfl⟩, hb4⟩
  all_goals
    replace hb4 := hb3.trans (hb4.mono hb3.size)
    have HB := Lib.hid hb4
    clear ha hb1 hb2 hb3 hb4 hG1 hG2 hG3
    go_wp2
    all_goals
      go_ret
      first | exact ⟨rfl, HB.out⟩ | exact ⟨by simp, HB.out⟩

set_option maxRecDepth 100000 in
set_option maxHeartbeats 8000000 in
theorem joins_bad2 (s t q r : ByteArray) (ns : List Nat) (k : Int) (w : World) (hG : EnvE w) (hs : s.size ≤ maxLen) (ht : t.size ≤ maxLen) (hq : s.extract 0 (min s.size 100) = q) (hql : q.size ≤ 100) (hr : t.extract 0 (min t.size 100) = r) (hrl : r.size ≤ 100)
    (hA : allL q.data.toList = .ok ns) (hBB : allL r.data.toList = .error k) :
    Calls Tryd.prog 8 #[.string s, .string t] w fun e w' => e = .returned (.bool true) ∧ Below w.heap.size w w' := by
  have Q := Lib.hid hq
  have HRR := Lib.hid hr
  have hk := allL_err hBB
  have hk' : (k != 0) = true := by simpa using hk
  have hkk : (k == k) = true := by simp
  have HC := Lib.hid (show allL (q ++ r).data.toList = .error k by rw [ByteArray.data_append, Array.toList_append, allL_app hA, hBB]; rfl)
  have HA := Lib.hid hA
  have HBB := Lib.hid hBB
  clear hq hr hA hBB
  go_enter Tryd.func8, Tryd.ntmps8
  go_wp2_with fail
  refine (shown_any _ hG).mono ?_
  rintro e w1 ⟨rfl, hb1⟩
  have hG1 := hG.below hb1
  go_wp2_with fail
  refine (lawCut_any s _ hs).mono ?_
  rintro e w' ⟨rfl, rfl⟩
  rw [Q.out]
  go_wp2_with fail
  refine (lawCut_any t _ ht).mono ?_
  rintro e w' ⟨rfl, rfl⟩
  rw [HRR.out]
  go_wp2_with fail
  refine (all_any _ _ hG1 (by omega)).mono ?_
  rintro e w2 ⟨⟨k', ha, rfl⟩ | ⟨ms, B, ha, hB, rfl⟩, hb2⟩
  case inl => exact absurd (HA.out.symm.trans ha) (fun h => by cases h)
  have hG2 := hG1.below hb2
  replace hb2 := hb1.trans (hb2.mono hb1.size)
  clear ha hB
  go_wp2_with fail
  refine (all_any _ _ hG2 (by omega)).mono ?_
  rintro e w3 ⟨⟨k3, ha, rfl⟩ | ⟨ms, B, ha, hB, rfl⟩, hb3⟩
  case inr => exact absurd (HBB.out.symm.trans ha) (fun h => by cases h)
  obtain rfl : k = k3 := by rw [HBB.out] at ha; injection ha
  have hG3 := hG2.below hb3
  replace hb3 := hb2.trans (hb3.mono hb2.size)
  clear ha
  go_wp2_with fail
  refine (all_any _ _ hG3 (by simp only [ByteArray.size_append]; omega)).mono ?_
  rintro e w4 ⟨⟨k4, ha, rfl⟩ | ⟨ms, B, ha, hB, rfl⟩, hb4⟩
  case inr => exact absurd (HC.out.symm.trans ha) (fun h => by cases h)
  obtain rfl : k = k4 := by rw [HC.out] at ha; injection ha
  replace hb4 := hb3.trans (hb4.mono hb3.size)
  have HB := Lib.hid hb4
  clear ha hb1 hb2 hb3 hb4 hG1 hG2 hG3
  go_wp2
  all_goals
    go_ret
    first | exact ⟨rfl, HB.out⟩ | exact ⟨by simp, HB.out⟩

/-- Numbers' cells, as they are read. -/
theorem reads_iv {w : World} {ad : Addr} {ns : List Nat} (h : IntsRd w (some ad) (ns.map fun n : Nat => (n : Int))) : ∀ j u, (ns.map iv)[j]? = some u → w.cell? (ad.add j) = some u := by
  intro j u hu
  rw [List.getElem?_map] at hu
  cases hn : ns[j]? with
  | none => rw [hn] at hu; cases hu
  | some n =>
    rw [hn] at hu
    have : iv n = u := by simpa using hu
    subst this
    obtain ⟨ad', e, hc⟩ := h j (n : Int) (by rw [List.getElem?_map, hn]; rfl)
    obtain rfl : ad = ad' := by injection e
    exact hc
theorem iv_one (ns : List Nat) : ∀ u ∈ ns.map iv, u.oneCell' = true := by
  intro u hu
  obtain ⟨n, _, rfl⟩ := List.mem_map.1 hu
  rfl
theorem reads_none {w : World} {ns : List Nat} (h : IntsRd w none (ns.map fun n : Nat => (n : Int))) : ns = [] := by
  rcases ns with _ | ⟨n, r⟩
  · rfl
  · obtain ⟨ad, e, _⟩ := h 0 (n : Int) rfl
    cases e

/-- append, upon a row of one's own, of numbers that are read. -/
theorem wpList_append_rd {P : Program} {w : World} {ops : Array Oper} {rest : List Oper} {o : Oper} {a : Act} {Q : Exit → Act → World → Prop} (hgd : o.guard = none) (s x : Operand) (t : TypeId)
    (ho : o.op = .call { callee := .builtin .append, args := #[s, x], argTypes := #[t, t] })
    (base : Nat) (e : TypeId) (i : TypeInfo) (ht : P.underlying t = some (.slice e)) (hi : P.info? e = some i) (hz : i.zero = some (.int .i64 0)) (hsize : i.size = 1) (hby : i.bytes = 8)
    (v : Value) (n : Nat) (xs : List Value) (hs : a.eval s = v) (hown : w.ownsRow base e 1 v n xs)
    (A : Option Addr) (ms : List Nat) (hx : a.eval x = .slice A ms.length ms.length) (hr : IntsRd w A (ms.map fun n : Nat => (n : Int))) (hn : n + ms.length ≤ 1000) (hbase : base ≤ w.heap.size)
    (h : ∀ v' w', w'.ownsRow base e 1 v' (n + ms.length) (xs ++ ms.map iv) → w.grownBy w' v.ownBlock → wpList P ops Q rest (a.put o.dst v') w') : wpList P ops Q (o :: rest) a w := by
  rcases A with _ | ad
  · obtain rfl := reads_none hr
    refine wpList_append_own_none hgd s x t ho base e i 1 ht hi v n xs hs hown hx ?_
    exact h v w (by simpa using hown) (World.grownBy.refl w _)
  · exact wpList_append_own w hgd s x t ho base e i (.int .i64 0) 1 8 ht hi hz hsize hby rfl (by decide) v n xs hs hown ad ms.length ms.length (ms.map iv) hx (by simp) (reads_iv hr) (iv_one ms) (by unfold maxLen; omega) (by omega) hbase (fun v' w' h1 h2 _ => h v' w' h1 h2)

set_option maxRecDepth 100000 in
set_option maxHeartbeats 400000 in
theorem joins_ok (s t q r : ByteArray) (ns ms : List Nat) (w : World) (hG : EnvE w) (hs : s.size ≤ maxLen) (ht : t.size ≤ maxLen) (hq : s.extract 0 (min s.size 100) = q) (hql : q.size ≤ 100) (hr : t.extract 0 (min t.size 100) = r) (hrl : r.size ≤ 100)
    (hA : allL q.data.toList = .ok ns) (hBB : allL r.data.toList = .ok ms) :
    Calls Tryd.prog 8 #[.string s, .string t] w fun e w' => e = .returned (.bool true) ∧ Below w.heap.size w w' := by
  obtain ⟨i0, hi, hz0, hz1, hz2⟩ := info_parts i64_info
  have Q := Lib.hid hq
  have HRR := Lib.hid hr
  have hnl : ns.length ≤ 100 := by have := (allL_back _ _ (Nat.le_refl _) ns hA).2.2; simp at this; omega
  have hml : ms.length ≤ 100 := by have := (allL_back _ _ (Nat.le_refl _) ms hBB).2.2; simp at this; omega
  have HC := Lib.hid (show allL (q ++ r).data.toList = .ok (ns ++ ms) by rw [ByteArray.data_append, Array.toList_append, allL_app hA, hBB]; rfl)
  have HA := Lib.hid hA
  have HBB := Lib.hid hBB
  clear hq hr hA hBB
  go_enter Tryd.func8, Tryd.ntmps8
  go_wp2_with fail
  refine (shown_any _ hG).mono ?_
  rintro e w1 ⟨rfl, hb1⟩
  have hG1 := hG.below hb1
  go_wp2_with fail
  refine (lawCut_any s _ hs).mono ?_
  rintro e w' ⟨rfl, rfl⟩
  rw [Q.out]
  go_wp2_with fail
  refine (lawCut_any t _ ht).mono ?_
  rintro e w' ⟨rfl, rfl⟩
  rw [HRR.out]
  go_wp2_with fail
  refine (all_any _ _ hG1 (by omega)).mono ?_
  rintro e w2 ⟨⟨k', ha, rfl⟩ | ⟨ns', A, ha, hrA, rfl⟩, hb2⟩
  case inl => exact absurd (HA.out.symm.trans ha) (fun h => by cases h)
  obtain rfl : ns = ns' := by rw [HA.out] at ha; injection ha
  have hG2 := hG1.below hb2
  replace hb2 := hb1.trans (hb2.mono hb1.size)
  have HrA := Lib.hid hrA
  clear ha hrA
  go_wp2_with fail
  refine (all_any _ _ hG2 (by omega)).mono ?_
  rintro e w3 ⟨⟨k3, ha, rfl⟩ | ⟨ms', B, ha, hrB, rfl⟩, hb3⟩
  case inl => exact absurd (HBB.out.symm.trans ha) (fun h => by cases h)
  obtain rfl : ms = ms' := by rw [HBB.out] at ha; injection ha
  have hG3 := hG2.below hb3
  have HrA3 := Lib.hid (HrA.out.below hb3)
  replace hb3 := hb2.trans (hb3.mono hb2.size)
  have HrB := Lib.hid hrB
  clear ha hrB
  go_wp2_with fail
  refine (all_any _ _ hG3 (by simp only [ByteArray.size_append]; omega)).mono ?_
  rintro e w4 ⟨⟨k4, ha, rfl⟩ | ⟨os, C, ha, hrC, rfl⟩, hb4⟩
  case inl => exact absurd (HC.out.symm.trans ha) (fun h => by cases h)
  have hos : ns ++ ms = os := by rw [HC.out] at ha; injection ha
  have HrA4 := Lib.hid (HrA3.out.below hb4)
  have HrB4 := Lib.hid (HrB.out.below hb4)
  have HrC := Lib.hid hrC
  replace hb4 := hb3.trans (hb4.mono hb3.size)
  have HB := Lib.hid hb4
  have hol : os.length = ns.length + ms.length := by rw [← hos]; exact List.length_append
  have hom : os.map iv = ns.map iv ++ ms.map iv := by rw [← hos]; exact List.map_append
  have HOL := Lib.hid hol
  have HOM := Lib.hid hom
  have hol2 : os.length ≤ 200 := by omega
  have hz := hb4.size
  clear ha hrC hb1 hb2 hb3 hb4 hG1 hG2 hG3 HrA HrA3 HrB hol hom hos HC
  have HI := Lib.hid (intsB_self (os.map fun n : Nat => (n : Int)))
  -- what the two appends make
  have fin : ∀ (v : Value) (w6 : World), w6.ownsRow w4.heap.size 3 1 v (ns.length + ms.length) (ns.map iv ++ ms.map iv) → Below w4.heap.size w4 w6 → ∃ D c, v = .slice D os.length c ∧ Calls Tryd.prog 24 #[.slice C os.length os.length, .slice D os.length c] w6 fun e w' => e = .returned (.bool true) ∧ Below w6.heap.size w6 w' := by
    intro v w6 hown hb
    rw [← HOL.out, ← HOM.out] at hown
    obtain ⟨D, c, rfl⟩ : ∃ D c, v = .slice D os.length c := by
      rcases hown.2 with ⟨rfl, h0⟩ | ⟨g, cap, cur, rfl, _⟩
      · exact ⟨none, 0, by rw [h0]⟩
      · exact ⟨_, _, rfl⟩
    refine ⟨D, c, rfl, ?_⟩
    have h := ints_any (os.map fun n : Nat => (n : Int)) (os.map fun n : Nat => (n : Int)) C D os.length c w6 (by rw [List.length_map]; omega) (by rw [List.length_map]; omega) (HrC.out.below hb) (own_reads hown)
    rw [HI.out, List.length_map] at h
    exact h
  have FIN := Lib.hid fin
  clear fin HI HOL HOM HrC
  have h0 : w4.ownsRow w4.heap.size 3 1 (.slice none 0 0) 0 [] := World.ownsRow_nil _ _ _ _
  have H0 := Lib.hid h0
  clear h0
  go_wp2_with (at_builtin; refine wpList_append_rd rfl _ _ 32 rfl w4.heap.size 3 i0 Tryd.underlying32 hi hz0 hz1 hz2 _ _ _ rfl H0.out A ns rfl HrA4.out (by omega) (Nat.le_refl _) ?_)
  intro v5 w5 hown5 hg5
  have hb5 : Below w4.heap.size w4 w5 := (Below.refl _ _).grown hg5 (Nat.le_refl _) (fun g e => by cases e)
  have HO5 := Lib.hid hown5
  have HB5 := Lib.hid hb5
  have hz5 := hb5.size
  have HV5 := Lib.hid (fun g e => (hown5.lt g e).1)
  clear hown5 hg5 hb5 H0
  go_wp2_with (at_builtin; refine wpList_append_rd rfl _ _ 32 rfl w4.heap.size 3 i0 Tryd.underlying32 hi hz0 hz1 hz2 _ _ _ rfl HO5.out B ms rfl (HrB4.out.below HB5.out) (by omega) hz5 ?_)
  intro v6 w6 hown6 hg6
  have hb6 : Below w4.heap.size w4 w6 := HB5.out.grown hg6 hz5 HV5.out
  obtain ⟨D, c6, rfl, hcalls⟩ := FIN.out v6 w6 hown6 hb6
  have HCL := Lib.hid hcalls
  have HB6 := Lib.hid hb6
  clear hown6 hg6 hb6 hcalls HO5 HB5 HV5 FIN
  go_wp2_with fail
  refine HCL.out.mono ?_
  rintro e w7 ⟨rfl, hb7⟩
  have HB7 := Lib.hid hb7
  clear hb7
  go_wp2
  go_ret
  exact ⟨rfl, HB.out.trans ((HB6.out.trans (HB7.out.mono HB6.out.size)).mono HB.out.size)⟩

theorem joins_walk (s t : ByteArray) (w : World) (hG : EnvE w) (hs : s.size ≤ maxLen) (ht : t.size ≤ maxLen) :
    Calls Tryd.prog 8 #[.string s, .string t] w fun e w' => e = .returned (.bool true) ∧ Below w.heap.size w w' := by
  cases h : allL (s.extract 0 (min s.size 100)).data.toList with
  | error k => exact joins_bad1 s t _ _ k w hG hs ht rfl (cut_le s) rfl (cut_le t) h
  | ok ns =>
    cases h' : allL (t.extract 0 (min t.size 100)).data.toList with
    | error k => exact joins_bad2 s t _ _ ns k w hG hs ht rfl (cut_le s) rfl (cut_le t) h h'
    | ok ms => exact joins_ok s t _ _ ns ms w hG hs ht rfl (cut_le s) rfl (cut_le t) h h'
end Go.Proofs.YtajeanmmelldnaaDoor
