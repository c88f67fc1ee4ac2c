/- What the statements of package 17 say of frames as data: rows of frames with something behind them, cut, hurt. -/
import Derived.Test.YtdlkmdjhjdpmeaaGreatDoorFLaw
set_option linter.unusedVariables false
set_option linter.unusedSimpArgs false
namespace Go.Proofs.YtdlkmdjhjdpmeaaGreatDoor
open Go.RowKit

theorem rcs_mem {l : List Rc} (h : rcsB l = true) : ∀ r ∈ l, rcB r = true := by
  unfold rcsB at h; exact List.all_eq_true.1 h
theorem rcs_of {l : List Rc} (h : ∀ r ∈ l, rcB r = true) : rcsB l = true := by
  unfold rcsB; exact List.all_eq_true.2 h
theorem rcs_app (l m : List Rc) : rcsB (l ++ m) = (rcsB l && rcsB m) := by unfold rcsB; exact List.all_append
theorem ba_len (s : ByteArray) : s.data.toList.length = s.size := by rw [Array.length_toList]; rfl
theorem fr_head (r : Rc) : ∃ t, frL r = 225 :: t := by
  unfold frL smL
  exact ⟨_, rfl⟩
/-- Frames, with something behind them that begins with another byte than e1. -/
theorem scan_laid {s : ByteArray} {l : List Rc} {rest : List UInt8} (hl : rcsB l = true) (hs : s.data.toList = layL l ++ rest) (hr : rest.head? ≠ some 225) : ScanOf s l (layL l).length := by
  have hn : (layL l).length ≤ s.size := by
    rw [← ba_len s, hs, List.length_append]; omega
  refine ⟨⟨rcs_mem hl, by rw [hs, List.take_left'] ; rfl, hn⟩, decO_none.2 ?_⟩
  rintro r ⟨_, _, h⟩
  rw [Int.toNat_natCast, hs, List.drop_left' rfl] at h
  obtain ⟨t, ht⟩ := fr_head r
  rw [ht] at h
  obtain ⟨q, hq⟩ := h
  exact hr (by rw [← hq]; rfl)
/-- What is scanned has these frames. -/
theorem scan_lay {s : ByteArray} {l : List Rc} {n : Nat} (h : ScanOf s l n) : layRv l = (s.extract 0 n, 0) ∧ n ≤ s.size ∧ (s.extract 0 n).size = n := by
  obtain ⟨⟨h1, h2, h3⟩, _⟩ := h
  refine ⟨?_, h3, by rw [ByteArray.size_extract]; omega⟩
  unfold layRv
  rw [if_pos (rcs_of h1)]
  congr 1
  apply ba_eq
  show (layL l).toArray.toList = _
  rw [List.toList_toArray, h2]
  simp [ByteArray.extract, ByteArray.copySlice]
/-- Frames that are cut. -/
theorem scan_cut {s : ByteArray} {l : List Rc} {k c n : Nat} (hl : rcsB l = true) (hc : c ≤ (layL l).length) (hs : s.data.toList = (layL l).take c) (hn : (layL (l.take k)).length = n) (h1 : n ≤ c) (h2 : ∀ x, l[k]? = some x → c < n + 14 + x.data.size) : ScanOf s (l.take k) n := by
  have hsp : layL l = layL (l.take k) ++ layL (l.drop k) := by rw [← layL_append, List.take_append_drop]
  have hsz : s.size = c := by rw [← ba_len, hs, List.length_take]; omega
  refine ⟨⟨fun r hr => rcs_mem hl r (List.mem_of_mem_take hr), ?_, by omega⟩, decO_none.2 ?_⟩
  · rw [hs, List.take_take, Nat.min_eq_left h1, hsp, List.take_left' hn]
  rintro r ⟨_, hr, h⟩
  rw [Int.toNat_natCast, hs, List.drop_take, hsp, List.drop_left' hn] at h
  have hlen := h.length_le
  rw [frL_length, List.length_take] at hlen
  have h' := h.trans (List.take_prefix _ _)
  rcases hd : l.drop k with _ | ⟨x, t⟩
  · rw [hd, layL_nil] at hlen
    simp at hlen
  · have hx : l[k]? = some x := by rw [← List.head?_drop, hd]; rfl
    have hxr : rcB x = true := rcs_mem hl x (List.mem_of_getElem? hx)
    rw [hd, layL_cons] at h'
    have g1 : FrAt ⟨(frL x ++ layL t).toArray⟩ 0 r := ⟨Int.le_refl 0, hr, by simpa using h'⟩
    have g2 : FrAt ⟨(frL x ++ layL t).toArray⟩ 0 x := ⟨Int.le_refl 0, hxr, by simp⟩
    have e := g1.one g2
    subst e
    have := h2 r hx
    omega
theorem at_other {p q : List UInt8} {x y : UInt8} {j : Nat} (h : j ≠ p.length) : (p ++ x :: q)[j]? = (p ++ y :: q)[j]? := by
  by_cases h1 : j < p.length
  · rw [List.getElem?_append_left h1, List.getElem?_append_left h1]
  · rw [List.getElem?_append_right (by omega), List.getElem?_append_right (by omega)]
    obtain ⟨i, hi⟩ : ∃ i, j - p.length = i + 1 := ⟨j - p.length - 1, by omega⟩
    rw [hi]; rfl
theorem fr_size_at (r : Rc) (j : Nat) (hj : j < 2) : (frL r)[8 + j]? = (beL r.data.size 2)[j]? := by
  have e : frL r = (beL 225 1 ++ beL r.op.toNat 1 ++ beL r.id.toNat 6) ++ (beL r.data.size 2 ++ (r.data.data.toList ++ beL (c32 (smL r)) 4)) := by
    unfold frL smL; simp only [List.append_assoc]
  rw [e, List.getElem?_append_right (by simp only [List.length_append, beL_length]; omega)]
  simp only [List.length_append, beL_length]
  rw [show 8 + j - (1 + 1 + 6) = j by omega, List.getElem?_append_left (by rw [beL_length]; exact hj)]
/-- A frame of which one byte is another one. -/
theorem hurt_none {r : Rc} (hr : rcB r = true) {t : ByteArray} {x y : UInt8} {p q : List UInt8} (hp : frL r = p ++ x :: q) (ht : t.data.toList = p ++ y :: q) (hxy : x ≠ y) (h8 : p.length ≠ 8) (h9 : p.length ≠ 9) : decO t 0 = none := by
  refine decO_none.2 ?_
  rintro z ⟨_, hz, h⟩
  rw [show (0 : Int).toNat = 0 from rfl, List.drop_zero, ht] at h
  obtain ⟨_, _, _, _, _, _, _, hs1⟩ := rcB_iff.1 hr
  obtain ⟨_, _, _, _, _, _, _, hs2⟩ := rcB_iff.1 hz
  have hlp := congrArg List.length hp
  rw [frL_length] at hlp
  have hsz : z.data.size = r.data.size := by
    have hl : ∀ j, j < 2 → (beL z.data.size 2)[j]? = (beL r.data.size 2)[j]? := fun j hj => by
      rw [← fr_size_at z j hj, ← fr_size_at r j hj, hp, at_other (y := y) (by omega)]
      obtain ⟨u, hu⟩ := h
      rw [← hu, List.getElem?_append_left (by rw [frL_length]; omega)]
    have h2 : beL z.data.size 2 = beL r.data.size 2 := by
      apply List.ext_getElem?
      intro j
      by_cases hj : j < 2
      · exact hl j hj
      · rw [List.getElem?_eq_none (by rw [beL_length]; omega), List.getElem?_eq_none (by rw [beL_length]; omega)]
    exact beL_inj (by rw [pow2]; omega) (by rw [pow2]; omega) h2
  have hz2 : frL z = p ++ y :: q := h.eq_of_length (by
    rw [frL_length, hsz]
    rw [List.length_append, List.length_cons] at hlp ⊢
    exact hlp)
  have k1 := smL_length r
  have k2 := smL_length z
  rw [hsz] at k2
  have c1 := c32_lt (smL r)
  have c2 := c32_lt (smL z)
  have e1 : smL r ++ beL (c32 (smL r)) 4 = p ++ x :: q := hp
  have e2 : smL z ++ beL (c32 (smL z)) 4 = p ++ y :: q := hz2
  by_cases hk : p.length < 10 + r.data.size
  · obtain ⟨m, hm⟩ : ∃ m, 10 + r.data.size = p.length + (m + 1) := ⟨10 + r.data.size - p.length - 1, by omega⟩
    have f1 : smL r = p ++ ([x] ++ q.take m) := by
      have := congrArg (List.take (10 + r.data.size)) e1
      rw [List.take_left' k1, hm, List.take_append, List.take_of_length_le (by omega), show p.length + (m + 1) - p.length = m + 1 by omega] at this
      exact this
    have f2 : smL z = p ++ ([y] ++ q.take m) := by
      have := congrArg (List.take (10 + r.data.size)) e2
      rw [List.take_left' k2, hm, List.take_append, List.take_of_length_le (by omega), show p.length + (m + 1) - p.length = m + 1 by omega] at this
      exact this
    have g1 := congrArg (List.drop (10 + r.data.size)) e1
    have g2 := congrArg (List.drop (10 + r.data.size)) e2
    rw [List.drop_left' k1, hm, List.drop_append, show p.length + (m + 1) - p.length = m + 1 by omega, List.drop_eq_nil_of_le (by omega)] at g1
    rw [List.drop_left' k2, hm, List.drop_append, show p.length + (m + 1) - p.length = m + 1 by omega, List.drop_eq_nil_of_le (by omega)] at g2
    have g : beL (c32 (smL r)) 4 = beL (c32 (smL z)) 4 := g1.trans g2.symm
    have hc := beL_inj (by omega) (by omega) g
    rw [f1, f2] at hc
    have := (sumT_burst (p := 2197175160) (w := 31) (by decide) (by decide) (by decide) (a := p) (b := q.take m) (s := [x]) (t := [y]) rfl (by simp)).1 hc
    exact hxy (List.cons.inj this).1
  · have f1 := congrArg (List.take (10 + r.data.size)) e1
    have f2 := congrArg (List.take (10 + r.data.size)) e2
    rw [List.take_left' k1, List.take_append_of_le_length (by omega)] at f1
    rw [List.take_left' k2, List.take_append_of_le_length (by omega)] at f2
    rw [f2.trans f1.symm] at e2
    have := List.append_cancel_left (e1.symm.trans e2)
    exact hxy (List.cons.inj this).1
theorem hurt_dec {r : Rc} (hr : rcB r = true) {t : ByteArray} {x y : UInt8} {p q : List UInt8} (hp : frL r = p ++ x :: q) (ht : t.data.toList = p ++ y :: q) (hxy : x ≠ y) (h8 : p.length ≠ 8) (h9 : p.length ≠ 9) : decR t 0 = (zeroRc, 0, false) := decR_none (hurt_none hr hp ht hxy h8 h9)
end Go.Proofs.YtdlkmdjhjdpmeaaGreatDoor

/- The walk of FrameScans. -/
set_option linter.unusedVariables false
set_option linter.unusedSimpArgs false
namespace Go.Proofs.YtdlkmdjhjdpmeaaGreatDoor
open Go.RowKit

theorem ba_beq {a b : ByteArray} (h : a = b) : (a.toList == b.toList) = true := by rw [h]; exact beq_self_eq_true _

set_option maxRecDepth 100000 in
set_option maxHeartbeats 4000000 in
theorem frameScans_walk (l : List Rc) (A : Option Addr) (c : Nat) (s : ByteArray) (w : World) (hE : FrOK w) (hl : RcsIn w A l) (hll : l.length ≤ maxLen) (hS : s.size ≤ maxLen) :
    Calls Tryz.prog 4 #[.slice A l.length c, .string s] w fun e w' => e = .returned (.bool true) ∧ Below w.heap.size w w' := by
  have HL := Lib.hid hl
  clear hl
  go_enter Tryz.func4, Tryz.ntmps4
  go_wp2_with fail
  refine (fshown_any _ hE).mono ?_
  rintro e w0 ⟨rfl, hb0⟩
  go_wp2_with fail
  refine (flcuts_any l A c _ hll (HL.out.below hb0)).mono ?_
  rintro e w1 ⟨v, rfl, hv, hb1⟩
  have HF := Lib.hid (cutsC_fit l)
  have hle : (cutsC l).length ≤ 10 := cutsC_len l
  have hle2 : (cutsC l).length ≤ 1000000 := by omega
  have hle4 : (cutsC l).length ≤ 400 := by omega
  have hb1' := hb0.trans (hb1.mono hb0.size)
  have hE1 := hE.below hb1'
  generalize cutsC l = q at *
  have HV := Lib.hid hv
  clear hb0 hb1 hv HL
  go_wp2_with fail
  refine (flcut_any s _ hS).mono ?_
  rintro e w1' ⟨rfl, rfl⟩
  have hT : (cutT s).size ≤ 1000000 := Nat.le_trans (cutT_size s) (by omega)
  generalize cutT s = T at *
  go_wp2_with fail
  refine (flays_any _ v q _ hE1 HV.out (Nat.le_refl _) HF.out hle2).mono ?_
  rintro e w2 ⟨rfl, hb2⟩
  have hb2' := hb1'.trans (hb2.mono hb1'.size)
  have hE2 := hE1.below hb2
  have HV2 := Lib.hid (HV.out.below hb2)
  obtain ⟨P, E0, hP⟩ : ∃ P e0, layRv q = (P, e0) := ⟨_, _, rfl⟩
  obtain ⟨Q, hQ⟩ : ∃ Q, layRv q = (Q, E0) := ⟨_, hP⟩
  have hPQ : (P.toList == Q.toList) = true := ba_beq (Prod.mk.inj (hP.symm.trans hQ)).1
  have HQ := Lib.hid hQ
  rw [hP]
  clear hP hQ hb1' hb2 hE1 HV
  go_wp2_with fail
  refine (rlay_any17 _ v q _ HV2.out HF.out hle4).mono ?_
  rintro e w3 ⟨rfl, hb3⟩
  rw [HQ.out]
  have hb3' := hb2'.trans (hb3.mono hb2'.size)
  have hE3 := hE2.below hb3
  clear HQ hb2' hb3 hE2 HV2
  go_wp2_with fail
  refine (scan_any T _ hE3 hT).mono ?_
  rintro e w4 ⟨m, n, v4, hs, rfl, hv4, hb4⟩
  have hb4' := hb3'.trans (hb4.mono hb3'.size)
  have HV4 := Lib.hid hv4
  have HS := Lib.hid hs
  clear hs hv4 hb4 hb3' hE3
  go_wp2_with fail
  refine (rscan_any T _ hT).mono ?_
  rintro e w5 ⟨m', n', v5, hs', rfl, hv5, hb5⟩
  obtain ⟨rfl, rfl⟩ := HS.out.one hs'
  have hml : m.length ≤ 1000000 := by
    have h1 := HS.out.1.len
    have h2 := HS.out.1.2.2
    have h3 := lay_le m
    omega
  have hb5' := hb4'.trans (hb5.mono hb4'.size)
  have HV5 := Lib.hid hv5
  have HV4' := Lib.hid (HV4.out.below hb5)
  clear hs' hv5 HV4 hb5 hb4' HS
  go_wp2_with fail
  refine (rsame_any _ _ v4 v5 m m _ HV4'.out HV5.out hml hml).mono ?_
  rintro e w6 ⟨rfl, hb6⟩
  rw [sameR_self]
  go_wp2_with fail
  go_ret
  exact ⟨rfl, hb5'.trans (hb6.mono hb5'.size)⟩
end Go.Proofs.YtdlkmdjhjdpmeaaGreatDoor

/- The walk of FrameBack. -/
set_option linter.unusedVariables false
set_option linter.unusedSimpArgs false
namespace Go.Proofs.YtdlkmdjhjdpmeaaGreatDoor
open Go.RowKit

theorem layRv_ways (q : List Rc) : (rcsB q = true ∧ layRv q = (⟨(layL q).toArray⟩, 0)) ∨ (rcsB q = false ∧ layRv q = (⟨#[]⟩, 170)) := by
  unfold layRv
  cases h : rcsB q
  · exact .inr ⟨rfl, rfl⟩
  · exact .inl ⟨rfl, rfl⟩
theorem lay_size (q : List Rc) : (⟨(layL q).toArray⟩ : ByteArray).size = (layL q).length := by simp [ByteArray.size]

set_option maxRecDepth 100000 in
set_option maxHeartbeats 4000000 in
/-- From the text that is put behind the frames on. -/
theorem frameBack_walk (l : List Rc) (A : Option Addr) (c : Nat) (s : ByteArray) (w : World) (hE : FrOK w) (hl : RcsIn w A l) (hll : l.length ≤ maxLen) (hS : s.size ≤ maxLen) :
    Calls Tryz.prog 5 #[.slice A l.length c, .string s] w fun e w' => e = .returned (.bool true) ∧ Below w.heap.size w w' := by
  have HL := Lib.hid hl
  clear hl
  go_enter Tryz.func5, Tryz.ntmps5
  go_wp2_with fail
  refine (fshown_any _ hE).mono ?_
  rintro e w0 ⟨rfl, hb0⟩
  go_wp2_with fail
  refine (flcuts_any l A c _ hll (HL.out.below hb0)).mono ?_
  rintro e w1 ⟨v, rfl, hv, hb1⟩
  have HF := Lib.hid (cutsC_fit l)
  have hle : (cutsC l).length ≤ 10 := cutsC_len l
  have hle2 : (cutsC l).length ≤ 1000000 := by omega
  have hb1' := hb0.trans (hb1.mono hb0.size)
  have hE1 := hE.below hb1'
  generalize cutsC l = q at *
  have HV := Lib.hid hv
  clear hb0 hb1 hv HL
  go_wp2_with fail
  refine (flcut_any s _ hS).mono ?_
  rintro e w1' ⟨rfl, rfl⟩
  have hT3 : (cutT s).size ≤ 3000 := cutT_size s
  have hT : (cutT s).size ≤ 1000000 := by omega
  generalize cutT s = T at *
  go_wp2_with fail
  refine (flays_any _ v q _ hE1 HV.out (Nat.le_refl _) HF.out hle2).mono ?_
  rintro e w2 ⟨rfl, hb2⟩
  have hb2' := hb1'.trans (hb2.mono hb1'.size)
  have hE2 := hE1.below hb2
  have HV2 := Lib.hid (HV.out.below hb2)
  clear hb1' hb2 hE1 HV
  obtain ⟨R, hR, hR3, hRw⟩ : ∃ R : ByteArray, R.data.toList.head? ≠ some 225 ∧ R.size ≤ 3001 ∧ ((T.size = 0 ∧ R = T) ∨ (∃ x : UInt8, 0 < T.size ∧ (∀ w, (Instr.index 9 (.string T) (.int .i64 0)).run Tryz.prog w = .ok (.int .u8 ((x.toNat : Nat) : Int)) w) ∧ (((x.toNat : Int) == 225) = false ∧ R = T ∨ ((x.toNat : Int) == 225) = true ∧ R = ⟨#[0]⟩ ++ T))) := by
    by_cases hz : T.size = 0
    · refine ⟨T, ?_, by omega, .inl ⟨hz, rfl⟩⟩
      have : T.data.toList = [] := List.eq_nil_of_length_eq_zero (by rw [ba_len]; exact hz)
      rw [this]; simp
    · have h0 : 0 < T.size := by omega
      have hix := ix_str T 0 0 rfl h0
      by_cases hx : ((T[0].toNat : Int) == 225) = true
      · refine ⟨⟨#[0]⟩ ++ T, ?_, by rw [ByteArray.size_append]; show 1 + T.size ≤ _; omega, .inr ⟨T[0], h0, hix, .inr ⟨hx, rfl⟩⟩⟩
        rw [ba_app]; simp
      · refine ⟨T, ?_, by omega, .inr ⟨T[0], h0, hix, .inl ⟨by simpa using hx, rfl⟩⟩⟩
        intro he
        apply hx
        have h1 : T.data.toList[0]? = some 225 := by rw [← List.head?_eq_getElem?]; exact he
        have h2 : T.data.toList[0]? = some T[0] := by
          rw [List.getElem?_eq_getElem (by rw [ba_len]; exact h0)]; rfl
        rw [h2] at h1
        have h3 : T[0] = 225 := Option.some.inj h1
        rw [h3]; rfl
  have hP : ∃ (P : ByteArray) (E0 : Int), layRv q = (P, E0) ∧ P.size + R.size ≤ 1000000 ∧ ((E0 = 0 ∧ ScanOf (P ++ R) q P.size) ∨ (E0 = 170 ∧ P = ⟨#[]⟩)) := by
    rcases layRv_ways q with ⟨hq, e⟩ | ⟨hq, e⟩
    · refine ⟨_, _, e, ?_, .inl ⟨rfl, ?_⟩⟩
      · have := layL_le q hq
        rw [lay_size]; omega
      · rw [lay_size]
        exact scan_laid hq (by rw [ba_app]) hR
    · exact ⟨_, _, e, by show 0 + _ ≤ _; omega, .inr ⟨rfl, rfl⟩⟩
  obtain ⟨P, E0, hPe, hPR, hPw⟩ := hP
  rw [hPe]
  have hcat := cat_str P R hPR
  have hPRs : (P ++ R).size ≤ 1000000 := by rw [ByteArray.size_append]; exact hPR
  have HPw := Lib.hid hPw
  clear hPe hPw hR
  have hmk : ∀ w, (Op.stringOp .add ⟨#[0]⟩ T).run Tryz.prog w = .ok (.string (⟨#[0]⟩ ++ T)) w := cat_str _ _ (by show 1 + T.size ≤ _; omega)
  rcases hRw with ⟨hz, hRT⟩ | ⟨x, h0, hix, ⟨hx, hRT⟩ | ⟨hx, hRT⟩⟩
  · have g0 : decide (0 < T.size) = false := decide_eq_false (by omega)
    have g1 : decide (0 < (T.size : Int)) = false := decide_eq_false (by omega)
    clear hmk
    subst hRT
    go_wp2_with fail
    refine (scan_any (P ++ R) _ hE2 hPRs).mono ?_
    rintro e w3 ⟨m, n, v3, hs3, rfl, hv3, hb3⟩
    have hml : m.length ≤ 1000000 := by
      have h1 := hs3.1.len
      have h2 := hs3.1.2.2
      have h3 := lay_le m
      omega
    have hb3' := hb2'.trans (hb3.mono hb2'.size)
    have hE3 := hE2.below hb3
    have HV3 := Lib.hid hv3
    have HQ3 := Lib.hid (HV2.out.below hb3)
    rcases HPw.out with ⟨hE0, hsc⟩ | ⟨hE0, hP0⟩
    · obtain ⟨rfl, rfl⟩ := hs3.one hsc
      subst hE0
      clear hb3 hb2' hE2 HV2 hv3 hs3 hsc HPw hcat
      go_wp2_with fail
      refine (rsame_any _ _ _ _ m m _ HV3.out HQ3.out hml hml).mono ?_
      rintro e w4 ⟨rfl, hb4⟩
      rw [sameR_self]
      have hb4' := hb3'.trans (hb4.mono hb3'.size)
      have hE4 := hE3.below hb4
      clear hb4 hb3' hE3 HV3 HQ3
      go_wp2_with fail
      refine (scan_any _ _ hE4 hT).mono ?_
      rintro e w5 ⟨m5, n5, v5, hs5, rfl, hv5, hb5⟩
      have hml5 : m5.length ≤ 1000000 := by
        have h1 := hs5.1.len
        have h2 := hs5.1.2.2
        have h3 := lay_le m5
        omega
      have hf5 : FitR m5 := fun r hr => by
        obtain ⟨_, _, _, _, _, _, _, hd⟩ := rcB_iff.1 (hs5.1.1 r hr)
        omega
      obtain ⟨hl5, hn5, hz5⟩ := scan_lay hs5
      have HF5 := Lib.hid hf5
      have hb5' := hb4'.trans (hb5.mono hb4'.size)
      have hE5 := hE4.below hb5
      have HV5 := Lib.hid hv5
      clear hb5 hb4' hE4 hs5 hv5 hf5
      go_wp2_with fail
      refine (flays_any _ v5 m5 _ hE5 HV5.out (Nat.le_refl _) HF5.out hml5).mono ?_
      rintro e w6 ⟨rfl, hb6⟩
      rw [hl5]
      have hsl := sl_to _ n5 hn5
      have k1 : decide ((n5 : Int) = ((R.extract 0 n5).size : Int)) = true := decide_eq_true (by omega)
      have k2 : decide ((n5 : Int) ≤ (R.size : Int)) = true := decide_eq_true (by omega)
      have hb6' := hb5'.trans (hb6.mono hb5'.size)
      have k3 : ((n5 : Int) == ((R.extract 0 n5).size : Int)) = true := k1
      clear hb6 hb5' hE5 HV5 HF5 hl5
      go_wp2_with fail
      go_ret
      exact ⟨rfl, hb6'⟩
    · subst hE0
      subst hP0
      clear hb3 hb2' hE2 HV2 hv3 hs3 HPw hcat HV3 HQ3
      go_wp2_with fail
      refine (scan_any _ _ hE3 hT).mono ?_
      rintro e w5 ⟨m5, n5, v5, hs5, rfl, hv5, hb5⟩
      have hml5 : m5.length ≤ 1000000 := by
        have h1 := hs5.1.len
        have h2 := hs5.1.2.2
        have h3 := lay_le m5
        omega
      have hf5 : FitR m5 := fun r hr => by
        obtain ⟨_, _, _, _, _, _, _, hd⟩ := rcB_iff.1 (hs5.1.1 r hr)
        omega
      obtain ⟨hl5, hn5, hz5⟩ := scan_lay hs5
      have HF5 := Lib.hid hf5
      have hb5' := hb3'.trans (hb5.mono hb3'.size)
      have hE5 := hE3.below hb5
      have HV5 := Lib.hid hv5
      clear hb5 hb3' hE3 hs5 hv5 hf5
      go_wp2_with fail
      refine (flays_any _ v5 m5 _ hE5 HV5.out (Nat.le_refl _) HF5.out hml5).mono ?_
      rintro e w6 ⟨rfl, hb6⟩
      rw [hl5]
      have hsl := sl_to _ n5 hn5
      have k1 : decide ((n5 : Int) = ((R.extract 0 n5).size : Int)) = true := decide_eq_true (by omega)
      have k2 : decide ((n5 : Int) ≤ (R.size : Int)) = true := decide_eq_true (by omega)
      have hb6' := hb5'.trans (hb6.mono hb5'.size)
      have k3 : ((n5 : Int) == ((R.extract 0 n5).size : Int)) = true := k1
      clear hb6 hb5' hE5 HV5 HF5 hl5
      go_wp2_with fail
      go_ret
      exact ⟨rfl, hb6'⟩
  · have g0 : decide (0 < T.size) = true := decide_eq_true (by omega)
    have g1 : decide (0 < (T.size : Int)) = true := decide_eq_true (by omega)
    clear hmk
    subst hRT
    go_wp2_with fail
    refine (scan_any (P ++ R) _ hE2 hPRs).mono ?_
    rintro e w3 ⟨m, n, v3, hs3, rfl, hv3, hb3⟩
    have hml : m.length ≤ 1000000 := by
      have h1 := hs3.1.len
      have h2 := hs3.1.2.2
      have h3 := lay_le m
      omega
    have hb3' := hb2'.trans (hb3.mono hb2'.size)
    have hE3 := hE2.below hb3
    have HV3 := Lib.hid hv3
    have HQ3 := Lib.hid (HV2.out.below hb3)
    rcases HPw.out with ⟨hE0, hsc⟩ | ⟨hE0, hP0⟩
    · obtain ⟨rfl, rfl⟩ := hs3.one hsc
      subst hE0
      clear hb3 hb2' hE2 HV2 hv3 hs3 hsc HPw hcat
      go_wp2_with fail
      refine (rsame_any _ _ _ _ m m _ HV3.out HQ3.out hml hml).mono ?_
      rintro e w4 ⟨rfl, hb4⟩
      rw [sameR_self]
      have hb4' := hb3'.trans (hb4.mono hb3'.size)
      have hE4 := hE3.below hb4
      clear hb4 hb3' hE3 HV3 HQ3
      go_wp2_with fail
      refine (scan_any _ _ hE4 hT).mono ?_
      rintro e w5 ⟨m5, n5, v5, hs5, rfl, hv5, hb5⟩
      have hml5 : m5.length ≤ 1000000 := by
        have h1 := hs5.1.len
        have h2 := hs5.1.2.2
        have h3 := lay_le m5
        omega
      have hf5 : FitR m5 := fun r hr => by
        obtain ⟨_, _, _, _, _, _, _, hd⟩ := rcB_iff.1 (hs5.1.1 r hr)
        omega
      obtain ⟨hl5, hn5, hz5⟩ := scan_lay hs5
      have HF5 := Lib.hid hf5
      have hb5' := hb4'.trans (hb5.mono hb4'.size)
      have hE5 := hE4.below hb5
      have HV5 := Lib.hid hv5
      clear hb5 hb4' hE4 hs5 hv5 hf5
      go_wp2_with fail
      refine (flays_any _ v5 m5 _ hE5 HV5.out (Nat.le_refl _) HF5.out hml5).mono ?_
      rintro e w6 ⟨rfl, hb6⟩
      rw [hl5]
      have hsl := sl_to _ n5 hn5
      have k1 : decide ((n5 : Int) = ((R.extract 0 n5).size : Int)) = true := decide_eq_true (by omega)
      have k2 : decide ((n5 : Int) ≤ (R.size : Int)) = true := decide_eq_true (by omega)
      have hb6' := hb5'.trans (hb6.mono hb5'.size)
      have k3 : ((n5 : Int) == ((R.extract 0 n5).size : Int)) = true := k1
      clear hb6 hb5' hE5 HV5 HF5 hl5
      go_wp2_with fail
      go_ret
      exact ⟨rfl, hb6'⟩
    · subst hE0
      subst hP0
      clear hb3 hb2' hE2 HV2 hv3 hs3 HPw hcat HV3 HQ3
      go_wp2_with fail
      refine (scan_any _ _ hE3 hT).mono ?_
      rintro e w5 ⟨m5, n5, v5, hs5, rfl, hv5, hb5⟩
      have hml5 : m5.length ≤ 1000000 := by
        have h1 := hs5.1.len
        have h2 := hs5.1.2.2
        have h3 := lay_le m5
        omega
      have hf5 : FitR m5 := fun r hr => by
        obtain ⟨_, _, _, _, _, _, _, hd⟩ := rcB_iff.1 (hs5.1.1 r hr)
        omega
      obtain ⟨hl5, hn5, hz5⟩ := scan_lay hs5
      have HF5 := Lib.hid hf5
      have hb5' := hb3'.trans (hb5.mono hb3'.size)
      have hE5 := hE3.below hb5
      have HV5 := Lib.hid hv5
      clear hb5 hb3' hE3 hs5 hv5 hf5
      go_wp2_with fail
      refine (flays_any _ v5 m5 _ hE5 HV5.out (Nat.le_refl _) HF5.out hml5).mono ?_
      rintro e w6 ⟨rfl, hb6⟩
      rw [hl5]
      have hsl := sl_to _ n5 hn5
      have k1 : decide ((n5 : Int) = ((R.extract 0 n5).size : Int)) = true := decide_eq_true (by omega)
      have k2 : decide ((n5 : Int) ≤ (R.size : Int)) = true := decide_eq_true (by omega)
      have hb6' := hb5'.trans (hb6.mono hb5'.size)
      have k3 : ((n5 : Int) == ((R.extract 0 n5).size : Int)) = true := k1
      clear hb6 hb5' hE5 HV5 HF5 hl5
      go_wp2_with fail
      go_ret
      exact ⟨rfl, hb6'⟩
  · have g0 : decide (0 < T.size) = true := decide_eq_true (by omega)
    have g1 : decide (0 < (T.size : Int)) = true := decide_eq_true (by omega)
    rw [← hRT] at hmk
    clear hRT
    go_wp2_with fail
    refine (scan_any (P ++ R) _ hE2 hPRs).mono ?_
    rintro e w3 ⟨m, n, v3, hs3, rfl, hv3, hb3⟩
    have hml : m.length ≤ 1000000 := by
      have h1 := hs3.1.len
      have h2 := hs3.1.2.2
      have h3 := lay_le m
      omega
    have hb3' := hb2'.trans (hb3.mono hb2'.size)
    have hE3 := hE2.below hb3
    have HV3 := Lib.hid hv3
    have HQ3 := Lib.hid (HV2.out.below hb3)
    rcases HPw.out with ⟨hE0, hsc⟩ | ⟨hE0, hP0⟩
    · obtain ⟨rfl, rfl⟩ := hs3.one hsc
      subst hE0
      clear hb3 hb2' hE2 HV2 hv3 hs3 hsc HPw hcat
      go_wp2_with fail
      refine (rsame_any _ _ _ _ m m _ HV3.out HQ3.out hml hml).mono ?_
      rintro e w4 ⟨rfl, hb4⟩
      rw [sameR_self]
      have hb4' := hb3'.trans (hb4.mono hb3'.size)
      have hE4 := hE3.below hb4
      clear hb4 hb3' hE3 HV3 HQ3
      go_wp2_with fail
      refine (scan_any _ _ hE4 hT).mono ?_
      rintro e w5 ⟨m5, n5, v5, hs5, rfl, hv5, hb5⟩
      have hml5 : m5.length ≤ 1000000 := by
        have h1 := hs5.1.len
        have h2 := hs5.1.2.2
        have h3 := lay_le m5
        omega
      have hf5 : FitR m5 := fun r hr => by
        obtain ⟨_, _, _, _, _, _, _, hd⟩ := rcB_iff.1 (hs5.1.1 r hr)
        omega
      obtain ⟨hl5, hn5, hz5⟩ := scan_lay hs5
      have HF5 := Lib.hid hf5
      have hb5' := hb4'.trans (hb5.mono hb4'.size)
      have hE5 := hE4.below hb5
      have HV5 := Lib.hid hv5
      clear hb5 hb4' hE4 hs5 hv5 hf5
      go_wp2_with fail
      refine (flays_any _ v5 m5 _ hE5 HV5.out (Nat.le_refl _) HF5.out hml5).mono ?_
      rintro e w6 ⟨rfl, hb6⟩
      rw [hl5]
      have hsl := sl_to _ n5 hn5
      have k1 : decide ((n5 : Int) = ((T.extract 0 n5).size : Int)) = true := decide_eq_true (by omega)
      have k2 : decide ((n5 : Int) ≤ (T.size : Int)) = true := decide_eq_true (by omega)
      have hb6' := hb5'.trans (hb6.mono hb5'.size)
      have k3 : ((n5 : Int) == ((T.extract 0 n5).size : Int)) = true := k1
      clear hb6 hb5' hE5 HV5 HF5 hl5
      go_wp2_with fail
      go_ret
      exact ⟨rfl, hb6'⟩
    · subst hE0
      subst hP0
      clear hb3 hb2' hE2 HV2 hv3 hs3 HPw hcat HV3 HQ3
      go_wp2_with fail
      refine (scan_any _ _ hE3 hT).mono ?_
      rintro e w5 ⟨m5, n5, v5, hs5, rfl, hv5, hb5⟩
      have hml5 : m5.length ≤ 1000000 := by
        have h1 := hs5.1.len
        have h2 := hs5.1.2.2
        have h3 := lay_le m5
        omega
      have hf5 : FitR m5 := fun r hr => by
        obtain ⟨_, _, _, _, _, _, _, hd⟩ := rcB_iff.1 (hs5.1.1 r hr)
        omega
      obtain ⟨hl5, hn5, hz5⟩ := scan_lay hs5
      have HF5 := Lib.hid hf5
      have hb5' := hb3'.trans (hb5.mono hb3'.size)
      have hE5 := hE3.below hb5
      have HV5 := Lib.hid hv5
      clear hb5 hb3' hE3 hs5 hv5 hf5
      go_wp2_with fail
      refine (flays_any _ v5 m5 _ hE5 HV5.out (Nat.le_refl _) HF5.out hml5).mono ?_
      rintro e w6 ⟨rfl, hb6⟩
      rw [hl5]
      have hsl := sl_to _ n5 hn5
      have k1 : decide ((n5 : Int) = ((T.extract 0 n5).size : Int)) = true := decide_eq_true (by omega)
      have k2 : decide ((n5 : Int) ≤ (T.size : Int)) = true := decide_eq_true (by omega)
      have hb6' := hb5'.trans (hb6.mono hb5'.size)
      have k3 : ((n5 : Int) == ((T.extract 0 n5).size : Int)) = true := k1
      clear hb6 hb5' hE5 HV5 HF5 hl5
      go_wp2_with fail
      go_ret
      exact ⟨rfl, hb6'⟩
end Go.Proofs.YtdlkmdjhjdpmeaaGreatDoor
