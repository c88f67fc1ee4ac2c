/- The walk of FrameJoins. -/
import Derived.Test.YtdlkmdjhjdpmeaaGreatDoorL1
import Derived.Laws.AppendOwnNone
set_option linter.unusedVariables false
set_option linter.unusedSimpArgs false
namespace Go.Proofs.YtdlkmdjhjdpmeaaGreatDoor
open Go.RowKit

theorem layRv_joins (q m : List Rc) (h : rcsB q = true) (h' : rcsB m = true) : layRv (q ++ m) = ((⟨(layL q).toArray⟩ : ByteArray) ++ ⟨(layL m).toArray⟩, 0) := by
  unfold layRv
  rw [if_pos (by rw [rcs_app, h, h']; rfl), layL_append]
  exact congrArg (fun b : ByteArray => (b, (0 : Int))) (ba_eq (by rw [ba_app]))
theorem layRv_no (q m : List Rc) (h : rcsB q = false ∨ rcsB m = false) : layRv (q ++ m) = (⟨#[]⟩, 170) := by
  unfold layRv
  rw [if_neg (by rw [rcs_app]; rcases h with h | h <;> simp [h])]
theorem joined_own {w : World} {base : Nat} {v : Value} {q q' : List Rc} (h : w.ownsRow base 23 3 v (0 + q.length + q'.length) ([] ++ rcsL q ++ rcsL q')) : RcsOwn w.heap.size w v (q ++ q') := by
  refine rcsOwn_of (base := base) ?_
  have e : rcsL (q ++ q') = [] ++ rcsL q ++ rcsL q' := by simp [rcsL]
  rw [e, List.length_append, ← Nat.zero_add q.length]
  exact h
theorem rcsL_length (l : List Rc) : (rcsL l).length = l.length * 3 := by
  induction l with
  | nil => rfl
  | cons r l ih =>
    show (rcL r ++ rcsL l).length = _
    rw [List.length_append, ih, List.length_cons]
    show 3 + _ = _
    omega
theorem rcsL_app (l m : List Rc) : rcsL (l ++ m) = rcsL l ++ rcsL m := by simp [rcsL]
theorem rcsL_ones (l : List Rc) : ∀ u ∈ rcsL l, u.oneCell' = true := by
  intro u hu
  obtain ⟨r, _, h⟩ := List.mem_flatMap.1 hu
  exact rcL_one r u h
theorem rcsL_get (l : List Rc) : ∀ (j : Nat) u, (rcsL l)[j]? = some u → ∃ i : Nat, ∃ r, l[i]? = some r ∧ (j = i * 3 ∧ u = .int .i64 r.op ∨ j = i * 3 + 1 ∧ u = .int .i64 r.id ∨ j = i * 3 + 2 ∧ u = .string r.data) := by
  induction l with
  | nil => intro j u h; simp [rcsL] at h
  | cons r l ih =>
    intro j u h
    have e : rcsL (r :: l) = .int .i64 r.op :: .int .i64 r.id :: .string r.data :: rcsL l := rfl
    rw [e] at h
    rcases j with _ | _ | _ | j
    · exact ⟨0, r, rfl, .inl ⟨rfl, by simpa using h.symm⟩⟩
    · exact ⟨0, r, rfl, .inr (.inl ⟨rfl, by simpa using h.symm⟩)⟩
    · exact ⟨0, r, rfl, .inr (.inr ⟨rfl, by simpa using h.symm⟩)⟩
    · obtain ⟨i, x, hx, hu⟩ := ih j u (by simpa using h)
      refine ⟨i + 1, x, by simpa using hx, ?_⟩
      rcases hu with ⟨h1, h2⟩ | ⟨h1, h2⟩ | ⟨h1, h2⟩
      · exact .inl ⟨by omega, h2⟩
      · exact .inr (.inl ⟨by omega, h2⟩)
      · exact .inr (.inr ⟨by omega, h2⟩)
/-- The cells of records in memory. -/
theorem RcsOwn.cells {n : Nat} {w : World} {A : Option Addr} {k c : Nat} {l : List Rc} (h : RcsOwn n w (.slice A k c) l) : ∀ (j : Nat) u, (rcsL l)[j]? = some u → ∃ g, A = some ⟨g, 0, none⟩ ∧ g < n ∧ w.cell? ((⟨g, 0, none⟩ : Addr).add j) = some u := by
  obtain ⟨A', c', e, hc, hr⟩ := h
  injection e with e1 e2 e3
  subst e1
  intro j u hj
  obtain ⟨i, r, hx, hu⟩ := rcsL_get l j u hj
  obtain ⟨g, hA, hg, h0, h1, h2⟩ := hr i r hx
  refine ⟨g, hA, hg, ?_⟩
  rw [Addr.add_mid, Nat.zero_add]
  rcases hu with ⟨rfl, rfl⟩ | ⟨rfl, rfl⟩ | ⟨rfl, rfl⟩
  · exact h0
  · exact h1
  · exact h2

/-- append, upon a row of the call's own, of records in memory. -/
theorem wpList_append_recs {P : Program} {w : World} {ops : Array Oper} {rest : List Oper} {o : Oper} {a : Act} {Q : Exit → Act → World → Prop} (hgd : o.guard = none) (s x : Operand) (t : TypeId)
    (ho : o.op = .call { callee := .builtin .append, args := #[s, x], argTypes := #[t, t] })
    (base : Nat) (i : TypeInfo) (ht : P.underlying t = some (.slice 23)) (hi : P.info? 23 = some i) (hz : i.zero = some (.agg #[.int .i64 0, .int .i64 0, .string ⟨#[]⟩])) (hsize : i.size = 3) (hby : i.bytes = 32)
    (v : Value) (n : Nat) (xs : List Value) (hs : a.eval s = v) (hown : w.ownsRow base 23 3 v n xs)
    (nn : Nat) (u : Value) (l : List Rc) (hx : a.eval x = u) (hr : RcsOwn nn w u l) (hu : NilOr u) (hn : n + l.length ≤ 1000) (hbase : base ≤ w.heap.size)
    (h : ∀ v' w', w'.ownsRow base 23 3 v' (n + l.length) (xs ++ rcsL l) → w.grownBy w' v.ownBlock → wpList P ops Q rest (a.put o.dst v') w') : wpList P ops Q (o :: rest) a w := by
  rcases hu with rfl | ⟨ad, m, c, rfl⟩
  · obtain ⟨A, c, e, _, hc⟩ := hr
    injection e with e1 e2 e3
    subst e1
    rcases l with _ | ⟨r, l⟩
    · refine wpList_append_own_none hgd s x t ho base _ i 3 ht hi v n xs hs hown hx ?_
      exact h v w (by simpa [rcsL] using hown) (World.grownBy.refl w _)
    · simp at e2
  · have hcl := hr.cells
    obtain ⟨A, c', e, _, hc⟩ := hr
    injection e with e1 e2 e3
    subst e1
    subst e2
    refine wpList_append_own w hgd s x t ho base _ i (.agg #[.int .i64 0, .int .i64 0, .string ⟨#[]⟩]) 3 32 ht hi hz hsize hby rfl (by decide) v n xs hs hown ad l.length c (rcsL l) hx (rcsL_length l) (fun j u hj => ?_) (rcsL_ones l) (by unfold maxLen; omega) (by omega) hbase (fun v' w' h1 h2 _ => h v' w' h1 h2)
    obtain ⟨g, e, _, hcell⟩ := hcl j u hj
    injection e with e
    subst e
    exact hcell

set_option maxRecDepth 100000 in
set_option maxHeartbeats 4000000 in
theorem frameJoins_walk (l : List Rc) (A : Option Addr) (c : Nat) (l2 : List Rc) (A2 : Option Addr) (c2 : Nat) (w : World) (hE : FrOK w) (hl : RcsIn w A l) (hll : l.length ≤ maxLen) (hl2 : RcsIn w A2 l2) (hll2 : l2.length ≤ maxLen) :
    Calls Tryz.prog 8 #[.slice A l.length c, .slice A2 l2.length c2] w fun e w' => e = .returned (.bool true) ∧ Below w.heap.size w w' := by
  obtain ⟨i0, hi, hz0, hz1, hz2⟩ := info_parts rec_info
  have HL := Lib.hid hl
  have HL2 := Lib.hid hl2
  clear hl hl2
  go_enter Tryz.func8, Tryz.ntmps8
  go_wp2_with fail
  refine (fshown_any _ hE).mono ?_
  rintro e w0 ⟨rfl, hb0⟩
  go_wp2_with fail
  refine (flcutn_any l A c _ hll (HL.out.below hb0)).mono ?_
  rintro e w1 ⟨v, rfl, hv, hb1, hnil⟩
  have HF := Lib.hid (cutsC_fit l)
  have hle : (cutsC l).length ≤ 10 := cutsC_len l
  have hle2 : (cutsC l).length ≤ 1000000 := by omega
  have hb1' := hb0.trans (hb1.mono hb0.size)
  generalize cutsC l = q at *
  clear hb0 hb1
  go_wp2_with fail
  refine (flcutn_any l2 A2 c2 _ hll2 (HL2.out.below hb1')).mono ?_
  rintro e w2 ⟨v', rfl, hv', hb2, hnil'⟩
  have HF' := Lib.hid (cutsC_fit l2)
  have hle' : (cutsC l2).length ≤ 10 := cutsC_len l2
  have hle2' : (cutsC l2).length ≤ 1000000 := by omega
  have hb2' := hb1'.trans (hb2.mono hb1'.size)
  have hE2 := hE.below hb2'
  generalize cutsC l2 = q' at *
  have HV := Lib.hid ((hv.below hb2).mono hb2.size)
  have HV' := Lib.hid hv'
  clear hb2 hb1' hv hv' HL HL2
  go_wp2_with fail
  refine (flays_any _ v q _ hE2 HV.out (Nat.le_refl _) HF.out hle2).mono ?_
  rintro e w3 ⟨rfl, hb3⟩
  have hb3' := hb2'.trans (hb3.mono hb2'.size)
  have hE3 := hE2.below hb3
  have HV3 := Lib.hid ((HV.out.below hb3).mono hb3.size)
  have HV3' := Lib.hid ((HV'.out.below hb3).mono hb3.size)
  clear hb2' hb3 hE2 HV HV'
  obtain ⟨P, E0, hP⟩ : ∃ P e0, layRv q = (P, e0) := ⟨_, _, rfl⟩
  obtain ⟨P', E0', hP'⟩ : ∃ P e0, layRv q' = (P, e0) := ⟨_, _, rfl⟩
  have HP := Lib.hid hP
  have HP' := Lib.hid hP'
  rw [hP]
  clear hP hP'
  go_wp2_with fail
  refine (flays_any _ v' q' _ hE3 HV3'.out (Nat.le_refl _) HF'.out hle2').mono ?_
  rintro e w4 ⟨rfl, hb4⟩
  rw [HP'.out]
  have hb4' := hb3'.trans (hb4.mono hb3'.size)
  have hE4 := hE3.below hb4
  have HV4 := Lib.hid ((HV3.out.below hb4).mono hb4.size)
  have HV4' := Lib.hid ((HV3'.out.below hb4).mono hb4.size)
  clear hb3' hb4 hE3 HV3 HV3'
  have hown0 := Lib.hid (show w4.ownsRow w4.heap.size 23 3 (.slice none 0 0) 0 [] from World.ownsRow_nil _ _ _ _)
  have HN := Lib.hid hnil
  have HN' := Lib.hid hnil'
  clear hnil hnil'
  have hown0b : (Value.slice none 0 0).ownBlock = none := rfl
  go_wp2_with (at_builtin; first
    | (refine wpList_append_recs rfl _ _ 25 rfl w4.heap.size i0 Tryz.underlying25 hi hz0 hz1 hz2 _ _ _ rfl hown0.out _ _ q rfl HV4.out HN.out (by omega) (Nat.le_refl _) ?_
       intro v5 w5 hown5 hg5
       have hb5 : Below w4.heap.size w4 w5 := (Below.refl _ w4).grown hg5 (Nat.le_refl _) (fun g e => by cases e)
       have HV5' := Lib.hid (HV4'.out.below hb5)
       have HO5 := Lib.hid hown5
       have HB5 := Lib.hid hb5
       have hz5 := hb5.size
       clear hown5 hg5 hown0 hb5)
    | (refine wpList_append_recs rfl _ _ 25 rfl w4.heap.size i0 Tryz.underlying25 hi hz0 hz1 hz2 _ _ _ rfl HO5.out _ _ q' rfl HV5'.out HN'.out (by omega) hz5 ?_
       intro v6 w6 hown6 hg6
       have hb6 : Below w4.heap.size w4 w6 := HB5.out.grown hg6 hz5 (fun g e => (HO5.out.lt g e).1)
       have HO6 := Lib.hid hown6
       have HB6 := Lib.hid hb6
       clear hown6 hg6 hb6))
  have HA := Lib.hid (joined_own HO6.out)
  have hb6' := hb4'.trans (HB6.out.mono hb4'.size)
  have hE6 := hE.below hb6'
  have hfa : FitR (q ++ q') := fun r hr => by
    rcases List.mem_append.1 hr with hr | hr
    · exact HF.out r hr
    · exact HF'.out r hr
  have hal : (q ++ q').length ≤ 20 := by rw [List.length_append]; omega
  have HFA := Lib.hid hfa
  have HAL := Lib.hid hal
  clear hfa hal hb4' hE4 HV4 HV4' HV5' HO5 HO6 HB5 HB6 hz5 HN HN' hown0b HF HF'
  refine (flays_any _ v6 (q ++ q') _ hE6 HA.out (Nat.le_refl _) HFA.out (Nat.le_trans HAL.out (by omega))).mono ?_
  rintro e w7 ⟨rfl, hb7⟩
  have hb7' := hb6'.trans (hb7.mono hb6'.size)
  have hE7 := hE6.below hb7
  have HA7 := Lib.hid (HA.out.below hb7)
  clear hb6' hb7 hE6 HA
  rcases layRv_ways q with ⟨hq, e1⟩ | ⟨hq, e1⟩
  · rcases layRv_ways q' with ⟨hq', e2⟩ | ⟨hq', e2⟩
    · have eA := layRv_joins q q' hq hq'
      rw [HP.out] at e1
      rw [HP'.out] at e2
      obtain ⟨hPv, rfl⟩ := Prod.mk.inj e1
      obtain ⟨hPv', rfl⟩ := Prod.mk.inj e2
      rw [← hPv, ← hPv'] at eA
      have hs1 : P.size = (layL q).length := by rw [hPv]; exact lay_size q
      have hs2 : P'.size = (layL q').length := by rw [hPv']; exact lay_size q'
      have hl1 := layL_le q hq
      have hl2 := layL_le q' hq'
      have hcs : (P ++ P').size = (layL (q ++ q')).length := by rw [ByteArray.size_append, layL_append, List.length_append]; omega
      have hcs2 : (P ++ P').size ≤ 1000000 := by rw [ByteArray.size_append]; omega
      have hsc : ScanOf (P ++ P') (q ++ q') (P ++ P').size := by
        rw [hcs]
        refine scan_laid (rest := []) (by rw [rcs_app, hq, hq']; rfl) ?_ (by simp)
        rw [List.append_nil, layL_append, ba_app, hPv, hPv']
      have HSC := Lib.hid hsc
      have hcat := cat_str P P' (by rw [ByteArray.size_append] at hcs2; exact hcs2)
      obtain ⟨C, hC⟩ : ∃ C, P ++ P' = C := ⟨_, rfl⟩
      have HCC := Lib.hid hC
      rw [eA]
      rw [hC] at hcat hcs2 HSC ⊢
      have hkk : (C.toList == C.toList) = true := beq_self_eq_true _
      clear eA hsc hcs hC e1 e2 hPv hPv' HP HP' hs1 hs2 hl1 hl2
      go_wp2_with fail
      refine (scan_any C _ hE7 hcs2).mono ?_
      rintro e w8 ⟨m, n, v8, hs8, rfl, hv8, hb8⟩
      obtain ⟨rfl, rfl⟩ := hs8.one HSC.out
      have HV8 := Lib.hid hv8
      have HA8 := Lib.hid (HA7.out.below hb8)
      clear hs8 hv8
      go_wp2_with fail
      refine (rsame_any _ _ _ _ (q ++ q') (q ++ q') _ HV8.out HA8.out (Nat.le_trans HAL.out (by omega)) (Nat.le_trans HAL.out (by omega))).mono ?_
      rintro e w9 ⟨rfl, hb9⟩
      rw [sameR_self]
      go_wp2_with fail
      go_ret
      exact ⟨rfl, hb7'.trans ((hb8.trans (hb9.mono hb8.size)).mono hb7'.size)⟩
    · have eA := layRv_no q q' (.inr hq')
      rw [HP.out] at e1
      rw [HP'.out] at e2
      obtain ⟨hPv, rfl⟩ := Prod.mk.inj e1
      obtain ⟨hPv', rfl⟩ := Prod.mk.inj e2
      clear hPv hPv' e1 e2
      rw [eA]
      clear eA
      go_wp2_with fail
      go_ret
      exact ⟨rfl, hb7'⟩
  · have eA := layRv_no q q' (.inl hq)
    rw [HP.out] at e1
    obtain ⟨hPv, rfl⟩ := Prod.mk.inj e1
    clear hPv e1
    rw [eA]
    clear eA
    go_wp2_with fail
    go_ret
    exact ⟨rfl, hb7'⟩
end Go.Proofs.YtdlkmdjhjdpmeaaGreatDoor
