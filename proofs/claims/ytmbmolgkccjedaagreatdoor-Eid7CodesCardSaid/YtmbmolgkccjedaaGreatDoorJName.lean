/- Names of items, names' bytes (package eid7). -/
import Derived.Test.YtmbmolgkccjedaaGreatDoorM17
import Derived.Test.YtmbmolgkccjedaaGreatDoorM14
import Derived.Test.YtmbmolgkccjedaaGreatDoorILay
import Derived.Test.YtmbmolgkccjedaaGreatDoorM24
set_option linter.unusedVariables false
set_option linter.unusedSimpArgs false
namespace Go.Proofs.YtmbmolgkccjedaaGreatDoor
open Go.RowKit
attribute [local go_sem ↓] Go.wp_at_zero Go.wp_at_succ

/-- Shapes as an iterator's value. -/
def ShsN (n : Nat) (ps : List Shp) (v : Value) (w : World) : Prop :=
  ∃ A Q : Nat, v = .func (.func 108) #[] #[.pointer (some ⟨Q, 0, none⟩)] ∧ n ≤ A ∧ A < w.heap.size ∧ w.cell? ⟨Q, 0, none⟩ = some (.slice (some ⟨A, 0, none⟩) ps.length ps.length) ∧ ShRd A ps w
/-- The shapes of an item. -/
def shG (x : Itm) (v : Value) : List Shp := [((prt x 1).k == 0, 82, v), ((prt x 1).k == 3, 83, v), ((prt x 1).k == 4, 84, v)]

set_option maxRecDepth 100000 in
set_option maxHeartbeats 2000000 in
theorem gshapes_of (ok : Nat → Prop) (x : Itm) (q : Int) (hq : (prt x 1).k = q) (v : Value) (w : World) (hx : ItV ok w x v) :
    Calls Tryz.prog 50 #[v] w fun e w' => (∃ u, e = .returned u ∧ ShsN w.heap.size [(q == 0, 82, v), (q == 3, 83, v), (q == 4, 84, v)] u w') ∧ Below w.heap.size w w' := by
  obtain ⟨p, cap, rfl, -, -, -, -, -⟩ := hx.parts
  have HQ := Lib.hid hq
  clear hq
  have bG : Blk (w.alloc (.cells #[.int .i64 x.k, .int .i64 x.n, .string ⟨x.s.toArray⟩, .slice p x.l.length cap] 95)) (w.heap.size) 95 #[.int .i64 x.k, .int .i64 x.n, .string ⟨x.s.toArray⟩, .slice p x.l.length cap] := Blk.new w _ _
  have hb : Below w.heap.size w (w.alloc (.cells #[.int .i64 x.k, .int .i64 x.n, .string ⟨x.s.toArray⟩, .slice p x.l.length cap] 95)) := ((Below.refl _ w).alloc (Nat.le_refl _) _)
  have HX0 := Lib.hid (hx.below hb)
  clear hx
  obtain ⟨cG0, cG1, cG2, cG3⟩ := bG.four
  have lG := bG.lt
  go_enter Tryz.func50, Tryz.ntmps50
  go_wp2_with fail
  generalize (w.alloc (.cells #[.int .i64 x.k, .int .i64 x.n, .string ⟨x.s.toArray⟩, .slice p x.l.length cap] 95)) = w0 at *
  refine (gpart1 ok x _ w0 HX0.out).mono ?_
  rintro e w1 ⟨⟨v1, rfl, hv1⟩, hc1⟩
  have hb1 := hb.trans (hc1.mono hb.size)
  replace bG := bG.here hc1
  clear hc1 hb
  obtain ⟨p1, cap1, rfl, -⟩ := hv1.parts
  have hfl := fieldI0 (prt x 1).k (prt x 1).n ⟨(prt x 1).s.toArray⟩ p1 (prt x 1).l.length cap1
  rw [HQ.out] at hfl ⊢
  clear cG0 cG1 cG2 cG3 lG
  obtain ⟨cG0, cG1, cG2, cG3⟩ := bG.four
  have lG := bG.lt
  clear hv1
  go_wp2_with fail
  refine (eachS_anyN _ _ _).mono ?_
  rintro e v ⟨rfl, rfl⟩
  go_wp2_with fail
  go_ret
  refine ⟨⟨_, rfl, w1.heap.size, w1.heap.size + 1, by simp, hb1.size, by simp; try omega, by go_simp, sh3_rd ((Blk.new w1 _ _).alloc _)⟩, ?_⟩
  exact (hb1.alloc hb1.size _).alloc (by have := hb1.size; simp; omega) _

theorem nmW_agg (o : Nm) : nmW o = .agg #[.int .i64 o.k, .string ⟨o.node.toArray⟩, .string ⟨o.serv.toArray⟩, .int .i64 o.a, .int .i64 o.b] := rfl
theorem gshapes_mk (ok : Nat → Prop) (x : Itm) (v : Value) (o : Nm) (ho : rgI x = o) (w : World) (hE : EnvN w) (hx : ItV ok w x v) (hs : (prt x 1).s.length ≤ 4000000000) :
    ∀ y ∈ [((prt x 1).k == 0, 82, v), ((prt x 1).k == 3, 83, v), ((prt x 1).k == 4, 84, v)], MkN w (fun _ v W => v = nmW o) y := by
  intro y hy
  simp only [List.mem_cons, List.not_mem_nil, or_false] at hy
  obtain ⟨p, cap, rfl, -⟩ := id hx.parts
  rcases hy with rfl | rfl | rfl
  · intro hfit
    have h0 : (prt x 1).k = 0 := by simpa using hfit
    have ho0 : o = nm0 := by
      rw [← ho]; unfold rgI
      rw [if_neg (by rw [h0]; decide), if_neg (by rw [h0]; decide)]
    subst ho0
    exact ⟨enters_of Tryz.func82 (by kernel_rfl) rfl, fun W hB hW => (gnone_any _ _ _ _ _ _ W).mono fun e W' h => ⟨⟨_, _, _, _, _, h.1, rfl⟩, h.2⟩⟩
  · intro hfit
    have h0 : (prt x 1).k = 3 := by simpa using hfit
    have ho0 : (jnR [100, 116, 110] (prt x 1).s).getD nm0 = o := by
      rw [← ho]; unfold rgI
      rw [if_pos h0]
    exact ⟨enters_of Tryz.func83 (by kernel_rfl) rfl, fun W hB hW => (gdtn_of ok x _ o _ ho0 rfl W (hE.below hB) (hx.below hB) hs).mono fun e W' h => ⟨⟨_, _, _, _, _, h.1, rfl⟩, h.2⟩⟩
  · intro hfit
    have h0 : (prt x 1).k = 4 := by simpa using hfit
    have ho0 : o = ⟨2, [], [], (prt (prt x 1) 0).n, (prt (prt x 1) 1).n⟩ := by
      rw [← ho]; unfold rgI
      rw [if_neg (by rw [h0]; decide), if_pos h0]
    subst ho0
    exact ⟨enters_of Tryz.func84 (by kernel_rfl) rfl, fun W hB hW => (gipn_of ok x _ rfl _ W (hx.below hB)).mono fun e W' h => ⟨⟨_, _, _, _, _, h.1, rfl⟩, h.2⟩⟩
theorem gshapes_no {x : Itm} {v : Value} (h : noFit [((prt x 1).k == 0, 82, v), ((prt x 1).k == 3, 83, v), ((prt x 1).k == 4, 84, v)]) : rgI x = nm0 := by
  have h1 := h ((prt x 1).k == 3, 83, v) (by simp)
  have h2 := h ((prt x 1).k == 4, 84, v) (by simp)
  simp only [beq_eq_false_iff_ne] at h1 h2
  unfold rgI
  rw [if_neg h1, if_neg h2]
theorem prt_itv {ok : Nat → Prop} {W : World} {x : Itm} {v : Value} (h : ItV ok W x v) (j : Nat) : ∃ u, ItV ok W (prt x j) u := by
  obtain ⟨p, cap, rfl, _, hits, _⟩ := id h.parts
  by_cases hlt : j < x.l.length
  · obtain ⟨y, hy⟩ : ∃ y, x.l[j]? = some y := ⟨_, List.getElem?_eq_getElem hlt⟩
    rw [prt_some hy]
    obtain ⟨a, c0, c1, c2, c3, _, _, _, _, _, _, hvy⟩ := ItsV.reads x.l j y hits hy
    exact ⟨_, hvy⟩
  · rw [prt_none (by omega)]
    exact ⟨_, itv_zero⟩
theorem itv_n64 {ok : Nat → Prop} {W : World} {x : Itm} {v : Value} (h : ItV ok W x v) : I64 x.n := by
  obtain ⟨p, cap, _, _, _, _, h2, _⟩ := h.parts
  exact bounds_i64 h2
theorem jn_i64 (s t : List UInt8) : I64 ((jnR s t).getD nm0).a ∧ I64 ((jnR s t).getD nm0).b := by
  cases h : jnR s t with
  | none => exact ⟨by unfold I64; decide, by unfold I64; decide⟩
  | some e =>
    obtain ⟨h1, _⟩ := jnR_back h
    rcases nmR_cases h1 with rfl | ⟨_, _, _, _, h5, h6⟩ | ⟨A, B, rfl, _, h3, h4⟩
    · exact ⟨by unfold I64; decide, by unfold I64; decide⟩
    · show I64 e.a ∧ I64 e.b
      rw [h5, h6]
      exact ⟨by unfold I64; decide, by unfold I64; decide⟩
    · show I64 (A : Int) ∧ I64 (B : Int)
      unfold I64
      omega
theorem rgI_i64 {ok : Nat → Prop} {W : World} {x : Itm} {v : Value} (h : ItV ok W x v) : I64 (rgI x).a ∧ I64 (rgI x).b := by
  unfold rgI
  split
  · exact jn_i64 _ _
  · split
    · obtain ⟨u, hu⟩ := prt_itv h 1
      obtain ⟨u0, h0⟩ := prt_itv hu 0
      obtain ⟨u1, h1⟩ := prt_itv hu 1
      exact ⟨itv_n64 h0, itv_n64 h1⟩
    · exact ⟨by unfold I64; decide, by unfold I64; decide⟩
theorem nmO_self (o : Nm) : nmO o.k ⟨o.node.toArray⟩ ⟨o.serv.toArray⟩ o.a o.b = o := by
  cases o; simp [nmO]
/-- What is read of an item. -/
def rdX (o : Nm) (x : Itm) : Nm × Int := if nmR o = true then if sameB (itmN o) x = true then (o, 0) else (nm0, 60) else (nm0, 60)
theorem rdX_nmI (x : Itm) : (nmW (rdX (rgI x) x).1, (rdX (rgI x) x).2) = (nmX (nmI x), erX (nmI x)) := by
  unfold rdX nmI nmX erX
  by_cases h1 : nmR (rgI x) = true
  · by_cases h2 : sameB (itmN (rgI x)) x = true
    · rw [if_pos h1, if_pos h2, if_pos ⟨h1, h2⟩]; rfl
    · rw [if_pos h1, if_neg h2, if_neg (fun h => h2 h.2)]; rfl
  · rw [if_neg h1, if_neg (fun h => h1 h.1)]; rfl

set_option maxRecDepth 100000 in
set_option maxHeartbeats 4000000 in
theorem jread_of (ok : Nat → Prop) (x : Itm) (v : Value) (o : Nm) (ho : rgI x = o) (w : World) (hE : EnvN w) (hx : ItV ok w x v) (hs : (prt x 1).s.length ≤ 4000000000) :
    Calls Tryz.prog 32 #[v] w fun e w' => e = .returned (.tuple #[nmW (rdX o x).1, .int .i64 (rdX o x).2]) ∧ Below w.heap.size w w' := by
  have hrg := rgI_i64 hx
  rw [ho] at hrg
  obtain ⟨ra, rb⟩ := hrg
  obtain ⟨p, cap, rfl, -, -, -, -, -⟩ := id hx.parts
  have HO := Lib.hid ho
  have HS := Lib.hid hs
  have hoo := nmO_self o
  have HOO := Lib.hid hoo
  clear hoo ho hs
  have hx0 := id hx
  unfold rdX
  cases hr : nmR o with
  | false =>
    have HLY := Lib.hid (show layI o = (zerI, 60) by unfold layI; rw [hr]; rfl)
    clear hr
    simp only [Bool.false_eq_true, if_false]
    have bR_ := Blk.new (w.alloc (.cells #[.int .i64 x.k, .int .i64 x.n, .string ⟨x.s.toArray⟩, .slice p x.l.length cap] 26)) 23 #[.int .i64 0, .string ⟨#[]⟩, .string ⟨#[]⟩, .int .i64 0, .int .i64 0]
    simp only [World.size_alloc] at bR_
    have bX : Blk ((w.alloc (.cells #[.int .i64 x.k, .int .i64 x.n, .string ⟨x.s.toArray⟩, .slice p x.l.length cap] 26)).alloc (.cells #[.int .i64 0, .string ⟨#[]⟩, .string ⟨#[]⟩, .int .i64 0, .int .i64 0] 23)) (w.heap.size) 26 #[.int .i64 x.k, .int .i64 x.n, .string ⟨x.s.toArray⟩, .slice p x.l.length cap] := (Blk.new w _ _).alloc _
    have bR : Blk ((w.alloc (.cells #[.int .i64 x.k, .int .i64 x.n, .string ⟨x.s.toArray⟩, .slice p x.l.length cap] 26)).alloc (.cells #[.int .i64 0, .string ⟨#[]⟩, .string ⟨#[]⟩, .int .i64 0, .int .i64 0] 23)) (w.heap.size + 1) 23 #[.int .i64 0, .string ⟨#[]⟩, .string ⟨#[]⟩, .int .i64 0, .int .i64 0] := bR_
    have hb : Below w.heap.size w ((w.alloc (.cells #[.int .i64 x.k, .int .i64 x.n, .string ⟨x.s.toArray⟩, .slice p x.l.length cap] 26)).alloc (.cells #[.int .i64 0, .string ⟨#[]⟩, .string ⟨#[]⟩, .int .i64 0, .int .i64 0] 23)) := (((Below.refl _ w).alloc (Nat.le_refl _) _).alloc (by simp; try omega) _)
    have hE0 := hE.below hb
    have hx0 := hx.below hb
    clear bR_
    obtain ⟨cX0, cX1, cX2, cX3⟩ := bX.four
    have lX := bX.lt
    go_enter Tryz.func32, Tryz.ntmps32
    go_wp2_with fail
    generalize ((w.alloc (.cells #[.int .i64 x.k, .int .i64 x.n, .string ⟨x.s.toArray⟩, .slice p x.l.length cap] 26)).alloc (.cells #[.int .i64 0, .string ⟨#[]⟩, .string ⟨#[]⟩, .int .i64 0, .int .i64 0] 23)) = w0 at *
    refine (gshapes_of ok x _ rfl _ w0 hx0).mono ?_
    rintro e w1 ⟨⟨u, rfl, A, Q, rfl, hnA, hA, hQ, hP⟩, hc1⟩
    have hb1 := hb.trans (hc1.mono hb.size)
    replace bX := bX.here hc1
    replace bR := bR.here hc1
    have hE1 := hE0.below hc1
    clear hE0
    have hx1 := hx0.below hc1
    clear hx0
    clear hc1 hb
    have HMK := Lib.hid (gshapes_mk ok x _ o HO.out w1 hE1 hx1 HS.out)
    have HQ := Lib.hid hQ
    have HP := Lib.hid hP
    clear hQ hP
    go_wp2_with fail
    refine (fit_anyN A Q _ (by simp) w1 HQ.out HP.out hA (fun _ v W => v = nmW o) (fun _ _ _ _ _ h => h) HMK.out).mono ?_
    rintro e w2 ⟨hf, hc2⟩
    have hb2 := hb1.trans (hc2.mono hb1.size)
    replace bX := bX.here hc2
    replace bR := bR.here hc2
    have hE2 := hE1.below hc2
    clear hE1
    have hx2 := hx1.below hc2
    clear hx1
    have he : e = .returned (.agg #[.int .i64 o.k, .string ⟨o.node.toArray⟩, .string ⟨o.serv.toArray⟩, .int .i64 o.a, .int .i64 o.b]) := by
      rcases hf with ⟨hn, rfl⟩ | ⟨_, _, _, _, _, _, k1, s1, q1, l1, c1, rfl, hv⟩
      · rw [← HO.out, gshapes_no hn]; rfl
      · rw [hv]; rfl
    subst he
    clear hf HMK HQ HP hA hnA
    clear hc2 hb1
    clear cX0 cX1 cX2 cX3 lX
    have hc3 : Below w2.heap.size w2 (w2.alloc (.cells #[.int .i64 o.k, .string ⟨o.node.toArray⟩, .string ⟨o.serv.toArray⟩, .int .i64 o.a, .int .i64 o.b] 23)) := (Below.refl _ _).alloc (Nat.le_refl _) _
    have bE : Blk (w2.alloc (.cells #[.int .i64 o.k, .string ⟨o.node.toArray⟩, .string ⟨o.serv.toArray⟩, .int .i64 o.a, .int .i64 o.b] 23)) w2.heap.size 23 #[.int .i64 o.k, .string ⟨o.node.toArray⟩, .string ⟨o.serv.toArray⟩, .int .i64 o.a, .int .i64 o.b] := Blk.new _ _ _
    have hb3 := hb2.trans (hc3.mono hb2.size)
    replace bX := bX.here hc3
    replace bR := bR.here hc3
    have hE3 := hE2.below hc3
    clear hE2
    have hx3 := hx2.below hc3
    clear hx2
    clear hc3 hb2
    obtain ⟨cE0, cE1, cE2, cE3, cE4⟩ := bE.five
    have lE := bE.lt
    go_wp2_with fail
    generalize (w2.alloc (.cells #[.int .i64 o.k, .string ⟨o.node.toArray⟩, .string ⟨o.serv.toArray⟩, .int .i64 o.a, .int .i64 o.b] 23)) = w3 at *
    refine (jlay_any o.k ⟨o.node.toArray⟩ ⟨o.serv.toArray⟩ o.a o.b w3 hE3 ra rb).mono ?_
    rintro e w4 ⟨⟨k1, m1, s1, p1, l1, c1, rfl, hI⟩, hc4⟩
    have hb4 := hb3.trans (hc4.mono hb3.size)
    replace bX := bX.here hc4
    replace bR := bR.here hc4
    replace bE := bE.here hc4
    have hE4 := hE3.below hc4
    clear hE3
    have hx4 := hx3.below hc4
    clear hx3
    clear hc4 hb3
    rw [HOO.out, HLY.out] at hI ⊢
    clear cE0 cE1 cE2 cE3 cE4 lE
    have hc5 : Below w4.heap.size w4 (w4.alloc (.cells #[.int .i64 k1, .int .i64 m1, .string s1, .slice p1 l1 c1] 26)) := (Below.refl _ _).alloc (Nat.le_refl _) _
    have bO : Blk (w4.alloc (.cells #[.int .i64 k1, .int .i64 m1, .string s1, .slice p1 l1 c1] 26)) w4.heap.size 26 #[.int .i64 k1, .int .i64 m1, .string s1, .slice p1 l1 c1] := Blk.new _ _ _
    have hb5 := hb4.trans (hc5.mono hb4.size)
    replace bX := bX.here hc5
    replace bR := bR.here hc5
    replace bE := bE.here hc5
    have hE5 := hE4.below hc5
    clear hE4
    have hx5 := hx4.below hc5
    clear hx4
    have hI5 := hI.below hc5
    clear hc5 hb4
    obtain ⟨cO0, cO1, cO2, cO3⟩ := bO.four
    have lO := bO.lt
    obtain ⟨cR0, cR1, cR2, cR3, cR4⟩ := bR.five
    have fR0 := bR.frozen 0
    have fR1 := bR.frozen 1
    have fR2 := bR.frozen 2
    have fR3 := bR.frozen 3
    have fR4 := bR.frozen 4
    have lR := bR.lt
    go_wp2_with fail
    generalize (w4.alloc (.cells #[.int .i64 k1, .int .i64 m1, .string s1, .slice p1 l1 c1] 26)) = w5 at *
    refine bodyPost_ret (res_name2 (bR.set5 _ _ _ _ _) rfl rfl rfl) rfl ⟨rfl, below_sets5 hb5 (by omega) _ _ _ _ _⟩
  | true =>
    have HLY := Lib.hid (show layI o = (itmN o, 0) by unfold layI; rw [hr]; rfl)
    clear hr
    obtain ⟨b2, hb2⟩ : ∃ b2, sameB (itmN o) x = b2 := ⟨_, rfl⟩
    have HS2 := Lib.hid hb2
    rw [hb2]
    clear hb2
    cases b2 with
    | false =>
      simp only [if_true, Bool.false_eq_true, if_false]
      have bR_ := Blk.new (w.alloc (.cells #[.int .i64 x.k, .int .i64 x.n, .string ⟨x.s.toArray⟩, .slice p x.l.length cap] 26)) 23 #[.int .i64 0, .string ⟨#[]⟩, .string ⟨#[]⟩, .int .i64 0, .int .i64 0]
      simp only [World.size_alloc] at bR_
      have bX : Blk ((w.alloc (.cells #[.int .i64 x.k, .int .i64 x.n, .string ⟨x.s.toArray⟩, .slice p x.l.length cap] 26)).alloc (.cells #[.int .i64 0, .string ⟨#[]⟩, .string ⟨#[]⟩, .int .i64 0, .int .i64 0] 23)) (w.heap.size) 26 #[.int .i64 x.k, .int .i64 x.n, .string ⟨x.s.toArray⟩, .slice p x.l.length cap] := (Blk.new w _ _).alloc _
      have bR : Blk ((w.alloc (.cells #[.int .i64 x.k, .int .i64 x.n, .string ⟨x.s.toArray⟩, .slice p x.l.length cap] 26)).alloc (.cells #[.int .i64 0, .string ⟨#[]⟩, .string ⟨#[]⟩, .int .i64 0, .int .i64 0] 23)) (w.heap.size + 1) 23 #[.int .i64 0, .string ⟨#[]⟩, .string ⟨#[]⟩, .int .i64 0, .int .i64 0] := bR_
      have hb : Below w.heap.size w ((w.alloc (.cells #[.int .i64 x.k, .int .i64 x.n, .string ⟨x.s.toArray⟩, .slice p x.l.length cap] 26)).alloc (.cells #[.int .i64 0, .string ⟨#[]⟩, .string ⟨#[]⟩, .int .i64 0, .int .i64 0] 23)) := (((Below.refl _ w).alloc (Nat.le_refl _) _).alloc (by simp; try omega) _)
      have hE0 := hE.below hb
      have hx0 := hx.below hb
      clear bR_
      obtain ⟨cX0, cX1, cX2, cX3⟩ := bX.four
      have lX := bX.lt
      go_enter Tryz.func32, Tryz.ntmps32
      go_wp2_with fail
      generalize ((w.alloc (.cells #[.int .i64 x.k, .int .i64 x.n, .string ⟨x.s.toArray⟩, .slice p x.l.length cap] 26)).alloc (.cells #[.int .i64 0, .string ⟨#[]⟩, .string ⟨#[]⟩, .int .i64 0, .int .i64 0] 23)) = w0 at *
      refine (gshapes_of ok x _ rfl _ w0 hx0).mono ?_
      rintro e w1 ⟨⟨u, rfl, A, Q, rfl, hnA, hA, hQ, hP⟩, hc1⟩
      have hb1 := hb.trans (hc1.mono hb.size)
      replace bX := bX.here hc1
      replace bR := bR.here hc1
      have hE1 := hE0.below hc1
      clear hE0
      have hx1 := hx0.below hc1
      clear hx0
      clear hc1 hb
      have HMK := Lib.hid (gshapes_mk ok x _ o HO.out w1 hE1 hx1 HS.out)
      have HQ := Lib.hid hQ
      have HP := Lib.hid hP
      clear hQ hP
      go_wp2_with fail
      refine (fit_anyN A Q _ (by simp) w1 HQ.out HP.out hA (fun _ v W => v = nmW o) (fun _ _ _ _ _ h => h) HMK.out).mono ?_
      rintro e w2 ⟨hf, hc2⟩
      have hb2 := hb1.trans (hc2.mono hb1.size)
      replace bX := bX.here hc2
      replace bR := bR.here hc2
      have hE2 := hE1.below hc2
      clear hE1
      have hx2 := hx1.below hc2
      clear hx1
      have he : e = .returned (.agg #[.int .i64 o.k, .string ⟨o.node.toArray⟩, .string ⟨o.serv.toArray⟩, .int .i64 o.a, .int .i64 o.b]) := by
        rcases hf with ⟨hn, rfl⟩ | ⟨_, _, _, _, _, _, k1, s1, q1, l1, c1, rfl, hv⟩
        · rw [← HO.out, gshapes_no hn]; rfl
        · rw [hv]; rfl
      subst he
      clear hf HMK HQ HP hA hnA
      clear hc2 hb1
      clear cX0 cX1 cX2 cX3 lX
      have hc3 : Below w2.heap.size w2 (w2.alloc (.cells #[.int .i64 o.k, .string ⟨o.node.toArray⟩, .string ⟨o.serv.toArray⟩, .int .i64 o.a, .int .i64 o.b] 23)) := (Below.refl _ _).alloc (Nat.le_refl _) _
      have bE : Blk (w2.alloc (.cells #[.int .i64 o.k, .string ⟨o.node.toArray⟩, .string ⟨o.serv.toArray⟩, .int .i64 o.a, .int .i64 o.b] 23)) w2.heap.size 23 #[.int .i64 o.k, .string ⟨o.node.toArray⟩, .string ⟨o.serv.toArray⟩, .int .i64 o.a, .int .i64 o.b] := Blk.new _ _ _
      have hb3 := hb2.trans (hc3.mono hb2.size)
      replace bX := bX.here hc3
      replace bR := bR.here hc3
      have hE3 := hE2.below hc3
      clear hE2
      have hx3 := hx2.below hc3
      clear hx2
      clear hc3 hb2
      obtain ⟨cE0, cE1, cE2, cE3, cE4⟩ := bE.five
      have lE := bE.lt
      go_wp2_with fail
      generalize (w2.alloc (.cells #[.int .i64 o.k, .string ⟨o.node.toArray⟩, .string ⟨o.serv.toArray⟩, .int .i64 o.a, .int .i64 o.b] 23)) = w3 at *
      refine (jlay_any o.k ⟨o.node.toArray⟩ ⟨o.serv.toArray⟩ o.a o.b w3 hE3 ra rb).mono ?_
      rintro e w4 ⟨⟨k1, m1, s1, p1, l1, c1, rfl, hI⟩, hc4⟩
      have hb4 := hb3.trans (hc4.mono hb3.size)
      replace bX := bX.here hc4
      replace bR := bR.here hc4
      replace bE := bE.here hc4
      have hE4 := hE3.below hc4
      clear hE3
      have hx4 := hx3.below hc4
      clear hx3
      clear hc4 hb3
      rw [HOO.out, HLY.out] at hI ⊢
      clear cE0 cE1 cE2 cE3 cE4 lE
      have hc5 : Below w4.heap.size w4 (w4.alloc (.cells #[.int .i64 k1, .int .i64 m1, .string s1, .slice p1 l1 c1] 26)) := (Below.refl _ _).alloc (Nat.le_refl _) _
      have bO : Blk (w4.alloc (.cells #[.int .i64 k1, .int .i64 m1, .string s1, .slice p1 l1 c1] 26)) w4.heap.size 26 #[.int .i64 k1, .int .i64 m1, .string s1, .slice p1 l1 c1] := Blk.new _ _ _
      have hb5 := hb4.trans (hc5.mono hb4.size)
      replace bX := bX.here hc5
      replace bR := bR.here hc5
      replace bE := bE.here hc5
      have hE5 := hE4.below hc5
      clear hE4
      have hx5 := hx4.below hc5
      clear hx4
      have hI5 := hI.below hc5
      clear hc5 hb4
      obtain ⟨cO0, cO1, cO2, cO3⟩ := bO.four
      have lO := bO.lt
      obtain ⟨cX0, cX1, cX2, cX3⟩ := bX.four
      have lX := bX.lt
      go_wp2_with fail
      generalize (w4.alloc (.cells #[.int .i64 k1, .int .i64 m1, .string s1, .slice p1 l1 c1] 26)) = w5 at *
      refine (same_any _ ok 3 (itmN o) x _ _ w5 (itm_dep o) hI5 hx5).mono ?_
      rintro e w6 ⟨rfl, hc6⟩
      have hb6 := hb5.trans (hc6.mono hb5.size)
      replace bX := bX.here hc6
      replace bR := bR.here hc6
      replace bE := bE.here hc6
      replace bO := bO.here hc6
      have hE6 := hE5.below hc6
      clear hE5
      have hx6 := hx5.below hc6
      clear hx5
      have hI6 := hI5.below hc6
      clear hI5
      clear hc6 hb5
      rw [HS2.out]
      clear cX0 cX1 cX2 cX3 lX
      clear cO0 cO1 cO2 cO3 lO
      obtain ⟨cR0, cR1, cR2, cR3, cR4⟩ := bR.five
      have fR0 := bR.frozen 0
      have fR1 := bR.frozen 1
      have fR2 := bR.frozen 2
      have fR3 := bR.frozen 3
      have fR4 := bR.frozen 4
      have lR := bR.lt
      go_wp2_with fail
      refine bodyPost_ret (res_name2 (bR.set5 _ _ _ _ _) rfl rfl rfl) rfl ⟨rfl, below_sets5 hb6 (by omega) _ _ _ _ _⟩
    | true =>
      simp only [if_true]
      have bR_ := Blk.new (w.alloc (.cells #[.int .i64 x.k, .int .i64 x.n, .string ⟨x.s.toArray⟩, .slice p x.l.length cap] 26)) 23 #[.int .i64 0, .string ⟨#[]⟩, .string ⟨#[]⟩, .int .i64 0, .int .i64 0]
      simp only [World.size_alloc] at bR_
      have bX : Blk ((w.alloc (.cells #[.int .i64 x.k, .int .i64 x.n, .string ⟨x.s.toArray⟩, .slice p x.l.length cap] 26)).alloc (.cells #[.int .i64 0, .string ⟨#[]⟩, .string ⟨#[]⟩, .int .i64 0, .int .i64 0] 23)) (w.heap.size) 26 #[.int .i64 x.k, .int .i64 x.n, .string ⟨x.s.toArray⟩, .slice p x.l.length cap] := (Blk.new w _ _).alloc _
      have bR : Blk ((w.alloc (.cells #[.int .i64 x.k, .int .i64 x.n, .string ⟨x.s.toArray⟩, .slice p x.l.length cap] 26)).alloc (.cells #[.int .i64 0, .string ⟨#[]⟩, .string ⟨#[]⟩, .int .i64 0, .int .i64 0] 23)) (w.heap.size + 1) 23 #[.int .i64 0, .string ⟨#[]⟩, .string ⟨#[]⟩, .int .i64 0, .int .i64 0] := bR_
      have hb : Below w.heap.size w ((w.alloc (.cells #[.int .i64 x.k, .int .i64 x.n, .string ⟨x.s.toArray⟩, .slice p x.l.length cap] 26)).alloc (.cells #[.int .i64 0, .string ⟨#[]⟩, .string ⟨#[]⟩, .int .i64 0, .int .i64 0] 23)) := (((Below.refl _ w).alloc (Nat.le_refl _) _).alloc (by simp; try omega) _)
      have hE0 := hE.below hb
      have hx0 := hx.below hb
      clear bR_
      obtain ⟨cX0, cX1, cX2, cX3⟩ := bX.four
      have lX := bX.lt
      go_enter Tryz.func32, Tryz.ntmps32
      go_wp2_with fail
      generalize ((w.alloc (.cells #[.int .i64 x.k, .int .i64 x.n, .string ⟨x.s.toArray⟩, .slice p x.l.length cap] 26)).alloc (.cells #[.int .i64 0, .string ⟨#[]⟩, .string ⟨#[]⟩, .int .i64 0, .int .i64 0] 23)) = w0 at *
      refine (gshapes_of ok x _ rfl _ w0 hx0).mono ?_
      rintro e w1 ⟨⟨u, rfl, A, Q, rfl, hnA, hA, hQ, hP⟩, hc1⟩
      have hb1 := hb.trans (hc1.mono hb.size)
      replace bX := bX.here hc1
      replace bR := bR.here hc1
      have hE1 := hE0.below hc1
      clear hE0
      have hx1 := hx0.below hc1
      clear hx0
      clear hc1 hb
      have HMK := Lib.hid (gshapes_mk ok x _ o HO.out w1 hE1 hx1 HS.out)
      have HQ := Lib.hid hQ
      have HP := Lib.hid hP
      clear hQ hP
      go_wp2_with fail
      refine (fit_anyN A Q _ (by simp) w1 HQ.out HP.out hA (fun _ v W => v = nmW o) (fun _ _ _ _ _ h => h) HMK.out).mono ?_
      rintro e w2 ⟨hf, hc2⟩
      have hb2 := hb1.trans (hc2.mono hb1.size)
      replace bX := bX.here hc2
      replace bR := bR.here hc2
      have hE2 := hE1.below hc2
      clear hE1
      have hx2 := hx1.below hc2
      clear hx1
      have he : e = .returned (.agg #[.int .i64 o.k, .string ⟨o.node.toArray⟩, .string ⟨o.serv.toArray⟩, .int .i64 o.a, .int .i64 o.b]) := by
        rcases hf with ⟨hn, rfl⟩ | ⟨_, _, _, _, _, _, k1, s1, q1, l1, c1, rfl, hv⟩
        · rw [← HO.out, gshapes_no hn]; rfl
        · rw [hv]; rfl
      subst he
      clear hf HMK HQ HP hA hnA
      clear hc2 hb1
      clear cX0 cX1 cX2 cX3 lX
      have hc3 : Below w2.heap.size w2 (w2.alloc (.cells #[.int .i64 o.k, .string ⟨o.node.toArray⟩, .string ⟨o.serv.toArray⟩, .int .i64 o.a, .int .i64 o.b] 23)) := (Below.refl _ _).alloc (Nat.le_refl _) _
      have bE : Blk (w2.alloc (.cells #[.int .i64 o.k, .string ⟨o.node.toArray⟩, .string ⟨o.serv.toArray⟩, .int .i64 o.a, .int .i64 o.b] 23)) w2.heap.size 23 #[.int .i64 o.k, .string ⟨o.node.toArray⟩, .string ⟨o.serv.toArray⟩, .int .i64 o.a, .int .i64 o.b] := Blk.new _ _ _
      have hb3 := hb2.trans (hc3.mono hb2.size)
      replace bX := bX.here hc3
      replace bR := bR.here hc3
      have hE3 := hE2.below hc3
      clear hE2
      have hx3 := hx2.below hc3
      clear hx2
      clear hc3 hb2
      obtain ⟨cE0, cE1, cE2, cE3, cE4⟩ := bE.five
      have lE := bE.lt
      go_wp2_with fail
      generalize (w2.alloc (.cells #[.int .i64 o.k, .string ⟨o.node.toArray⟩, .string ⟨o.serv.toArray⟩, .int .i64 o.a, .int .i64 o.b] 23)) = w3 at *
      refine (jlay_any o.k ⟨o.node.toArray⟩ ⟨o.serv.toArray⟩ o.a o.b w3 hE3 ra rb).mono ?_
      rintro e w4 ⟨⟨k1, m1, s1, p1, l1, c1, rfl, hI⟩, hc4⟩
      have hb4 := hb3.trans (hc4.mono hb3.size)
      replace bX := bX.here hc4
      replace bR := bR.here hc4
      replace bE := bE.here hc4
      have hE4 := hE3.below hc4
      clear hE3
      have hx4 := hx3.below hc4
      clear hx3
      clear hc4 hb3
      rw [HOO.out, HLY.out] at hI ⊢
      clear cE0 cE1 cE2 cE3 cE4 lE
      have hc5 : Below w4.heap.size w4 (w4.alloc (.cells #[.int .i64 k1, .int .i64 m1, .string s1, .slice p1 l1 c1] 26)) := (Below.refl _ _).alloc (Nat.le_refl _) _
      have bO : Blk (w4.alloc (.cells #[.int .i64 k1, .int .i64 m1, .string s1, .slice p1 l1 c1] 26)) w4.heap.size 26 #[.int .i64 k1, .int .i64 m1, .string s1, .slice p1 l1 c1] := Blk.new _ _ _
      have hb5 := hb4.trans (hc5.mono hb4.size)
      replace bX := bX.here hc5
      replace bR := bR.here hc5
      replace bE := bE.here hc5
      have hE5 := hE4.below hc5
      clear hE4
      have hx5 := hx4.below hc5
      clear hx4
      have hI5 := hI.below hc5
      clear hc5 hb4
      obtain ⟨cO0, cO1, cO2, cO3⟩ := bO.four
      have lO := bO.lt
      obtain ⟨cX0, cX1, cX2, cX3⟩ := bX.four
      have lX := bX.lt
      go_wp2_with fail
      generalize (w4.alloc (.cells #[.int .i64 k1, .int .i64 m1, .string s1, .slice p1 l1 c1] 26)) = w5 at *
      refine (same_any _ ok 3 (itmN o) x _ _ w5 (itm_dep o) hI5 hx5).mono ?_
      rintro e w6 ⟨rfl, hc6⟩
      have hb6 := hb5.trans (hc6.mono hb5.size)
      replace bX := bX.here hc6
      replace bR := bR.here hc6
      replace bE := bE.here hc6
      replace bO := bO.here hc6
      have hE6 := hE5.below hc6
      clear hE5
      have hx6 := hx5.below hc6
      clear hx5
      have hI6 := hI5.below hc6
      clear hI5
      clear hc6 hb5
      rw [HS2.out]
      clear cX0 cX1 cX2 cX3 lX
      clear cO0 cO1 cO2 cO3 lO
      obtain ⟨cR0, cR1, cR2, cR3, cR4⟩ := bR.five
      have fR0 := bR.frozen 0
      have fR1 := bR.frozen 1
      have fR2 := bR.frozen 2
      have fR3 := bR.frozen 3
      have fR4 := bR.frozen 4
      have lR := bR.lt
      obtain ⟨cE0, cE1, cE2, cE3, cE4⟩ := bE.five
      have lE := bE.lt
      go_wp2_with fail
      refine bodyPost_ret (res_name2 (bR.set5 _ _ _ _ _) rfl rfl rfl) rfl ⟨rfl, below_sets5 hb6 (by omega) _ _ _ _ _⟩

/-- read: the name, and what is wrong. -/
theorem jread_any (ok : Nat → Prop) (x : Itm) (v : Value) (w : World) (hE : EnvN w) (hx : ItV ok w x v) (hs : (prt x 1).s.length ≤ 4000000000) :
    Calls Tryz.prog 32 #[v] w fun e w' => e = .returned (.tuple #[nmX (nmI x), .int .i64 (erX (nmI x))]) ∧ Below w.heap.size w w' := by
  have h := jread_of ok x v (rgI x) rfl w hE hx hs
  have e := rdX_nmI x
  rw [(Prod.mk.inj e).1, (Prod.mk.inj e).2] at h
  exact h

set_option maxRecDepth 100000 in
set_option maxHeartbeats 2000000 in
theorem tellE_ok (k : Int) (nd sv : ByteArray) (a b : Int) (w : World) :
    Calls Tryz.prog 31 #[.agg #[.int .i64 k, .string nd, .string sv, .int .i64 a, .int .i64 b], .int .i64 0] w fun e w' => e = .returned (.tuple #[.agg #[.int .i64 k, .string nd, .string sv, .int .i64 a, .int .i64 b], .int .i64 0]) ∧ Below w.heap.size w w' := by
  go_enter Tryz.func31, Tryz.ntmps31
  go_wp2_with fail
  exact bodyPost_ret (res_name2 (blk2 _ _ _ _) rfl rfl rfl) rfl ⟨rfl, below2 _ _ _⟩

set_option maxRecDepth 100000 in
set_option maxHeartbeats 2000000 in
theorem tellE_bad (k : Int) (nd sv : ByteArray) (a b : Int) (u : Int) (hu : (u != 0) = true) (w : World) :
    Calls Tryz.prog 31 #[.agg #[.int .i64 k, .string nd, .string sv, .int .i64 a, .int .i64 b], .int .i64 u] w fun e w' => e = .returned (.tuple #[.agg #[.int .i64 0, .string ⟨#[]⟩, .string ⟨#[]⟩, .int .i64 0, .int .i64 0], .int .i64 u]) ∧ Below w.heap.size w w' := by
  go_enter Tryz.func31, Tryz.ntmps31
  go_wp2_with fail
  exact bodyPost_ret (res_name2 ((blk2 _ _ _ _).alloc _) rfl rfl rfl) rfl ⟨rfl, (below2 _ _ _).alloc (by simp; try omega) _⟩

set_option maxRecDepth 100000 in
set_option maxHeartbeats 2000000 in
theorem tellI_ok (k m : Int) (s : ByteArray) (p : Option Addr) (l c : Nat) (w : World) :
    Calls Tryz.prog 26 #[.agg #[.int .i64 k, .int .i64 m, .string s, .slice p l c], .int .i64 0] w fun e w' => e = .returned (.tuple #[.agg #[.int .i64 k, .int .i64 m, .string s, .slice p l c], .int .i64 0]) ∧ Below w.heap.size w w' := by
  go_enter Tryz.func26, Tryz.ntmps26
  go_wp2_with fail
  exact bodyPost_ret (res_item2 (blk2 _ _ _ _) rfl rfl rfl) rfl ⟨rfl, below2 _ _ _⟩

set_option maxRecDepth 100000 in
set_option maxHeartbeats 2000000 in
theorem tellI_bad (k m : Int) (s : ByteArray) (p : Option Addr) (l c : Nat) (u : Int) (hu : (u != 0) = true) (w : World) :
    Calls Tryz.prog 26 #[.agg #[.int .i64 k, .int .i64 m, .string s, .slice p l c], .int .i64 u] w fun e w' => e = .returned (.tuple #[.agg #[.int .i64 0, .int .i64 0, .string ⟨#[]⟩, .slice none 0 0], .int .i64 u]) ∧ Below w.heap.size w w' := by
  go_enter Tryz.func26, Tryz.ntmps26
  go_wp2_with fail
  exact bodyPost_ret (res_item2 ((blk2 _ _ _ _).alloc _) rfl rfl rfl) rfl ⟨rfl, (below2 _ _ _).alloc (by simp; try omega) _⟩

set_option maxRecDepth 100000 in
set_option maxHeartbeats 2000000 in
theorem tellJ_ok (s : ByteArray) (w : World) :
    Calls Tryz.prog 34 #[.string s, .int .i64 0] w fun e w' => e = .returned (.tuple #[.string s, .int .i64 0]) ∧ Below w.heap.size w w' := by
  go_enter Tryz.func34, Tryz.ntmps34
  go_wp2_with fail
  go_ret2
  exact ⟨rfl, Below.refl _ _⟩

set_option maxRecDepth 100000 in
set_option maxHeartbeats 2000000 in
theorem tellJ_bad (s : ByteArray) (u : Int) (hu : (u != 0) = true) (w : World) :
    Calls Tryz.prog 34 #[.string s, .int .i64 u] w fun e w' => e = .returned (.tuple #[.string ⟨#[]⟩, .int .i64 u]) ∧ Below w.heap.size w w' := by
  go_enter Tryz.func34, Tryz.ntmps34
  go_wp2_with fail
  go_ret2
  exact ⟨rfl, Below.refl _ _⟩

set_option maxRecDepth 100000 in
set_option maxHeartbeats 2000000 in
theorem Name_any (ok : Nat → Prop) (x : Itm) (v : Value) (q : Option Nm) (hq : nmI x = q) (w : World) (hE : EnvN w) (hx : ItV ok w x v) (hs : (prt x 1).s.length ≤ 4000000000) :
    Calls Tryz.prog 13 #[v] w fun e w' => e = .returned (.tuple #[nmX q, .int .i64 (erX q)]) ∧ Below w.heap.size w w' := by
  obtain ⟨p, cap, rfl, -, -, -, -, -⟩ := id hx.parts
  have HQ := Lib.hid hq
  clear hq
  cases q with
  | none =>
    have bR_ := Blk.new (w.alloc (.cells #[.int .i64 x.k, .int .i64 x.n, .string ⟨x.s.toArray⟩, .slice p x.l.length cap] 26)) 23 #[.int .i64 0, .string ⟨#[]⟩, .string ⟨#[]⟩, .int .i64 0, .int .i64 0]
    simp only [World.size_alloc] at bR_
    have bX : Blk ((w.alloc (.cells #[.int .i64 x.k, .int .i64 x.n, .string ⟨x.s.toArray⟩, .slice p x.l.length cap] 26)).alloc (.cells #[.int .i64 0, .string ⟨#[]⟩, .string ⟨#[]⟩, .int .i64 0, .int .i64 0] 23)) (w.heap.size) 26 #[.int .i64 x.k, .int .i64 x.n, .string ⟨x.s.toArray⟩, .slice p x.l.length cap] := (Blk.new w _ _).alloc _
    have bR : Blk ((w.alloc (.cells #[.int .i64 x.k, .int .i64 x.n, .string ⟨x.s.toArray⟩, .slice p x.l.length cap] 26)).alloc (.cells #[.int .i64 0, .string ⟨#[]⟩, .string ⟨#[]⟩, .int .i64 0, .int .i64 0] 23)) (w.heap.size + 1) 23 #[.int .i64 0, .string ⟨#[]⟩, .string ⟨#[]⟩, .int .i64 0, .int .i64 0] := bR_
    have hb : Below w.heap.size w ((w.alloc (.cells #[.int .i64 x.k, .int .i64 x.n, .string ⟨x.s.toArray⟩, .slice p x.l.length cap] 26)).alloc (.cells #[.int .i64 0, .string ⟨#[]⟩, .string ⟨#[]⟩, .int .i64 0, .int .i64 0] 23)) := (((Below.refl _ w).alloc (Nat.le_refl _) _).alloc (by simp; try omega) _)
    have hE0 := hE.below hb
    have hx0 := hx.below hb
    clear bR_
    obtain ⟨cX0, cX1, cX2, cX3⟩ := bX.four
    have lX := bX.lt
    unfold nmX erX nmW nmV
    go_enter Tryz.func13, Tryz.ntmps13
    go_wp2_with fail
    generalize ((w.alloc (.cells #[.int .i64 x.k, .int .i64 x.n, .string ⟨x.s.toArray⟩, .slice p x.l.length cap] 26)).alloc (.cells #[.int .i64 0, .string ⟨#[]⟩, .string ⟨#[]⟩, .int .i64 0, .int .i64 0] 23)) = w0 at *
    refine (jread_any ok x _ w0 hE0 hx0 hs).mono ?_
    rintro e w1 ⟨rfl, hc1⟩
    have hb1 := hb.trans (hc1.mono hb.size)
    replace bX := bX.here hc1
    replace bR := bR.here hc1
    have hE1 := hE0.below hc1
    clear hE0
    have hx1 := hx0.below hc1
    clear hx0
    clear hc1 hb
    rw [HQ.out]
    unfold nmX erX nmW nmV
    clear cX0 cX1 cX2 cX3 lX
    go_wp2_with fail
    refine (tellE_bad _ _ _ _ _ 60 (by decide) w1).mono ?_
    rintro e w2 ⟨rfl, hc2⟩
    have hb2 := hb1.trans (hc2.mono hb1.size)
    replace bX := bX.here hc2
    replace bR := bR.here hc2
    have hE2 := hE1.below hc2
    clear hE1
    have hx2 := hx1.below hc2
    clear hx1
    clear hc2 hb1
    obtain ⟨cR0, cR1, cR2, cR3, cR4⟩ := bR.five
    have fR0 := bR.frozen 0
    have fR1 := bR.frozen 1
    have fR2 := bR.frozen 2
    have fR3 := bR.frozen 3
    have fR4 := bR.frozen 4
    have lR := bR.lt
    go_wp2_with fail
    refine bodyPost_ret (res_name2 (bR.set5 _ _ _ _ _) rfl rfl rfl) rfl ⟨rfl, below_sets5 hb2 (by omega) _ _ _ _ _⟩
  | some o =>
    have bR_ := Blk.new (w.alloc (.cells #[.int .i64 x.k, .int .i64 x.n, .string ⟨x.s.toArray⟩, .slice p x.l.length cap] 26)) 23 #[.int .i64 0, .string ⟨#[]⟩, .string ⟨#[]⟩, .int .i64 0, .int .i64 0]
    simp only [World.size_alloc] at bR_
    have bX : Blk ((w.alloc (.cells #[.int .i64 x.k, .int .i64 x.n, .string ⟨x.s.toArray⟩, .slice p x.l.length cap] 26)).alloc (.cells #[.int .i64 0, .string ⟨#[]⟩, .string ⟨#[]⟩, .int .i64 0, .int .i64 0] 23)) (w.heap.size) 26 #[.int .i64 x.k, .int .i64 x.n, .string ⟨x.s.toArray⟩, .slice p x.l.length cap] := (Blk.new w _ _).alloc _
    have bR : Blk ((w.alloc (.cells #[.int .i64 x.k, .int .i64 x.n, .string ⟨x.s.toArray⟩, .slice p x.l.length cap] 26)).alloc (.cells #[.int .i64 0, .string ⟨#[]⟩, .string ⟨#[]⟩, .int .i64 0, .int .i64 0] 23)) (w.heap.size + 1) 23 #[.int .i64 0, .string ⟨#[]⟩, .string ⟨#[]⟩, .int .i64 0, .int .i64 0] := bR_
    have hb : Below w.heap.size w ((w.alloc (.cells #[.int .i64 x.k, .int .i64 x.n, .string ⟨x.s.toArray⟩, .slice p x.l.length cap] 26)).alloc (.cells #[.int .i64 0, .string ⟨#[]⟩, .string ⟨#[]⟩, .int .i64 0, .int .i64 0] 23)) := (((Below.refl _ w).alloc (Nat.le_refl _) _).alloc (by simp; try omega) _)
    have hE0 := hE.below hb
    have hx0 := hx.below hb
    clear bR_
    obtain ⟨cX0, cX1, cX2, cX3⟩ := bX.four
    have lX := bX.lt
    unfold nmX erX nmW nmV
    go_enter Tryz.func13, Tryz.ntmps13
    go_wp2_with fail
    generalize ((w.alloc (.cells #[.int .i64 x.k, .int .i64 x.n, .string ⟨x.s.toArray⟩, .slice p x.l.length cap] 26)).alloc (.cells #[.int .i64 0, .string ⟨#[]⟩, .string ⟨#[]⟩, .int .i64 0, .int .i64 0] 23)) = w0 at *
    refine (jread_any ok x _ w0 hE0 hx0 hs).mono ?_
    rintro e w1 ⟨rfl, hc1⟩
    have hb1 := hb.trans (hc1.mono hb.size)
    replace bX := bX.here hc1
    replace bR := bR.here hc1
    have hE1 := hE0.below hc1
    clear hE0
    have hx1 := hx0.below hc1
    clear hx0
    clear hc1 hb
    rw [HQ.out]
    unfold nmX erX nmW nmV
    clear cX0 cX1 cX2 cX3 lX
    go_wp2_with fail
    refine (tellE_ok o.k ⟨o.node.toArray⟩ ⟨o.serv.toArray⟩ o.a o.b w1).mono ?_
    rintro e w2 ⟨rfl, hc2⟩
    have hb2 := hb1.trans (hc2.mono hb1.size)
    replace bX := bX.here hc2
    replace bR := bR.here hc2
    have hE2 := hE1.below hc2
    clear hE1
    have hx2 := hx1.below hc2
    clear hx1
    clear hc2 hb1
    obtain ⟨cR0, cR1, cR2, cR3, cR4⟩ := bR.five
    have fR0 := bR.frozen 0
    have fR1 := bR.frozen 1
    have fR2 := bR.frozen 2
    have fR3 := bR.frozen 3
    have fR4 := bR.frozen 4
    have lR := bR.lt
    go_wp2_with fail
    refine bodyPost_ret (res_name2 (bR.set5 _ _ _ _ _) rfl rfl rfl) rfl ⟨rfl, below_sets5 hb2 (by omega) _ _ _ _ _⟩

set_option maxRecDepth 100000 in
set_option maxHeartbeats 2000000 in
theorem Item_any (k : Int) (nd sv : ByteArray) (a b : Int) (x : Itm) (u : Int) (hl : layI (nmO k nd sv a b) = (x, u)) (w : World) (hE : EnvN w) (ha : I64 a) (hb9 : I64 b) :
    Calls Tryz.prog 11 #[.agg #[.int .i64 k, .string nd, .string sv, .int .i64 a, .int .i64 b]] w fun e w' => MadeI2 w.heap.size x u e w' ∧ Below w.heap.size w w' := by
  have HL := Lib.hid hl
  by_cases hu : u = 0
  · subst hu
    clear hl
    have bR_ := Blk.new (w.alloc (.cells #[.int .i64 k, .string nd, .string sv, .int .i64 a, .int .i64 b] 23)) 26 #[.int .i64 0, .int .i64 0, .string ⟨#[]⟩, .slice none 0 0]
    simp only [World.size_alloc] at bR_
    have bN : Blk ((w.alloc (.cells #[.int .i64 k, .string nd, .string sv, .int .i64 a, .int .i64 b] 23)).alloc (.cells #[.int .i64 0, .int .i64 0, .string ⟨#[]⟩, .slice none 0 0] 26)) (w.heap.size) 23 #[.int .i64 k, .string nd, .string sv, .int .i64 a, .int .i64 b] := (Blk.new w _ _).alloc _
    have bR : Blk ((w.alloc (.cells #[.int .i64 k, .string nd, .string sv, .int .i64 a, .int .i64 b] 23)).alloc (.cells #[.int .i64 0, .int .i64 0, .string ⟨#[]⟩, .slice none 0 0] 26)) (w.heap.size + 1) 26 #[.int .i64 0, .int .i64 0, .string ⟨#[]⟩, .slice none 0 0] := bR_
    have hb : Below w.heap.size w ((w.alloc (.cells #[.int .i64 k, .string nd, .string sv, .int .i64 a, .int .i64 b] 23)).alloc (.cells #[.int .i64 0, .int .i64 0, .string ⟨#[]⟩, .slice none 0 0] 26)) := (((Below.refl _ w).alloc (Nat.le_refl _) _).alloc (by simp; try omega) _)
    have hE0 := hE.below hb
    clear bR_
    obtain ⟨cN0, cN1, cN2, cN3, cN4⟩ := bN.five
    have lN := bN.lt
    have lw0 := bR.lt
    go_enter Tryz.func11, Tryz.ntmps11
    go_wp2_with fail
    generalize ((w.alloc (.cells #[.int .i64 k, .string nd, .string sv, .int .i64 a, .int .i64 b] 23)).alloc (.cells #[.int .i64 0, .int .i64 0, .string ⟨#[]⟩, .slice none 0 0] 26)) = w0 at *
    refine (jlay_any k nd sv a b w0 hE0 ha hb9).mono ?_
    rintro e w1 ⟨⟨k1, m1, s1, p1, l1, c1, rfl, hI⟩, hc1⟩
    have hb1 := hb.trans (hc1.mono hb.size)
    replace bN := bN.here hc1
    replace bR := bR.here hc1
    have hE1 := hE0.below hc1
    clear hE0
    rw [HL.out] at hI ⊢
    clear hc1 hb
    clear cN0 cN1 cN2 cN3 cN4 lN
    have lR := bR.lt
    go_wp2_with fail
    refine (tellI_ok _ _ _ _ _ _ w1).mono ?_
    rintro e w2 ⟨rfl, hc2⟩
    have hb2 := hb1.trans (hc2.mono hb1.size)
    replace bN := bN.here hc2
    replace bR := bR.here hc2
    have hE2 := hE1.below hc2
    clear hE1
    have hI2 := hI.below hc2
    clear hc2 hb1
    clear lR
    obtain ⟨cR0, cR1, cR2, cR3⟩ := bR.four
    have fR0 := bR.frozen 0
    have fR1 := bR.frozen 1
    have fR2 := bR.frozen 2
    have fR3 := bR.frozen 3
    have lR := bR.lt
    go_wp2_with fail
    refine bodyPost_ret (res_item2 (bR.set4 _ _ _ _) rfl rfl rfl) rfl ⟨MadeI2.done (m := w.heap.size + 1) (hI2.mono (fun b _ hb => Nat.lt_of_lt_of_le lw0 hb)) (Nat.le_refl _) (Nat.le_succ _), below_sets4 hb2 (by omega) _ _ _ _⟩
  · have hub : (u != 0) = true := by simpa using hu
    have hx0 : x = zerI := by
      unfold layI at hl
      split at hl
      · obtain ⟨_, rfl⟩ := Prod.mk.inj hl; exact absurd rfl hu
      · exact (Prod.mk.inj hl).1.symm
    subst hx0
    clear hl hu
    have bR_ := Blk.new (w.alloc (.cells #[.int .i64 k, .string nd, .string sv, .int .i64 a, .int .i64 b] 23)) 26 #[.int .i64 0, .int .i64 0, .string ⟨#[]⟩, .slice none 0 0]
    simp only [World.size_alloc] at bR_
    have bN : Blk ((w.alloc (.cells #[.int .i64 k, .string nd, .string sv, .int .i64 a, .int .i64 b] 23)).alloc (.cells #[.int .i64 0, .int .i64 0, .string ⟨#[]⟩, .slice none 0 0] 26)) (w.heap.size) 23 #[.int .i64 k, .string nd, .string sv, .int .i64 a, .int .i64 b] := (Blk.new w _ _).alloc _
    have bR : Blk ((w.alloc (.cells #[.int .i64 k, .string nd, .string sv, .int .i64 a, .int .i64 b] 23)).alloc (.cells #[.int .i64 0, .int .i64 0, .string ⟨#[]⟩, .slice none 0 0] 26)) (w.heap.size + 1) 26 #[.int .i64 0, .int .i64 0, .string ⟨#[]⟩, .slice none 0 0] := bR_
    have hb : Below w.heap.size w ((w.alloc (.cells #[.int .i64 k, .string nd, .string sv, .int .i64 a, .int .i64 b] 23)).alloc (.cells #[.int .i64 0, .int .i64 0, .string ⟨#[]⟩, .slice none 0 0] 26)) := (((Below.refl _ w).alloc (Nat.le_refl _) _).alloc (by simp; try omega) _)
    have hE0 := hE.below hb
    clear bR_
    obtain ⟨cN0, cN1, cN2, cN3, cN4⟩ := bN.five
    have lN := bN.lt
    have lw0 := bR.lt
    go_enter Tryz.func11, Tryz.ntmps11
    go_wp2_with fail
    generalize ((w.alloc (.cells #[.int .i64 k, .string nd, .string sv, .int .i64 a, .int .i64 b] 23)).alloc (.cells #[.int .i64 0, .int .i64 0, .string ⟨#[]⟩, .slice none 0 0] 26)) = w0 at *
    refine (jlay_any k nd sv a b w0 hE0 ha hb9).mono ?_
    rintro e w1 ⟨⟨k1, m1, s1, p1, l1, c1, rfl, hI⟩, hc1⟩
    have hb1 := hb.trans (hc1.mono hb.size)
    replace bN := bN.here hc1
    replace bR := bR.here hc1
    have hE1 := hE0.below hc1
    clear hE0
    rw [HL.out] at hI ⊢
    clear hc1 hb
    clear cN0 cN1 cN2 cN3 cN4 lN
    clear hI
    have lR := bR.lt
    go_wp2_with fail
    refine (tellI_bad _ _ _ _ _ _ u hub w1).mono ?_
    rintro e w2 ⟨rfl, hc2⟩
    have hb2 := hb1.trans (hc2.mono hb1.size)
    replace bN := bN.here hc2
    replace bR := bR.here hc2
    have hE2 := hE1.below hc2
    clear hE1
    clear hc2 hb1
    clear lR
    obtain ⟨cR0, cR1, cR2, cR3⟩ := bR.four
    have fR0 := bR.frozen 0
    have fR1 := bR.frozen 1
    have fR2 := bR.frozen 2
    have fR3 := bR.frozen 3
    have lR := bR.lt
    go_wp2_with fail
    refine bodyPost_ret (res_item2 (bR.set4 _ _ _ _) rfl rfl rfl) rfl ⟨MadeI2.done (m := w.heap.size + 1) itv_zero (Nat.le_refl _) (Nat.le_succ _), below_sets4 hb2 (by omega) _ _ _ _⟩

end Go.Proofs.YtmbmolgkccjedaaGreatDoor
