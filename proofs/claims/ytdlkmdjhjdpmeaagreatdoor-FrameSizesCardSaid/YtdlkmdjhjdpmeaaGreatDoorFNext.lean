/- next of package frame's scanner: the record whose frame stands at the place, or none's. -/
import Derived.Test.YtdlkmdjhjdpmeaaGreatDoorFText
import Derived.Test.YtdlkmdjhjdpmeaaGreatDoorFwd
import Derived.Test.YtdlkmdjhjdpmeaaGreatDoorStr
import Derived.Test.YtdlkmdjhjdpmeaaGreatDoorSkip
set_option linter.unusedVariables false
set_option linter.unusedSimpArgs false
namespace Go.Proofs.YtdlkmdjhjdpmeaaGreatDoor
open Go.RowKit

theorem fnum_in (X n : Nat) (t : TypeId) (s : ByteArray) (a k : Int) (tv : Value) (w : World) (hE : FrN n w) (hnX : n ≤ X) (hX : Blk w X t #[.string s, .int .i64 a, tv]) (hs : s.size ≤ 1000000) (h0 : 0 ≤ a + k) (h1 : a + k ≤ 4611686018427387904) :
    Calls Tryz.prog 57 #[.pointer (some ⟨X, 0, none⟩), .int .i64 k] w fun e w' => e = .returned (.int .i64 (takeR s a k).1) ∧ Blk w' X t #[.string s, .int .i64 (a + k), tv] ∧ Only X X w w' :=
  (fnum_any X n t s a k tv w hE hnX hX (by omega)).mono fun e w' ⟨h2, h3, h4⟩ => ⟨h2, by rwa [show wrap64 (a + k) = a + k by unfold wrap64; omega] at h3, h4⟩
theorem fcut_in (X n : Nat) (t : TypeId) (s : ByteArray) (a k : Int) (tv : Value) (w : World) (hE : FrN n w) (hnX : n ≤ X) (hX : Blk w X t #[.string s, .int .i64 a, tv]) (hs : s.size ≤ 1000000) (h0 : 0 ≤ a + k) (h1 : a + k ≤ 4611686018427387904) :
    Calls Tryz.prog 58 #[.pointer (some ⟨X, 0, none⟩), .int .i64 k] w fun e w' => e = .returned (.string (cutR s a k).1) ∧ Blk w' X t #[.string s, .int .i64 (a + k), tv] ∧ Only X X w w' :=
  (fcut_any X n t s a k tv w hE hnX hX (by omega)).mono fun e w' ⟨h2, h3, h4⟩ => ⟨h2, by rwa [show wrap64 (a + k) = a + k by unfold wrap64; omega] at h3, h4⟩

theorem takeR_rng (s : ByteArray) (a k : Int) : 0 ≤ (takeR s a k).1 ∧ (takeR s a k).1 ≤ 281474976710655 := by
  unfold takeR
  split
  · exact ⟨by decide, by decide⟩
  · split
    · exact ⟨by decide, by decide⟩
    · split
      · constructor <;> simp only <;> omega
      · exact ⟨by decide, by decide⟩
theorem takeR_at {s : ByteArray} {a k : Int} (h : (takeR s a k).1 ≠ 0) : 0 ≤ a ∧ a + k ≤ s.size ∧ 1 ≤ k := by
  unfold takeR at h
  split at h
  · exact absurd rfl h
  · split at h
    · exact absurd rfl h
    · rename_i h1 h2
      have h2 := Decidable.not_not.1 h2
      exact ⟨h2.1, h2.2.2, by omega⟩

theorem next_res {B : Nat} {x y z : Value} {W : World} {tmps : Array Value} (c : W.cell? ⟨B, 0, none⟩ = some x ∧ W.cell? ⟨B, 1, none⟩ = some y ∧ W.cell? ⟨B, 2, none⟩ = some z) (h2 : tmps[2]?.getD undef = .pointer (some ⟨B, 0, none⟩) := by rfl) : (results Tryz.f46 tmps).run Tryz.prog W = .ok (.agg #[x, y, z]) W := by
  obtain ⟨c0, c1, c2⟩ := c
  simp [results, Tryz.results46, go_sem, h2, c0, c1, c2]
/-- Three cells written anew in a new block, and what else lies there. -/
theorem set3_only {X B : Nat} {u w : World} (h : Only X X u w) (hB : u.heap.size ≤ B) (x y z : Value) : Only X X u (((w.setCell ⟨B, 0, none⟩ x).setCell ⟨B, 1, none⟩ y).setCell ⟨B, 2, none⟩ z) :=
  ((h.fresh (p := ⟨B, 0, none⟩) hB x).fresh (p := ⟨B, 1, none⟩) hB y).fresh (p := ⟨B, 2, none⟩) hB z
theorem set3_blk {X B : Nat} {w : World} {t : TypeId} {cs : Array Value} (h : Blk w X t cs) (hne : X ≠ B) (x y z : Value) : Blk (((w.setCell ⟨B, 0, none⟩ x).setCell ⟨B, 1, none⟩ y).setCell ⟨B, 2, none⟩ z) X t cs :=
  ((h.far (p := ⟨B, 0, none⟩) hne x).far (p := ⟨B, 1, none⟩) hne y).far (p := ⟨B, 2, none⟩) hne z
theorem cells_alloc {B : Nat} {x y z : Value} {W : World} (o : Obj) (c : W.cell? ⟨B, 0, none⟩ = some x ∧ W.cell? ⟨B, 1, none⟩ = some y ∧ W.cell? ⟨B, 2, none⟩ = some z) : (W.alloc o).cell? ⟨B, 0, none⟩ = some x ∧ (W.alloc o).cell? ⟨B, 1, none⟩ = some y ∧ (W.alloc o).cell? ⟨B, 2, none⟩ = some z := by
  have hb : Below W.heap.size W (W.alloc o) := (Below.refl _ _).alloc (Nat.le_refl _) _
  exact ⟨(hb.cell (World.block_lt_of_cell? _ _ c.1)).trans c.1, (hb.cell (World.block_lt_of_cell? _ _ c.2.1)).trans c.2.1, (hb.cell (World.block_lt_of_cell? _ _ c.2.2)).trans c.2.2⟩

/-- What next answers. -/
def NextR (X : Nat) (s : ByteArray) (a : Int) (w : World) (e : Ending) (w' : World) : Prop :=
  ∃ tv', Only X X w w' ∧ TabV X w' tv' ∧ ((∃ r, decO s a = some r ∧ e = .returned (rcV r) ∧ Blk w' X 66 #[.string s, .int .i64 (a + 14 + (r.data.size : Int)), tv']) ∨ (decO s a = none ∧ e = .returned (rcV zeroRc) ∧ Blk w' X 66 #[.string s, .int .i64 a, tv']))

set_option maxRecDepth 100000 in
set_option maxHeartbeats 2000000 in
theorem next_no (X n : Nat) (s : ByteArray) (a : Int) (tv : Value) (w : World) (hE : FrN n w) (hnX : n ≤ X) (hX : Blk w X 66 #[.string s, .int .i64 a, tv]) (ht : TabV X w tv) (hs : s.size ≤ 1000000) (hne : ((takeR s a 1).1 == 225) = false) :
    Calls Tryz.prog 46 #[.pointer (some ⟨X, 0, none⟩)] w (NextR X s a w) := by
  have hd : decO s a = none := decO_none.2 fun r hr => by
    obtain ⟨m, rfl⟩ := Int.eq_ofNat_of_zero_le hr.1
    rw [(rough_of_frame hr).2.1] at hne
    simp at hne
  have hne2 : ((takeR s a 1).1 != 225) = true := by simpa [bne] using hne
  have c1 : w.cell? ⟨X, 1, none⟩ = some (.int .i64 a) := hX.cell 1
  have hXl := hX.lt
  have HD := Lib.hid hd
  have HX := Lib.hid hX
  have HE := Lib.hid hE
  have HT := Lib.hid ht
  clear hX hE ht hd hne
  go_enter Tryz.func46, Tryz.ntmps46
  go_wp2
  refine wp_scope_fwd 0 rfl ?_
  go_wp2_with fail
  have hb0 : Below w.heap.size w ((w.alloc (.cells #[.int .i64 0, .int .i64 0, .string ⟨#[]⟩] 23)).alloc (.cells #[.int .i64 0, .int .i64 0, .string ⟨#[]⟩] 23)) := ((Below.refl _ _).alloc (Nat.le_refl _) _).alloc (by simp) _
  refine (fnum_any X n _ s a 1 tv _ (HE.out.below hb0) hnX (HX.out.here hb0) (by omega)).mono ?_
  rintro e w1 ⟨rfl, hX1, ho1⟩
  have hR1 : Blk w1 w.heap.size 23 #[.int .i64 0, .int .i64 0, .string ⟨#[]⟩] := ((Blk.new w _ _).alloc _).only ho1 (by omega) (by omega)
  have hO1 : Only X X w w1 := (Only.ofBelow hb0).trans ho1
  have hz1 : w.heap.size + 1 < w1.heap.size := by have := ho1.size; simp at this; omega
  have e1 : w1.cell? ⟨X, 1, none⟩ = some (.int .i64 (wrap64 (a + 1))) := hX1.cell 1
  have f1 := hX1.frozen 1
  have HX1 := Lib.hid hX1
  have HR1 := Lib.hid hR1
  have HO1 := Lib.hid hO1
  clear hX1 hR1 ho1 hO1 hb0
  go_wp2
  go_step3
  refine ⟨rfl, ?_⟩
  go_wp2_with fail
  have hX2 : Blk (w1.setCell ⟨X, 1, none⟩ (.int .i64 a)) X 66 #[.string s, .int .i64 a, tv] := by simpa using HX1.out.set_ 1 (.int .i64 a)
  have hR2 : Blk (w1.setCell ⟨X, 1, none⟩ (.int .i64 a)) w.heap.size 23 #[.int .i64 0, .int .i64 0, .string ⟨#[]⟩] := HR1.out.far (by simp; omega) _
  have hO2 : Only X X w (w1.setCell ⟨X, 1, none⟩ (.int .i64 a)) := HO1.out.sa 1 _
  have hz2 : w.heap.size < (w1.setCell ⟨X, 1, none⟩ (.int .i64 a)).heap.size := hR2.lt
  generalize w1.setCell ⟨X, 1, none⟩ (.int .i64 a) = w2 at hX2 hR2 hO2 hz2 ⊢
  clear e1 f1 HX1 HR1 HO1 hz1
  have r0 : w2.cell? ⟨w.heap.size, 0, none⟩ = some (.int .i64 0) := hR2.cell 0
  have r1 : w2.cell? ⟨w.heap.size, 1, none⟩ = some (.int .i64 0) := hR2.cell 1
  have r2 : w2.cell? ⟨w.heap.size, 2, none⟩ = some (.string ⟨#[]⟩) := hR2.cell 2
  have q0 := hR2.frozen 0
  have q1 := hR2.frozen 1
  have q2 := hR2.frozen 2
  have HX2 := Lib.hid hX2
  have HO2 := Lib.hid hO2
  clear hX2 hR2 hO2
  refine (fnone_any _).mono ?_
  rintro e w' ⟨rfl, rfl⟩
  go_wp2
  rw [Exit.noGoto_ret]
  have hO3 := (set3_only HO2.out (Nat.le_refl _) (.int .i64 0) (.int .i64 0) (.string ⟨#[]⟩)).alloc (.cells #[.int .i64 0, .int .i64 0, .string ⟨#[]⟩] 23)
  refine bodyPost_ret (v := rcV zeroRc) (next_res (cells_alloc _ (set3_cells r0 r1 r2))) rfl ⟨tv, hO3, HT.out.only hO3, .inr ⟨HD.out, rfl, ?_⟩⟩
  exact (set3_blk HX2.out (by omega) _ _ _).alloc _

theorem Blk.set3 {w : World} {B : Nat} {t : TypeId} {x y z : Value} (h : Blk w B t #[x, y, z]) (a b c : Value) : Blk (((w.setCell ⟨B, 0, none⟩ a).setCell ⟨B, 1, none⟩ b).setCell ⟨B, 2, none⟩ c) B t #[a, b, c] := by
  simpa using ((h.set_ 0 a).set_ 1 b).set_ 2 c

theorem no32 {s : ByteArray} {a : Int} {tv : Value} {X : Nat} {w : World} (h : TabV X w tv) : NoU32 #[.string s, .int .i64 a, tv] := by
  intro j x
  rcases h with rfl | ⟨A, c, rfl, _⟩
  all_goals (rcases j with _ | _ | _ | j <;> simp)

theorem rough_spell (s : ByteArray) (a : Int) : roughR s a = ⟨(takeR s (a + 1) 1).1, (takeR s (a + 1 + 1) 6).1, (cutR s (a + 1 + 1 + 6 + 2) (takeR s (a + 1 + 1 + 6) 2).1).1⟩ := by
  unfold roughR
  rw [show a + 1 + 1 = a + 2 by omega, show a + 2 + 6 = a + 8 by omega, show a + 8 + 2 = a + 10 by omega]

set_option maxRecDepth 100000 in
set_option maxHeartbeats 4000000 in
theorem next_of (X n : Nat) (s d rest fr : ByteArray) (a p i m : Int) (br bp : Bool) (tv : Value) (w : World) (hE : FrN n w) (hnX : n ≤ X) (hX : Blk w X 66 #[.string s, .int .i64 a, tv]) (ht : TabV X w tv) (hs : s.size ≤ 1000000)
    (ha0 : 0 ≤ a) (ha1 : a ≤ s.size) (h225 : (takeR s a 1).1 = 225) (hp : (takeR s (a + 1) 1).1 = p) (hi : (takeR s (a + 1 + 1) 6).1 = i) (hm : (takeR s (a + 1 + 1 + 6) 2).1 = m) (hd : (cutR s (a + 1 + 1 + 6 + 2) m).1 = d)
    (hbr : rcB ⟨p, i, d⟩ = br) (hrest : s.extract a.toNat s.size = rest) (hbp : br = true → Lib.hasPrefix rest.data.toList (frL ⟨p, i, d⟩) = bp) :
    Calls Tryz.prog 46 #[.pointer (some ⟨X, 0, none⟩)] w fun e w' => ∃ tv', Only X X w w' ∧ TabV X w' tv' ∧ ((br = true ∧ bp = true ∧ e = .returned (rcV ⟨p, i, d⟩) ∧ Blk w' X 66 #[.string s, .int .i64 (a + 1 + 1 + 6 + 2 + m + 4), tv']) ∨ ((br && bp) = false ∧ e = .returned (rcV zeroRc) ∧ Blk w' X 66 #[.string s, .int .i64 a, tv'])) := by
  have hmr := takeR_rng s (a + 1 + 1 + 6) 2
  rw [hm] at hmr
  obtain ⟨hm0, hm1⟩ := hmr
  have c1 : w.cell? ⟨X, 1, none⟩ = some (.int .i64 a) := hX.cell 1
  have hXl := hX.lt
  have HX := Lib.hid hX
  have HE := Lib.hid hE
  have HT := Lib.hid ht
  have H225 := Lib.hid h225
  have HP := Lib.hid hp
  have HI := Lib.hid hi
  have HM := Lib.hid hm
  have HD := Lib.hid hd
  have HBR := Lib.hid hbr
  have HRE := Lib.hid hrest
  have HBP := Lib.hid hbp
  clear hX hE ht h225 hp hi hm hd hbr hrest hbp
  go_enter Tryz.func46, Tryz.ntmps46
  go_wp2
  refine wp_scope_fwd 0 rfl ?_
  go_wp2_with fail
  have hb0 : Below w.heap.size w ((w.alloc (.cells #[.int .i64 0, .int .i64 0, .string ⟨#[]⟩] 23)).alloc (.cells #[.int .i64 0, .int .i64 0, .string ⟨#[]⟩] 23)) := ((Below.refl _ _).alloc (Nat.le_refl _) _).alloc (by simp) _
  refine (fnum_in X n _ s a 1 tv _ (HE.out.below hb0) hnX (HX.out.here hb0) hs (by omega) (by omega)).mono ?_
  rintro e w1 ⟨rfl, hX1, ho1⟩
  rw [H225.out]
  have hR1 : Blk w1 w.heap.size 23 #[.int .i64 0, .int .i64 0, .string ⟨#[]⟩] := ((Blk.new w _ _).alloc _).only ho1 (by omega) (by omega)
  have hQ1 : Blk w1 (w.heap.size + 1) 23 #[.int .i64 0, .int .i64 0, .string ⟨#[]⟩] := by
    have := Blk.new (w.alloc (.cells #[.int .i64 0, .int .i64 0, .string ⟨#[]⟩] 23)) 23 #[.int .i64 0, .int .i64 0, .string ⟨#[]⟩]
    rw [World.size_alloc] at this
    exact this.only ho1 (by omega) (by omega)
  have hO1 : Only X X w w1 := (Only.ofBelow hb0).trans ho1
  have hE1 := HE.out.only hO1 hnX hnX
  have HR1 := Lib.hid hR1
  clear hb0 ho1 c1 hR1
  go_wp2_with fail
  have hcx : Blk w1.drew X 66 #[.string s, .int .i64 (a + 1), tv] := hX1
  have hcq : Blk w1.drew (w.heap.size + 1) 23 #[.int .i64 0, .int .i64 0, .string ⟨#[]⟩] := hQ1
  have hco : Only X X w1 w1.drew := (Only.refl X X w1).drew
  have hce : FrN n w1.drew := hE1.only hco hnX hnX
  have hk1 : w1.cell? ⟨X, 0, none⟩ = some (.string s) := hX1.cell 0
  have hk0 : w1.drew.cell? ⟨X, 0, none⟩ = some (.string s) := hX1.cell 0
  go_region_held3 (fun w' => w'.cell? ⟨X, 0, none⟩ = some (.string s))
    (first
      | (with_reducible exact hk0)
      | (with_reducible exact hk1)
      | exact (set3_blk hcx (by omega) _ _ _).cell 0)
    (first
      | ((go_at_call 57; refine (fnum_in X n _ s _ _ tv _ hce hnX hcx hs (by omega) (by omega)).mono ?_; rintro e v1 ⟨rfl, hx1, ho1⟩; replace hcx := hx1; replace hk0 := hcx.cell 0; simp only [List.getElem?_toArray, List.getElem?_cons_zero] at hk0; replace hcq := hcq.only ho1 (by omega) (by omega); replace hco := hco.trans ho1; replace hce := hce.only ho1 hnX hnX; clear hx1 ho1))
      | ((go_at_call 58; rw [HM.out]; refine (fcut_in X n _ s _ _ tv _ hce hnX hcx hs (by omega) (by omega)).mono ?_; rintro e v4 ⟨rfl, hx1, ho1⟩; rw [HP.out, HI.out, HD.out]; replace hcx := hx1; replace hk0 := hcx.cell 0; simp only [List.getElem?_toArray, List.getElem?_cons_zero] at hk0; replace hcq := hcq.only ho1 (by omega) (by omega); replace hco := hco.trans ho1; replace hce := hce.only ho1 hnX hnX; clear hx1 ho1; have k0 : v4.cell? ⟨w.heap.size + 1, 0, none⟩ = some (.int .i64 0) := hcq.cell 0; have k1 : v4.cell? ⟨w.heap.size + 1, 1, none⟩ = some (.int .i64 0) := hcq.cell 1; have k2 : v4.cell? ⟨w.heap.size + 1, 2, none⟩ = some (.string ⟨#[]⟩) := hcq.cell 2; have j0 := hcq.frozen 0; have j1 := hcq.frozen 1; have j2 := hcq.frozen 2)))
  have hX5 := set3_blk hcx (show X ≠ w.heap.size + 1 by omega) (.int .i64 p) (.int .i64 i) (.string d)
  have hQ5 := hcq.set3 (.int .i64 p) (.int .i64 i) (.string d)
  have hO5 : Only X X w (((v4.setCell ⟨w.heap.size + 1, 0, none⟩ (.int .i64 p)).setCell ⟨w.heap.size + 1, 1, none⟩ (.int .i64 i)).setCell ⟨w.heap.size + 1, 2, none⟩ (.string d)) := set3_only (hO1.trans hco) (by omega) _ _ _
  have hR5 : Blk (((v4.setCell ⟨w.heap.size + 1, 0, none⟩ (.int .i64 p)).setCell ⟨w.heap.size + 1, 1, none⟩ (.int .i64 i)).setCell ⟨w.heap.size + 1, 2, none⟩ (.string d)) w.heap.size 23 #[.int .i64 0, .int .i64 0, .string ⟨#[]⟩] := set3_blk (HR1.out.only hco (by omega) (by omega)) (by omega) _ _ _
  have hE5 := HE.out.only hO5 hnX hnX
  have hT5 := HT.out.only hO5
  generalize ((v4.setCell ⟨w.heap.size + 1, 0, none⟩ (.int .i64 p)).setCell ⟨w.heap.size + 1, 1, none⟩ (.int .i64 i)).setCell ⟨w.heap.size + 1, 2, none⟩ (.string d) = w5 at hX5 hQ5 hO5 hR5 hE5 hT5 ⊢
  clear hcx hcq hco hce hk0 hk1 k0 k1 k2 j0 j1 j2 hX1 hQ1 hO1 hE1 HR1
  have g0 : w5.cell? ⟨w.heap.size + 1, 0, none⟩ = some (.int .i64 p) := hQ5.cell 0
  have g1 : w5.cell? ⟨w.heap.size + 1, 1, none⟩ = some (.int .i64 i) := hQ5.cell 1
  have g2 : w5.cell? ⟨w.heap.size + 1, 2, none⟩ = some (.string d) := hQ5.cell 2
  have hz5 := hQ5.lt
  have hds : d.size ≤ 9223372036854775807 := by
    have : d.size ≤ s.size := by
      rw [← HD.out]
      unfold cutR
      split
      · exact extract_le _ _ _
      · exact Nat.zero_le _
    omega
  cases br with
  | false =>
    have HX5 := Lib.hid hX5
    have HR5 := Lib.hid hR5
    have HO5 := Lib.hid hO5
    have HT5 := Lib.hid hT5
    clear hX5 hR5 hO5 hT5 hQ5
    go_wp2_with fail
    refine wp_region_held_drew (S := fun _ => True) (by kernel_rfl) trivial (fun _ => ?_)
    show wpAnyH _ _ _ _ _ 18 #[false, false, false, false, false, false, false, false, false, false, false, false, false, false, false, false, false, false] _ _
    refine wpAnyH_ready (rs := [0]) (by kernel_rfl) (by simp) ?_
    refine AllReadyH.cons rfl (fun K hK => ?_) AllReadyH.nil
    go_simp
    refine hK.out _ _ trivial (fun _ => ?_)
    clear hK K
    try simp only [Act.put, List.setIfInBounds_toArray, List.set_cons_zero, List.set_cons_succ]
    refine wpAnyH_ready (rs := [1]) (by kernel_rfl) (by simp) ?_
    refine AllReadyH.cons rfl (fun K hK => ?_) AllReadyH.nil
    go_simp
    refine (fwrong_t HBR.out _ hds).mono ?_
    rintro e v6 ⟨rfl, hb6⟩
    refine hK.out _ _ trivial (fun _ => ?_)
    clear hK K
    try simp only [Act.put, List.setIfInBounds_toArray, List.set_cons_zero, List.set_cons_succ]
    refine wpAnyH_take (i := 2) (oi := { dst := some 34, op := Op.move (Operand.tmp 33), type := 4, pos := _, after := _, guard := none }) (v := .bool true) rfl (by kernel_rfl) (by kernel_rfl) (by kernel_rfl) (fun _ _ _ h => h) (Or.inl ⟨by rfl, fun w _ => by go_simp⟩) trivial ?_
    try simp only [Act.put, List.setIfInBounds_toArray, List.set_cons_zero, List.set_cons_succ]
    refine take_skip 3 (b := true) (by kernel_rfl) (by kernel_rfl) (by kernel_rfl) rfl rfl rfl rfl rfl rfl (fun _ _ _ h => h) trivial ?_
    simp only [List.setIfInBounds_toArray, List.set_cons_zero, List.set_cons_succ]
    refine take_skip 4 (b := true) (by kernel_rfl) (by kernel_rfl) (by kernel_rfl) rfl rfl rfl rfl rfl rfl (fun _ _ _ h => h) trivial ?_
    simp only [List.setIfInBounds_toArray, List.set_cons_zero, List.set_cons_succ]
    refine take_skip 5 (b := true) (by kernel_rfl) (by kernel_rfl) (by kernel_rfl) rfl rfl rfl rfl rfl rfl (fun _ _ _ h => h) trivial ?_
    simp only [List.setIfInBounds_toArray, List.set_cons_zero, List.set_cons_succ]
    refine take_skip 6 (b := true) (by kernel_rfl) (by kernel_rfl) (by kernel_rfl) rfl rfl rfl rfl rfl rfl (fun _ _ _ h => h) trivial ?_
    simp only [List.setIfInBounds_toArray, List.set_cons_zero, List.set_cons_succ]
    refine take_skip 7 (b := true) (by kernel_rfl) (by kernel_rfl) (by kernel_rfl) rfl rfl rfl rfl rfl rfl (fun _ _ _ h => h) trivial ?_
    simp only [List.setIfInBounds_toArray, List.set_cons_zero, List.set_cons_succ]
    refine take_skip 8 (b := true) (by kernel_rfl) (by kernel_rfl) (by kernel_rfl) rfl rfl rfl rfl rfl rfl (fun _ _ _ h => h) trivial ?_
    simp only [List.setIfInBounds_toArray, List.set_cons_zero, List.set_cons_succ]
    refine take_skip 9 (b := true) (by kernel_rfl) (by kernel_rfl) (by kernel_rfl) rfl rfl rfl rfl rfl rfl (fun _ _ _ h => h) trivial ?_
    simp only [List.setIfInBounds_toArray, List.set_cons_zero, List.set_cons_succ]
    refine take_skip 10 (b := true) (by kernel_rfl) (by kernel_rfl) (by kernel_rfl) rfl rfl rfl rfl rfl rfl (fun _ _ _ h => h) trivial ?_
    simp only [List.setIfInBounds_toArray, List.set_cons_zero, List.set_cons_succ]
    refine take_skip 11 (b := true) (by kernel_rfl) (by kernel_rfl) (by kernel_rfl) rfl rfl rfl rfl rfl rfl (fun _ _ _ h => h) trivial ?_
    simp only [List.setIfInBounds_toArray, List.set_cons_zero, List.set_cons_succ]
    refine take_skip 12 (b := true) (by kernel_rfl) (by kernel_rfl) (by kernel_rfl) rfl rfl rfl rfl rfl rfl (fun _ _ _ h => h) trivial ?_
    simp only [List.setIfInBounds_toArray, List.set_cons_zero, List.set_cons_succ]
    refine take_skip 13 (b := true) (by kernel_rfl) (by kernel_rfl) (by kernel_rfl) rfl rfl rfl rfl rfl rfl (fun _ _ _ h => h) trivial ?_
    simp only [List.setIfInBounds_toArray, List.set_cons_zero, List.set_cons_succ]
    refine take_skip 14 (b := true) (by kernel_rfl) (by kernel_rfl) (by kernel_rfl) rfl rfl rfl rfl rfl rfl (fun _ _ _ h => h) trivial ?_
    simp only [List.setIfInBounds_toArray, List.set_cons_zero, List.set_cons_succ]
    refine take_skip 15 (b := true) (by kernel_rfl) (by kernel_rfl) (by kernel_rfl) rfl rfl rfl rfl rfl rfl (fun _ _ _ h => h) trivial ?_
    simp only [List.setIfInBounds_toArray, List.set_cons_zero, List.set_cons_succ]
    refine take_skip 16 (b := true) (by kernel_rfl) (by kernel_rfl) (by kernel_rfl) rfl rfl rfl rfl rfl rfl (fun _ _ _ h => h) trivial ?_
    simp only [List.setIfInBounds_toArray, List.set_cons_zero, List.set_cons_succ]
    refine wpAnyH_take (i := 17) (oi := { dst := some 49, op := Op.pick (Operand.tmp 34) (Operand.const (Value.bool true)) (Operand.tmp 48), type := 4, pos := _, after := _, guard := none }) (v := .bool true) rfl (by kernel_rfl) (by kernel_rfl) (by kernel_rfl) (fun _ _ _ h => h) (Or.inl ⟨by rfl, fun w _ => by go_simp⟩) trivial ?_
    try simp only [Act.put, List.setIfInBounds_toArray, List.set_cons_zero, List.set_cons_succ]
    refine wpAnyH_done (by kernel_rfl) ?_ _
    replace hb6 : Below w5.heap.size w5 v6 := (Below.refl w5.heap.size w5).drew.trans hb6
    have HX6 := Lib.hid (HX5.out.here hb6)
    have HR6 := Lib.hid (HR5.out.here hb6)
    have HO6 := Lib.hid (HO5.out.below hb6)
    have HT6 := Lib.hid (HT5.out.below hb6)
    clear HX5 HR5 HO5 HT5 hb6 g0 g1 g2
    have e1 : v6.cell? ⟨X, 1, none⟩ = some (.int .i64 (a + 1 + 1 + 6 + 2 + m)) := HX6.out.cell 1
    have f1 := HX6.out.frozen 1
    go_wp2
    go_step3
    refine ⟨rfl, ?_⟩
    go_wp2_with fail
    have hX2 : Blk (v6.setCell ⟨X, 1, none⟩ (.int .i64 a)) X 66 #[.string s, .int .i64 a, tv] := by simpa using HX6.out.set_ 1 (.int .i64 a)
    have hR2 : Blk (v6.setCell ⟨X, 1, none⟩ (.int .i64 a)) w.heap.size 23 #[.int .i64 0, .int .i64 0, .string ⟨#[]⟩] := HR6.out.far (by simp; omega) _
    have hO2 : Only X X w (v6.setCell ⟨X, 1, none⟩ (.int .i64 a)) := HO6.out.sa 1 _
    have hT2 : TabV X (v6.setCell ⟨X, 1, none⟩ (.int .i64 a)) tv := HT6.out.only ((Only.refl X X _).sa 1 _)
    have hz2 : w.heap.size < (v6.setCell ⟨X, 1, none⟩ (.int .i64 a)).heap.size := hR2.lt
    generalize v6.setCell ⟨X, 1, none⟩ (.int .i64 a) = w9 at hX2 hR2 hO2 hT2 hz2 ⊢
    clear e1 f1 HX6 HR6 HO6 HT6
    have r0 : w9.cell? ⟨w.heap.size, 0, none⟩ = some (.int .i64 0) := hR2.cell 0
    have r1 : w9.cell? ⟨w.heap.size, 1, none⟩ = some (.int .i64 0) := hR2.cell 1
    have r2 : w9.cell? ⟨w.heap.size, 2, none⟩ = some (.string ⟨#[]⟩) := hR2.cell 2
    have q0 := hR2.frozen 0
    have q1 := hR2.frozen 1
    have q2 := hR2.frozen 2
    have HX2 := Lib.hid hX2
    have HO2 := Lib.hid hO2
    have HT2 := Lib.hid hT2
    have HR2 := Lib.hid hR2
    clear hX2 hR2 hO2 hT2
    refine (fnone_any _).mono ?_
    rintro e w' ⟨rfl, rfl⟩
    go_wp2
    rw [Exit.noGoto_ret]
    have hO3 := (set3_only HO2.out (Nat.le_refl _) (.int .i64 0) (.int .i64 0) (.string ⟨#[]⟩)).alloc (.cells #[.int .i64 0, .int .i64 0, .string ⟨#[]⟩] 23)
    refine bodyPost_ret (v := rcV zeroRc) (next_res (cells_alloc _ (set3_cells r0 r1 r2))) rfl ⟨tv, hO3, HT2.out.only2 HR2.out (by decide) (((((Only.refl X w.heap.size w9).sb 0 (.int .i64 0)).sb 1 (.int .i64 0)).sb 2 (.string ⟨#[]⟩)).alloc (.cells #[.int .i64 0, .int .i64 0, .string ⟨#[]⟩] 23)), .inr ⟨rfl, rfl, ?_⟩⟩
    exact (set3_blk HX2.out (by omega) _ _ _).alloc _
  | true =>
    obtain ⟨hrest, hbp⟩ : s.extract a.toNat s.size = rest ∧ Lib.hasPrefix rest.data.toList (frL ⟨p, i, d⟩) = bp := ⟨HRE.out, HBP.out rfl⟩
    have hsl : ∀ W, (Instr.slice 9 (.string s) (some (.int .i64 a)) none none).run Tryz.prog W = .ok (.string rest) W := fun W => by
      rw [← hrest]
      exact sl_from s a a.toNat (by omega) (by omega) W
    have HP5 := Lib.hid hbp
    clear hrest hbp
    have e0 : w5.cell? ⟨X, 0, none⟩ = some (.string s) := hX5.cell 0
    have HX5 := Lib.hid hX5
    have HR5 := Lib.hid hR5
    have HQ5 := Lib.hid hQ5
    have HO5 := Lib.hid hO5
    have HT5 := Lib.hid hT5
    have HE5 := Lib.hid hE5
    have hXz := hX5.lt
    clear hX5 hR5 hO5 hT5 hQ5 hE5
    go_wp2_with fail
    have hneQ : w.heap.size + 1 ≠ X := by omega
    have hcb : Below w5.heap.size w5 w5.drew := (Below.refl w5.heap.size w5).drew
    have hc0 : w5.drew.cell? ⟨w.heap.size + 1, 0, none⟩ = some (.int .i64 p) := g0
    have hc1 : w5.drew.cell? ⟨w.heap.size + 1, 1, none⟩ = some (.int .i64 i) := g1
    have hc2 : w5.drew.cell? ⟨w.heap.size + 1, 2, none⟩ = some (.string d) := g2
    have hc3 : w5.drew.cell? ⟨X, 0, none⟩ = some (.string s) := e0
    go_region_held3 (fun w' => w'.cell? ⟨w.heap.size + 1, 0, none⟩ = some (.int .i64 p) ∧ w'.cell? ⟨w.heap.size + 1, 1, none⟩ = some (.int .i64 i) ∧ w'.cell? ⟨w.heap.size + 1, 2, none⟩ = some (.string d) ∧ w'.cell? ⟨X, 0, none⟩ = some (.string s))
      (first
        | (with_reducible exact ⟨hc0, hc1, hc2, hc3⟩)
        | (with_reducible exact ⟨g0, g1, g2, e0⟩))
      (first
        | ((go_at_call 37; refine (fwrong_f HBR.out _ hds).mono ?_; rintro e v6 ⟨rfl, hb1⟩; replace hcb := hcb.trans (hb1.mono hcb.size); replace hc0 := (hcb.cell (p := ⟨w.heap.size + 1, 0, none⟩) hz5).trans g0; replace hc1 := (hcb.cell (p := ⟨w.heap.size + 1, 1, none⟩) hz5).trans g1; replace hc2 := (hcb.cell (p := ⟨w.heap.size + 1, 2, none⟩) hz5).trans g2; replace hc3 := (hcb.cell (p := ⟨X, 0, none⟩) hXz).trans e0; clear hb1))
        | ((go_at_call 59; refine (shl_strings_HasPrefix _ _ _).mono ?_; rintro e w' ⟨rfl, rfl⟩; rw [HP5.out]))
        | ((go_at_call 40; refine (fframe_any X 2 n _ _ tv ⟨p, i, d⟩ _ (HE5.out.below hcb) hnX (HX5.out.here hcb) rfl (no32 HT5.out) (HT5.out.below hcb) HBR.out).mono ?_; rintro e v7 ⟨rfl, ho7, tv', hx7, ht7⟩; replace hc0 := ho7.cell hc0 hneQ hneQ; replace hc1 := ho7.cell hc1 hneQ hneQ; replace hc2 := ho7.cell hc2 hneQ hneQ; replace hc3 : v7.cell? ⟨X, 0, none⟩ = some (.string s) := hx7.cell 0)))
    have hO7 : Only X X w w' := (HO5.out.below hcb).trans ho7
    have hR7 := (HR5.out.here hcb).only ho7 (show w.heap.size ≠ X by omega) (by omega)
    have hX7 : Blk w' X 66 #[.string s, .int .i64 (a + 1 + 1 + 6 + 2 + m), tv'] := by simpa using hx7
    have HX7 := Lib.hid hX7
    have HR7 := Lib.hid hR7
    have HO7 := Lib.hid hO7
    have HT7 := Lib.hid ht7
    clear hx7 hX7 hR7 hO7 ht7 ho7 hcb HX5 HR5 HO5 HT5 HE5 HQ5 g0 g1 g2 e0 hc3 hsl
    cases bp with
    | false =>
      have e1 : w'.cell? ⟨X, 1, none⟩ = some (.int .i64 (a + 1 + 1 + 6 + 2 + m)) := HX7.out.cell 1
      have f1 := HX7.out.frozen 1
      go_wp2
      go_step3
      refine ⟨rfl, ?_⟩
      go_wp2_with fail
      have hX2 : Blk (w'.setCell ⟨X, 1, none⟩ (.int .i64 a)) X 66 #[.string s, .int .i64 a, tv'] := by simpa using HX7.out.set_ 1 (.int .i64 a)
      have hR2 : Blk (w'.setCell ⟨X, 1, none⟩ (.int .i64 a)) w.heap.size 23 #[.int .i64 0, .int .i64 0, .string ⟨#[]⟩] := HR7.out.far (by simp; omega) _
      have hO2 : Only X X w (w'.setCell ⟨X, 1, none⟩ (.int .i64 a)) := HO7.out.sa 1 _
      have hT2 : TabV X (w'.setCell ⟨X, 1, none⟩ (.int .i64 a)) tv' := HT7.out.only ((Only.refl X X _).sa 1 _)
      have hz2 : w.heap.size < (w'.setCell ⟨X, 1, none⟩ (.int .i64 a)).heap.size := hR2.lt
      generalize w'.setCell ⟨X, 1, none⟩ (.int .i64 a) = w9 at hX2 hR2 hO2 hT2 hz2 ⊢
      clear e1 f1 HX7 HR7 HO7 HT7
      have r0 : w9.cell? ⟨w.heap.size, 0, none⟩ = some (.int .i64 0) := hR2.cell 0
      have r1 : w9.cell? ⟨w.heap.size, 1, none⟩ = some (.int .i64 0) := hR2.cell 1
      have r2 : w9.cell? ⟨w.heap.size, 2, none⟩ = some (.string ⟨#[]⟩) := hR2.cell 2
      have q0 := hR2.frozen 0
      have q1 := hR2.frozen 1
      have q2 := hR2.frozen 2
      have HX2 := Lib.hid hX2
      have HO2 := Lib.hid hO2
      have HT2 := Lib.hid hT2
      have HR2 := Lib.hid hR2
      clear hX2 hR2 hO2 hT2
      refine (fnone_any _).mono ?_
      rintro e w8 ⟨rfl, rfl⟩
      go_wp2
      rw [Exit.noGoto_ret]
      have hO3 := (set3_only HO2.out (Nat.le_refl _) (.int .i64 0) (.int .i64 0) (.string ⟨#[]⟩)).alloc (.cells #[.int .i64 0, .int .i64 0, .string ⟨#[]⟩] 23)
      refine bodyPost_ret (v := rcV zeroRc) (next_res (cells_alloc _ (set3_cells r0 r1 r2))) rfl ⟨tv', hO3, HT2.out.only2 HR2.out (by decide) (((((Only.refl X w.heap.size w9).sb 0 (.int .i64 0)).sb 1 (.int .i64 0)).sb 2 (.string ⟨#[]⟩)).alloc (.cells #[.int .i64 0, .int .i64 0, .string ⟨#[]⟩] 23)), .inr ⟨rfl, rfl, ?_⟩⟩
      exact (set3_blk HX2.out (by omega) _ _ _).alloc _
    | true =>
      obtain ⟨c, hc⟩ : ∃ c, a + 1 + 1 + 6 + 2 + m = c := ⟨_, rfl⟩
      have hcb0 : 0 ≤ c := by omega
      have hcb1 : c ≤ 4611686018427387904 := by omega
      have hX8 : Blk w' X 66 #[.string s, .int .i64 c, tv'] := hc ▸ HX7.out
      have HC := Lib.hid hc
      clear hc HX7
      have e1 : w'.cell? ⟨X, 1, none⟩ = some (.int .i64 c) := hX8.cell 1
      have f1 := hX8.frozen 1
      have hX9 : Blk (w'.setCell ⟨X, 1, none⟩ (.int .i64 (c + 4))) X 66 #[.string s, .int .i64 (c + 4), tv'] := by simpa using hX8.set_ 1 (.int .i64 (c + 4))
      have hR9 : Blk (w'.setCell ⟨X, 1, none⟩ (.int .i64 (c + 4))) w.heap.size 23 #[.int .i64 0, .int .i64 0, .string ⟨#[]⟩] := HR7.out.far (by simp; omega) _
      have hO9 : Only X X w (w'.setCell ⟨X, 1, none⟩ (.int .i64 (c + 4))) := HO7.out.sa 1 _
      have hT9 : TabV X (w'.setCell ⟨X, 1, none⟩ (.int .i64 (c + 4))) tv' := HT7.out.only ((Only.refl X X _).sa 1 _)
      have s0 : (w'.setCell ⟨X, 1, none⟩ (.int .i64 (c + 4))).cell? ⟨w.heap.size + 1, 0, none⟩ = some (.int .i64 p) := set_far hc0 hneQ
      have s1 : (w'.setCell ⟨X, 1, none⟩ (.int .i64 (c + 4))).cell? ⟨w.heap.size + 1, 1, none⟩ = some (.int .i64 i) := set_far hc1 hneQ
      have s2 : (w'.setCell ⟨X, 1, none⟩ (.int .i64 (c + 4))).cell? ⟨w.heap.size + 1, 2, none⟩ = some (.string d) := set_far hc2 hneQ
      have r0 : (w'.setCell ⟨X, 1, none⟩ (.int .i64 (c + 4))).cell? ⟨w.heap.size, 0, none⟩ = some (.int .i64 0) := hR9.cell 0
      have r1 : (w'.setCell ⟨X, 1, none⟩ (.int .i64 (c + 4))).cell? ⟨w.heap.size, 1, none⟩ = some (.int .i64 0) := hR9.cell 1
      have r2 : (w'.setCell ⟨X, 1, none⟩ (.int .i64 (c + 4))).cell? ⟨w.heap.size, 2, none⟩ = some (.string ⟨#[]⟩) := hR9.cell 2
      have q0 := hR9.frozen 0
      have q1 := hR9.frozen 1
      have q2 := hR9.frozen 2
      have HX9 := Lib.hid hX9
      have HR9 := Lib.hid hR9
      have HO9 := Lib.hid hO9
      have HT9 := Lib.hid hT9
      clear hX8 hX9 hR9 hO9 hT9 HR7 HO7 HT7 hc0 hc1 hc2
      go_wp2
      rw [jump_ret]
      have hO10 := set3_only HO9.out (Nat.le_refl _) (.int .i64 p) (.int .i64 i) (.string d)
      refine bodyPost_ret (v := rcV ⟨p, i, d⟩) (next_res (set3_cells r0 r1 r2)) rfl ⟨tv', hO10, HT9.out.only2 HR9.out (by decide) ((((Only.refl X w.heap.size _).sb 0 (.int .i64 p)).sb 1 (.int .i64 i)).sb 2 (.string d)), .inl ⟨rfl, rfl, rfl, ?_⟩⟩
      rw [HC.out]
      exact set3_blk HX9.out (by omega) _ _ _

theorem has_drop {s : ByteArray} {a : Nat} {l : List UInt8} : Lib.hasPrefix (s.extract a s.size).data.toList l = l.isPrefixOf (s.data.toList.drop a) := by
  unfold Lib.hasPrefix
  rw [ByteArray.data_extract, Array.toList_extract, List.extract_eq_take_drop, List.take_of_length_le]
  rw [List.length_drop, Array.length_toList]
  have : s.data.size = s.size := rfl
  omega

theorem next_any (X n : Nat) (s : ByteArray) (a : Int) (tv : Value) (w : World) (hE : FrN n w) (hnX : n ≤ X) (hX : Blk w X 66 #[.string s, .int .i64 a, tv]) (ht : TabV X w tv) (hs : s.size ≤ 1000000) :
    Calls Tryz.prog 46 #[.pointer (some ⟨X, 0, none⟩)] w (NextR X s a w) := by
  by_cases h : (takeR s a 1).1 = 225
  · have hr := takeR_at (show (takeR s a 1).1 ≠ 0 by omega)
    have hsp := rough_spell s a
    obtain ⟨q, hq⟩ : ∃ q, roughR s a = q := ⟨_, rfl⟩
    obtain ⟨p, i, d⟩ := q
    rw [hq] at hsp
    have h1 := congrArg Rc.op hsp
    have h2 := congrArg Rc.id hsp
    have h3 := congrArg Rc.data hsp
    simp only at h1 h2 h3
    have hst : standsB s a ⟨p, i, d⟩ = (rcB ⟨p, i, d⟩ && (frL ⟨p, i, d⟩).isPrefixOf (s.data.toList.drop a.toNat)) := by
      unfold standsB
      rw [decide_eq_true hr.1, Bool.true_and]
    refine (next_of X n s d _ ⟨#[]⟩ a p i _ _ ((frL ⟨p, i, d⟩).isPrefixOf (s.data.toList.drop a.toNat)) tv w hE hnX hX ht hs hr.1 (by omega) h h1.symm h2.symm rfl h3.symm rfl rfl (fun _ => has_drop)).mono ?_
    rintro e w' ⟨tv', ho, ht', ⟨b1, b2, rfl, hx⟩ | ⟨b, rfl, hx⟩⟩
    · have hd : decO s a = some ⟨p, i, d⟩ := by
        unfold decO
        rw [hq, if_pos (by rw [hst, b1, b2]; rfl)]
      refine ⟨tv', ho, ht', .inl ⟨_, hd, rfl, ?_⟩⟩
      obtain ⟨m, rfl⟩ := Int.eq_ofNat_of_zero_le hr.1
      have hm := (rough_of_frame (decO_some.1 hd)).2.2.2.2.1
      have e : (takeR s ((m : Int) + 1 + 1 + 6) 2).1 = (d.size : Int) := by
        rw [show (m : Int) + 1 + 1 + 6 = ((m + 8 : Nat) : Int) by omega, hm]
      rw [e] at hx
      rw [show (m : Int) + 14 + ((⟨p, i, d⟩ : Rc).data.size : Int) = m + 1 + 1 + 6 + 2 + (d.size : Int) + 4 by simp only; omega]
      exact hx
    · refine ⟨tv', ho, ht', .inr ⟨?_, rfl, hx⟩⟩
      unfold decO
      rw [hq, if_neg (by rw [hst, b]; decide)]
  · exact next_no X n s a tv w hE hnX hX ht hs (by simpa using h)
end Go.Proofs.YtdlkmdjhjdpmeaaGreatDoor
