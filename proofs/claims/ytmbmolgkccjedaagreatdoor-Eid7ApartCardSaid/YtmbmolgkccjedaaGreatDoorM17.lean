/- Items of names (package eid7): none, dtn, ipn. -/
import Derived.Test.YtmbmolgkccjedaaGreatDoorM15
import Derived.Test.YtmbmolgkccjedaaGreatDoorM16
import Derived.Deep.RegionHeld3
import Derived.Deep.DrawnRows
import Derived.WalkArith
import Derived.Test.YtmbmolgkccjedaaGreatDoorM18
set_option linter.unusedVariables false
set_option linter.unusedSimpArgs false
namespace Go.Proofs.YtmbmolgkccjedaaGreatDoor
open Go.RowKit
attribute [local go_sem ↓] Go.wp_at_zero Go.wp_at_succ

/-- An item of new memory is made. -/
def MadeI (n : Nat) (x : Itm) (e : Ending) (w' : World) : Prop := ∃ (k m : Int) (s : ByteArray) (p : Option Addr) (l c : Nat), e = .returned (.agg #[.int .i64 k, .int .i64 m, .string s, .slice p l c]) ∧ ItV (fun b => n ≤ b) w' x (.agg #[.int .i64 k, .int .i64 m, .string s, .slice p l c])
theorem belowA (w : World) (o : Obj) : Below w.heap.size w (w.alloc o) := (Below.refl _ w).alloc (Nat.le_refl _) _
theorem ItV.sets4 {ok : Nat → Prop} {W : World} {R : Nat} {x : Itm} {v : Value} (h : ItV ok W x v) (hR : ∀ b, ok b → b ≠ R) (v0 v1 v2 v3 : Value) : ItV ok ((((W.setCell ⟨R, 0, none⟩ v0).setCell ⟨R, 1, none⟩ v1).setCell ⟨R, 2, none⟩ v2).setCell ⟨R, 3, none⟩ v3) x v :=
  ItV.keep (fun a u ha e => ⟨cell_sets4 (hR _ ha) _ _ _ _ e, ha⟩) x v h
theorem MadeI.done {n m : Nat} {W : World} {R : Nat} {x : Itm} {k q : Int} {s : ByteArray} {p : Option Addr} {l c : Nat} {v0 v1 v2 v3 : Value} (h : ItV (fun b => m < b) W x (.agg #[.int .i64 k, .int .i64 q, .string s, .slice p l c])) (hR : R ≤ m) (hn : n ≤ m) : MadeI n x (.returned (.agg #[.int .i64 k, .int .i64 q, .string s, .slice p l c])) ((((W.setCell ⟨R, 0, none⟩ v0).setCell ⟨R, 1, none⟩ v1).setCell ⟨R, 2, none⟩ v2).setCell ⟨R, 3, none⟩ v3) :=
  ⟨k, q, s, p, l, c, rfl, (h.sets4 (fun b hb e => by have h2 : m < b := hb; omega) _ _ _ _).mono (fun b _ hb => by have h2 : m < b := hb; show n ≤ b; omega)⟩

set_option maxRecDepth 100000 in
set_option maxHeartbeats 2000000 in
theorem nnone_any (k : Int) (nd sv : ByteArray) (a b : Int) (w : World) :
    Calls Tryz.prog 76 #[.agg #[.int .i64 k, .string nd, .string sv, .int .i64 a, .int .i64 b]] w fun e w' => MadeI w.heap.size (itmN nm0) e w' ∧ Below w.heap.size w w' := by
  have bR_ := Blk.new (w.alloc (.cells #[.int .i64 k, .string nd, .string sv, .int .i64 a, .int .i64 b] 88)) 26 #[.int .i64 0, .int .i64 0, .string ⟨#[]⟩, .slice none 0 0]
  simp only [World.size_alloc] at bR_
  have bN : Blk ((w.alloc (.cells #[.int .i64 k, .string nd, .string sv, .int .i64 a, .int .i64 b] 88)).alloc (.cells #[.int .i64 0, .int .i64 0, .string ⟨#[]⟩, .slice none 0 0] 26)) (w.heap.size) 88 #[.int .i64 k, .string nd, .string sv, .int .i64 a, .int .i64 b] := (Blk.new w _ _).alloc _
  have bR : Blk ((w.alloc (.cells #[.int .i64 k, .string nd, .string sv, .int .i64 a, .int .i64 b] 88)).alloc (.cells #[.int .i64 0, .int .i64 0, .string ⟨#[]⟩, .slice none 0 0] 26)) (w.heap.size + 1) 26 #[.int .i64 0, .int .i64 0, .string ⟨#[]⟩, .slice none 0 0] := bR_
  have hb : Below w.heap.size w ((w.alloc (.cells #[.int .i64 k, .string nd, .string sv, .int .i64 a, .int .i64 b] 88)).alloc (.cells #[.int .i64 0, .int .i64 0, .string ⟨#[]⟩, .slice none 0 0] 26)) := (((Below.refl _ w).alloc (Nat.le_refl _) _).alloc (by simp; try omega) _)
  clear bR_
  go_enter Tryz.func76, Tryz.ntmps76
  go_wp2_with fail
  generalize ((w.alloc (.cells #[.int .i64 k, .string nd, .string sv, .int .i64 a, .int .i64 b] 88)).alloc (.cells #[.int .i64 0, .int .i64 0, .string ⟨#[]⟩, .slice none 0 0] 26)) = w0 at *
  refine (jnumber_any 1 w0).mono ?_
  rintro e w1 ⟨rfl, hc1⟩
  have hb1 := hb.trans (hc1.mono hb.size)
  replace bN := bN.here hc1
  replace bR := bR.here hc1
  clear hc1 hb
  go_wp2_with fail
  refine (jnumber_any 0 w1).mono ?_
  rintro e w2 ⟨rfl, hc2⟩
  have hb2 := hb1.trans (hc2.mono hb1.size)
  replace bN := bN.here hc2
  replace bR := bR.here hc2
  clear hc2 hb1
  go_wp2_with fail
  have lL := bR.lt
  have hc3 : Below w2.heap.size w2 (w2.alloc (.cells #[.int .i64 0, .int .i64 1, .string ⟨#[]⟩, .slice none 0 0, .int .i64 0, .int .i64 0, .string ⟨#[]⟩, .slice none 0 0] 26)) := (Below.refl _ _).alloc (Nat.le_refl _) _
  have bL : Blk (w2.alloc (.cells #[.int .i64 0, .int .i64 1, .string ⟨#[]⟩, .slice none 0 0, .int .i64 0, .int .i64 0, .string ⟨#[]⟩, .slice none 0 0] 26)) w2.heap.size 26 #[.int .i64 0, .int .i64 1, .string ⟨#[]⟩, .slice none 0 0, .int .i64 0, .int .i64 0, .string ⟨#[]⟩, .slice none 0 0] := Blk.new _ _ _
  have hb3 := hb2.trans (hc3.mono hb2.size)
  replace bN := bN.here hc3
  replace bR := bR.here hc3
  clear hc3 hb2
  generalize (w2.alloc (.cells #[.int .i64 0, .int .i64 1, .string ⟨#[]⟩, .slice none 0 0, .int .i64 0, .int .i64 0, .string ⟨#[]⟩, .slice none 0 0] 26)) = w3 at *
  refine (jlist_any _ _ _ w3).mono ?_
  rintro e w4 ⟨rfl, hc4⟩
  have hb4 := hb3.trans (hc4.mono hb3.size)
  replace bN := bN.here hc4
  replace bR := bR.here hc4
  replace bL := bL.here hc4
  clear hc4 hb3
  obtain ⟨cR0, cR1, cR2, cR3⟩ := bR.four
  have fR0 := bR.frozen 0
  have fR1 := bR.frozen 1
  have fR2 := bR.frozen 2
  have fR3 := bR.frozen 3
  have lR := bR.lt
  go_wp2_with fail
  have hI : ItV (fun x => w.heap.size + 1 < x) w4 (itmN nm0) (.agg #[.int .i64 4, .int .i64 0, .string ⟨#[]⟩, .slice (some ⟨w2.heap.size, 0, none⟩) 2 2]) := ItV.two bL lL (ItV.num (by decide)) (ItV.num (by decide))
  refine bodyPost_ret (res_item (bR.set4 _ _ _ _) rfl rfl) rfl ⟨MadeI.done hI (Nat.le_refl _) (Nat.le_succ _), below_sets4 hb4 (by omega) _ _ _ _⟩

set_option maxRecDepth 100000 in
set_option maxHeartbeats 2000000 in
theorem ndtn_of (k : Int) (nd sv : ByteArray) (a b : Int) (rs : ByteArray) (hrse : rsS (nmO k nd sv a b) = rs) (w : World) (hE : EnvN w) (ha : I64 a) (hb9 : I64 b) :
    Calls Tryz.prog 77 #[.agg #[.int .i64 k, .string nd, .string sv, .int .i64 a, .int .i64 b]] w fun e w' => MadeI w.heap.size (lstI [numI 1, txtI rs.data.toList]) e w' ∧ Below w.heap.size w w' := by
  have bR_ := Blk.new (w.alloc (.cells #[.int .i64 k, .string nd, .string sv, .int .i64 a, .int .i64 b] 88)) 26 #[.int .i64 0, .int .i64 0, .string ⟨#[]⟩, .slice none 0 0]
  simp only [World.size_alloc] at bR_
  have bN : Blk ((w.alloc (.cells #[.int .i64 k, .string nd, .string sv, .int .i64 a, .int .i64 b] 88)).alloc (.cells #[.int .i64 0, .int .i64 0, .string ⟨#[]⟩, .slice none 0 0] 26)) (w.heap.size) 88 #[.int .i64 k, .string nd, .string sv, .int .i64 a, .int .i64 b] := (Blk.new w _ _).alloc _
  have bR : Blk ((w.alloc (.cells #[.int .i64 k, .string nd, .string sv, .int .i64 a, .int .i64 b] 88)).alloc (.cells #[.int .i64 0, .int .i64 0, .string ⟨#[]⟩, .slice none 0 0] 26)) (w.heap.size + 1) 26 #[.int .i64 0, .int .i64 0, .string ⟨#[]⟩, .slice none 0 0] := bR_
  have hb : Below w.heap.size w ((w.alloc (.cells #[.int .i64 k, .string nd, .string sv, .int .i64 a, .int .i64 b] 88)).alloc (.cells #[.int .i64 0, .int .i64 0, .string ⟨#[]⟩, .slice none 0 0] 26)) := (((Below.refl _ w).alloc (Nat.le_refl _) _).alloc (by simp; try omega) _)
  have hE0 := hE.below hb
  clear bR_
  obtain ⟨cN0, cN1, cN2, cN3, cN4⟩ := bN.five
  have lN := bN.lt
  go_enter Tryz.func77, Tryz.ntmps77
  have hrs := rs_size (nmO k nd sv a b)
  rw [hrse] at hrs
  have HRS := Lib.hid hrse
  clear hrse
  go_wp2_with fail
  generalize ((w.alloc (.cells #[.int .i64 k, .string nd, .string sv, .int .i64 a, .int .i64 b] 88)).alloc (.cells #[.int .i64 0, .int .i64 0, .string ⟨#[]⟩, .slice none 0 0] 26)) = w0 at *
  refine (halves_any k nd sv a b w0 hE0 ha hb9).mono ?_
  rintro e w1 ⟨rfl, hc1⟩
  have hb1 := hb.trans (hc1.mono hb.size)
  replace bN := bN.here hc1
  replace bR := bR.here hc1
  have hE1 := hE0.below hc1
  clear hE0
  clear hc1 hb
  rw [HRS.out]
  clear cN0 cN1 cN2 cN3 cN4 lN
  go_wp2_with fail
  refine (jnumber_any 1 w1).mono ?_
  rintro e w2 ⟨rfl, hc2⟩
  have hb2 := hb1.trans (hc2.mono hb1.size)
  replace bN := bN.here hc2
  replace bR := bR.here hc2
  have hE2 := hE1.below hc2
  clear hE1
  clear hc2 hb1
  go_wp2_with fail
  have lL := bR.lt
  have hc3 : Below w2.heap.size w2 (w2.alloc (.cells #[.int .i64 0, .int .i64 1, .string ⟨#[]⟩, .slice none 0 0, .int .i64 3, .int .i64 0, .string rs, .slice none 0 0] 26)) := (Below.refl _ _).alloc (Nat.le_refl _) _
  have bL : Blk (w2.alloc (.cells #[.int .i64 0, .int .i64 1, .string ⟨#[]⟩, .slice none 0 0, .int .i64 3, .int .i64 0, .string rs, .slice none 0 0] 26)) w2.heap.size 26 #[.int .i64 0, .int .i64 1, .string ⟨#[]⟩, .slice none 0 0, .int .i64 3, .int .i64 0, .string rs, .slice none 0 0] := Blk.new _ _ _
  have hb3 := hb2.trans (hc3.mono hb2.size)
  replace bN := bN.here hc3
  replace bR := bR.here hc3
  have hE3 := hE2.below hc3
  clear hE2
  clear hc3 hb2
  generalize (w2.alloc (.cells #[.int .i64 0, .int .i64 1, .string ⟨#[]⟩, .slice none 0 0, .int .i64 3, .int .i64 0, .string rs, .slice none 0 0] 26)) = w3 at *
  refine (jlist_any _ _ _ w3).mono ?_
  rintro e w4 ⟨rfl, hc4⟩
  have hb4 := hb3.trans (hc4.mono hb3.size)
  replace bN := bN.here hc4
  replace bR := bR.here hc4
  replace bL := bL.here hc4
  have hE4 := hE3.below hc4
  clear hE3
  clear hc4 hb3
  obtain ⟨cR0, cR1, cR2, cR3⟩ := bR.four
  have fR0 := bR.frozen 0
  have fR1 := bR.frozen 1
  have fR2 := bR.frozen 2
  have fR3 := bR.frozen 3
  have lR := bR.lt
  go_wp2_with fail
  have hI : ItV (fun x => w.heap.size + 1 < x) w4 (lstI [numI 1, txtI rs.data.toList]) (.agg #[.int .i64 4, .int .i64 0, .string ⟨#[]⟩, .slice (some ⟨w2.heap.size, 0, none⟩) 2 2]) := ItV.two bL lL (ItV.num (by decide)) (ItV.txt (Nat.le_trans hrs (by unfold maxLen; omega)))
  refine bodyPost_ret (res_item (bR.set4 _ _ _ _) rfl rfl) rfl ⟨MadeI.done hI (Nat.le_refl _) (Nat.le_succ _), below_sets4 hb4 (by omega) _ _ _ _⟩

set_option maxRecDepth 100000 in
set_option maxHeartbeats 2000000 in
theorem nipn_any (k : Int) (nd sv : ByteArray) (a b : Int) (w : World) (ha : (Lit.int .i64 a).wf = true) (hb9 : (Lit.int .i64 b).wf = true) :
    Calls Tryz.prog 78 #[.agg #[.int .i64 k, .string nd, .string sv, .int .i64 a, .int .i64 b]] w fun e w' => MadeI w.heap.size (lstI [numI 2, lstI [numI a, numI b]]) e w' ∧ Below w.heap.size w w' := by
  have bR_ := Blk.new (w.alloc (.cells #[.int .i64 k, .string nd, .string sv, .int .i64 a, .int .i64 b] 88)) 26 #[.int .i64 0, .int .i64 0, .string ⟨#[]⟩, .slice none 0 0]
  simp only [World.size_alloc] at bR_
  have bN : Blk ((w.alloc (.cells #[.int .i64 k, .string nd, .string sv, .int .i64 a, .int .i64 b] 88)).alloc (.cells #[.int .i64 0, .int .i64 0, .string ⟨#[]⟩, .slice none 0 0] 26)) (w.heap.size) 88 #[.int .i64 k, .string nd, .string sv, .int .i64 a, .int .i64 b] := (Blk.new w _ _).alloc _
  have bR : Blk ((w.alloc (.cells #[.int .i64 k, .string nd, .string sv, .int .i64 a, .int .i64 b] 88)).alloc (.cells #[.int .i64 0, .int .i64 0, .string ⟨#[]⟩, .slice none 0 0] 26)) (w.heap.size + 1) 26 #[.int .i64 0, .int .i64 0, .string ⟨#[]⟩, .slice none 0 0] := bR_
  have hb : Below w.heap.size w ((w.alloc (.cells #[.int .i64 k, .string nd, .string sv, .int .i64 a, .int .i64 b] 88)).alloc (.cells #[.int .i64 0, .int .i64 0, .string ⟨#[]⟩, .slice none 0 0] 26)) := (((Below.refl _ w).alloc (Nat.le_refl _) _).alloc (by simp; try omega) _)
  clear bR_
  obtain ⟨cN0, cN1, cN2, cN3, cN4⟩ := bN.five
  have lN := bN.lt
  go_enter Tryz.func78, Tryz.ntmps78
  go_wp2_with fail
  generalize ((w.alloc (.cells #[.int .i64 k, .string nd, .string sv, .int .i64 a, .int .i64 b] 88)).alloc (.cells #[.int .i64 0, .int .i64 0, .string ⟨#[]⟩, .slice none 0 0] 26)) = w0 at *
  have lR := bR.lt
  have HR := Lib.hid bR.drew
  clear bR
  have hcum : Below w0.heap.size w0 w0.drew := (Below.refl w0.heap.size w0).drew
  go_region_held3 (fun w' => w'.cell? ⟨w.heap.size, 3, none⟩ = some (.int .i64 a) ∧ w'.cell? ⟨w.heap.size, 4, none⟩ = some (.int .i64 b))
    (first
      | with_reducible exact ⟨(hcum.cell (p := ⟨w.heap.size, 3, none⟩) lN).trans cN3, (hcum.cell (p := ⟨w.heap.size, 4, none⟩) lN).trans cN4⟩
      | with_reducible exact ⟨((hcum.alloc hcum.size _).cell (p := ⟨w.heap.size, 3, none⟩) lN).trans cN3, ((hcum.alloc hcum.size _).cell (p := ⟨w.heap.size, 4, none⟩) lN).trans cN4⟩
      | with_reducible exact ⟨(cell_sets4 (Nat.ne_of_lt (Nat.lt_succ_self _)) _ _ _ _ ((hcum.cell (p := ⟨w.heap.size, 3, none⟩) lN).trans cN3)), (cell_sets4 (Nat.ne_of_lt (Nat.lt_succ_self _)) _ _ _ _ ((hcum.cell (p := ⟨w.heap.size, 4, none⟩) lN).trans cN4))⟩
      | go_keep)
    (first
      | ((go_at_call 106; refine (jnumber_any _ _).mono ?_; rintro e v1 ⟨rfl, hb1⟩; replace hcum := hcum.trans (hb1.mono hcum.size); replace HR := Lib.hid (HR.out.here hb1); try replace hIn := hIn.below hb1; clear hb1))
      | ((go_at_call 105; refine (jlist_any _ _ _ _).mono ?_; rintro e v1 ⟨rfl, hb1⟩; have hIn := ItV.two (ok := fun x => w.heap.size + 1 < x) ((Blk.new _ _ _).here hb1) (Nat.lt_of_lt_of_le lR hcum.size) (ItV.num ha) (ItV.num hb9); replace hcum := (hcum.alloc hcum.size _).trans (hb1.mono (hcum.alloc hcum.size _).size); replace HR := Lib.hid ((HR.out.alloc _).here hb1); clear hb1))
      | ((go_at_call 105; refine (jlist_any _ _ _ _).mono ?_; rintro e v1 ⟨rfl, hb1⟩; have hOut := ItV.two (ok := fun x => w.heap.size + 1 < x) ((Blk.new _ _ _).here hb1) (Nat.lt_of_lt_of_le lR hcum.size) (ItV.num (n := 2) (by decide)) ((hIn.below (belowA _ _)).below hb1); replace hcum := (hcum.alloc hcum.size _).trans (hb1.mono (hcum.alloc hcum.size _).size); replace HR := Lib.hid ((HR.out.alloc _).here hb1); clear hb1; obtain ⟨cR0, cR1, cR2, cR3⟩ := HR.out.four; have fR0 := HR.out.frozen 0; have fR1 := HR.out.frozen 1; have fR2 := HR.out.frozen 2; have fR3 := HR.out.frozen 3)))
  go_wp2_with fail
  refine bodyPost_ret (res_item (HR.out.set4 _ _ _ _) rfl rfl) rfl ⟨MadeI.done hOut (Nat.le_refl _) (Nat.le_succ _), below_sets4 (hb.trans (hcum.mono hb.size)) (Nat.le_succ _) _ _ _ _⟩

theorem sh3_rd {W : World} {A : Nat} {t : TypeId} {b0 b1 b2 : Bool} {g0 g1 g2 : Nat} {r0 r1 r2 : Value} (h : Blk W A t #[.bool b0, .func (.func g0) #[r0] #[], .bool b1, .func (.func g1) #[r1] #[], .bool b2, .func (.func g2) #[r2] #[]]) : ShRd A [(b0, g0, r0), (b1, g1, r1), (b2, g2, r2)] W := by
  constructor
  · intro j x e
    rcases j with _ | _ | _ | j
    · obtain rfl := Option.some.inj e; exact h.cell 0
    · obtain rfl := Option.some.inj e; exact h.cell 2
    · obtain rfl := Option.some.inj e; exact h.cell 4
    · simp at e
  · intro j x e
    rcases j with _ | _ | _ | j
    · obtain rfl := Option.some.inj e; exact h.cell 1
    · obtain rfl := Option.some.inj e; exact h.cell 3
    · obtain rfl := Option.some.inj e; exact h.cell 5
    · simp at e
/-- Shapes as an iterator's value. -/
def ShsI (n : Nat) (ps : List Shp) (v : Value) (w : World) : Prop :=
  ∃ A Q : Nat, v = .func (.func 104) #[] #[.pointer (some ⟨Q, 0, none⟩)] ∧ n ≤ A ∧ A < w.heap.size ∧ w.cell? ⟨Q, 0, none⟩ = some (.slice (some ⟨A, 0, none⟩) ps.length ps.length) ∧ ShRd A ps w

set_option maxRecDepth 100000 in
set_option maxHeartbeats 2000000 in
theorem nshapes_any (k : Int) (nd sv : ByteArray) (a b : Int) (w : World) :
    Calls Tryz.prog 46 #[.agg #[.int .i64 k, .string nd, .string sv, .int .i64 a, .int .i64 b]] w fun e w' => (∃ v, e = .returned v ∧ ShsI w.heap.size [(nmE k nd sv a b 0 ⟨#[]⟩ ⟨#[]⟩ 0 0, 76, .agg #[.int .i64 k, .string nd, .string sv, .int .i64 a, .int .i64 b]), (k == 1, 77, .agg #[.int .i64 k, .string nd, .string sv, .int .i64 a, .int .i64 b]), (k == 2, 78, .agg #[.int .i64 k, .string nd, .string sv, .int .i64 a, .int .i64 b])] v w') ∧ Below w.heap.size w w' := by
  have bN : Blk (w.alloc (.cells #[.int .i64 k, .string nd, .string sv, .int .i64 a, .int .i64 b] 88)) (w.heap.size) 88 #[.int .i64 k, .string nd, .string sv, .int .i64 a, .int .i64 b] := Blk.new w _ _
  have hb : Below w.heap.size w (w.alloc (.cells #[.int .i64 k, .string nd, .string sv, .int .i64 a, .int .i64 b] 88)) := ((Below.refl _ w).alloc (Nat.le_refl _) _)
  obtain ⟨cN0, cN1, cN2, cN3, cN4⟩ := bN.five
  have lN := bN.lt
  obtain ⟨z, hz⟩ : ∃ z, nmE k nd sv a b 0 ⟨#[]⟩ ⟨#[]⟩ 0 0 = z := ⟨_, rfl⟩
  have heq := fun W => nm_eql k nd sv a b 0 ⟨#[]⟩ ⟨#[]⟩ 0 0 W
  rw [hz] at heq ⊢
  clear hz
  go_enter Tryz.func46, Tryz.ntmps46
  go_wp2_with fail
  generalize (w.alloc (.cells #[.int .i64 k, .string nd, .string sv, .int .i64 a, .int .i64 b] 88)) = w0 at *
  go_region_held3 (fun w' => w'.cell? ⟨w.heap.size, 0, none⟩ = some (.int .i64 k) ∧ w'.cell? ⟨w.heap.size, 1, none⟩ = some (.string nd) ∧ w'.cell? ⟨w.heap.size, 2, none⟩ = some (.string sv) ∧ w'.cell? ⟨w.heap.size, 3, none⟩ = some (.int .i64 a) ∧ w'.cell? ⟨w.heap.size, 4, none⟩ = some (.int .i64 b))
    (first
      | with_reducible exact ⟨cN0, cN1, cN2, cN3, cN4⟩
      | go_keep)
    (first
      | ((go_at_call 75; refine (eachS_anyI _ _ _).mono ?_; rintro e v1 ⟨rfl, rfl⟩)))
  all_goals
    go_wp2_with fail
    go_ret
    refine ⟨⟨_, rfl, w0.heap.size, w0.heap.size + 1, rfl, hb.size, ?_, ?_, ?_⟩, ?_⟩
    · simp; try omega
    · go_simp
    · first
        | exact sh3_rd ((Blk.new w0 _ _).alloc _)
        | exact sh3_rd (((Blk.new w0 _ _).alloc _).drew)
        | exact sh3_rd ((Blk.new w0 _ _).drew.alloc _)
    · first
        | exact (hb.alloc hb.size _).alloc (by have := hb.size; simp; omega) _
        | exact ((hb.alloc hb.size _).alloc (by have := hb.size; simp; omega) _).drew
        | exact (hb.alloc hb.size _).drew.alloc (by have := hb.size; simp; omega) _

theorem nmE0 {k : Int} {nd sv : ByteArray} {a b : Int} (h : nmE k nd sv a b 0 ⟨#[]⟩ ⟨#[]⟩ 0 0 = true) : k = 0 ∧ nmO k nd sv a b = nm0 := by
  obtain ⟨rfl, rfl, rfl, rfl, rfl⟩ := nmE_iff.1 h
  exact ⟨rfl, rfl⟩
theorem i64_wf {a : Int} (ha : I64 a) : (Lit.int .i64 a).wf = true := by
  exact WalkArith.wf_i64 ha

/-- An item of new memory is made, with a number behind it. -/
def MadeI2 (n : Nat) (x : Itm) (u : Int) (e : Ending) (w' : World) : Prop := ∃ (k m : Int) (s : ByteArray) (p : Option Addr) (l c : Nat), e = .returned (.tuple #[.agg #[.int .i64 k, .int .i64 m, .string s, .slice p l c], .int .i64 u]) ∧ ItV (fun b => n ≤ b) w' x (.agg #[.int .i64 k, .int .i64 m, .string s, .slice p l c])
theorem MadeI2.done {n m : Nat} {W : World} {R : Nat} {x : Itm} {u k q : Int} {s : ByteArray} {p : Option Addr} {l c : Nat} {v0 v1 v2 v3 : Value} (h : ItV (fun b => m < b) W x (.agg #[.int .i64 k, .int .i64 q, .string s, .slice p l c])) (hR : R ≤ m) (hn : n ≤ m) : MadeI2 n x u (.returned (.tuple #[.agg #[.int .i64 k, .int .i64 q, .string s, .slice p l c], .int .i64 u])) ((((W.setCell ⟨R, 0, none⟩ v0).setCell ⟨R, 1, none⟩ v1).setCell ⟨R, 2, none⟩ v2).setCell ⟨R, 3, none⟩ v3) :=
  ⟨k, q, s, p, l, c, rfl, (h.sets4 (fun b hb e => by have h2 : m < b := hb; omega) _ _ _ _).mono (fun b _ hb => by have h2 : m < b := hb; show n ≤ b; omega)⟩
theorem itv_zero {ok : Nat → Prop} {W : World} : ItV ok W zerI (.agg #[.int .i64 0, .int .i64 0, .string ⟨#[]⟩, .slice none 0 0]) := ItV.num (n := 0) (by decide)
/-- What is laid of a name. -/
def layI (o : Nm) : Itm × Int := if nmR o then (itmN o, 0) else (zerI, 60)

theorem shapes_mk (k : Int) (nd sv : ByteArray) (a b : Int) (w0 w : World) (hE : EnvN w) (ha : I64 a) (hb : I64 b) (hr : nmR (nmO k nd sv a b) = true) :
    ∀ x ∈ [(nmE k nd sv a b 0 ⟨#[]⟩ ⟨#[]⟩ 0 0, 76, .agg #[.int .i64 k, .string nd, .string sv, .int .i64 a, .int .i64 b]), (k == 1, 77, .agg #[.int .i64 k, .string nd, .string sv, .int .i64 a, .int .i64 b]), (k == 2, 78, .agg #[.int .i64 k, .string nd, .string sv, .int .i64 a, .int .i64 b])], MkI w (fun _ v W => ItV (fun b => w.heap.size + 1 < b) W (itmN (nmO k nd sv a b)) v) x := by
  intro x hx
  simp only [List.mem_cons, List.not_mem_nil, or_false] at hx
  have fin : ∀ {y : Itm} {W : World} {e : Ending} {W' : World}, y = itmN (nmO k nd sv a b) → w.heap.size + 1 < W.heap.size → MadeI W.heap.size y e W' → ∃ (k' m : Int) (s : ByteArray) (p : Option Addr) (l c : Nat), e = .returned (.agg #[.int .i64 k', .int .i64 m, .string s, .slice p l c]) ∧ ItV (fun b => w.heap.size + 1 < b) W' (itmN (nmO k nd sv a b)) (.agg #[.int .i64 k', .int .i64 m, .string s, .slice p l c]) := by
    rintro y W e W' rfl hW ⟨k', m, s, p, l, c, rfl, hI⟩
    exact ⟨k', m, s, p, l, c, rfl, hI.mono (fun b _ hb => Nat.lt_of_lt_of_le hW hb)⟩
  rcases hx with rfl | rfl | rfl
  · intro hfit
    obtain ⟨rfl, ho⟩ := nmE0 hfit
    exact ⟨enters_of Tryz.func76 (by kernel_rfl) rfl, fun W hB hW => (nnone_any _ _ _ _ _ W).mono fun e W' h => ⟨fin (by rw [ho]) hW h.1, h.2⟩⟩
  · intro hfit
    obtain rfl : k = 1 := by simpa using hfit
    refine ⟨enters_of Tryz.func77 (by kernel_rfl) rfl, fun W hB hW => (ndtn_of _ _ _ _ _ _ rfl W (hE.below hB) ha hb).mono fun e W' h => ⟨fin ?_ hW h.1, h.2⟩⟩
    have e1 : itmN (nmO 1 nd sv a b) = lstI [numI 1, txtI (hlv (nmO 1 nd sv a b)).2] := rfl
    rw [e1]
    unfold rsS
    rw [if_pos hr]
  · intro hfit
    obtain rfl : k = 2 := by simpa using hfit
    exact ⟨enters_of Tryz.func78 (by kernel_rfl) rfl, fun W hB hW => (nipn_any _ _ _ _ _ W (i64_wf ha) (i64_wf hb)).mono fun e W' h => ⟨fin rfl hW h.1, h.2⟩⟩
theorem shapes_fit {k : Int} {nd sv : ByteArray} {a b : Int} (hr : nmR (nmO k nd sv a b) = true) {f g h : Nat} {v : Value} (hn : noFit [(nmE k nd sv a b 0 ⟨#[]⟩ ⟨#[]⟩ 0 0, f, v), (k == 1, g, v), (k == 2, h, v)]) : False := by
  have h0 := hn _ (List.mem_cons_self ..)
  have h1 := hn (k == 1, g, v) (by simp)
  have h2 := hn (k == 2, h, v) (by simp)
  simp only at h0 h1 h2
  rcases nmR_cases hr with e | ⟨e, _⟩ | ⟨A, B, e, _⟩
  · have e1 : k = 0 := congrArg Nm.k e
    have e2 : nd.data.toList = [] := congrArg Nm.node e
    have e3 : sv.data.toList = [] := congrArg Nm.serv e
    have e4 : a = 0 := congrArg Nm.a e
    have e5 : b = 0 := congrArg Nm.b e
    have : nmE k nd sv a b 0 ⟨#[]⟩ ⟨#[]⟩ 0 0 = true := nmE_iff.2 ⟨e1, ba_ext (by rw [e2]), ba_ext (by rw [e3]), e4, e5⟩
    rw [this] at h0
    cases h0
  · have e1 : k = 1 := e
    subst e1
    cases h1
  · have e1 : k = 2 := congrArg Nm.k e
    subst e1
    cases h2

set_option maxRecDepth 100000 in
set_option maxHeartbeats 2000000 in
theorem jlay_any (k : Int) (nd sv : ByteArray) (a b : Int) (w : World) (hE : EnvN w) (ha : I64 a) (hb9 : I64 b) :
    Calls Tryz.prog 27 #[.agg #[.int .i64 k, .string nd, .string sv, .int .i64 a, .int .i64 b]] w fun e w' => MadeI2 w.heap.size (layI (nmO k nd sv a b)).1 (layI (nmO k nd sv a b)).2 e w' ∧ Below w.heap.size w w' := by
  unfold layI
  cases hr : nmR (nmO k nd sv a b) with
  | false =>
    simp only [Bool.false_eq_true, if_false]
    have HR := Lib.hid hr
    clear hr
    have bR_ := Blk.new (w.alloc (.cells #[.int .i64 k, .string nd, .string sv, .int .i64 a, .int .i64 b] 23)) 26 #[.int .i64 0, .int .i64 0, .string ⟨#[]⟩, .slice none 0 0]
    simp only [World.size_alloc] at bR_
    have bN : Blk ((w.alloc (.cells #[.int .i64 k, .string nd, .string sv, .int .i64 a, .int .i64 b] 23)).alloc (.cells #[.int .i64 0, .int .i64 0, .string ⟨#[]⟩, .slice none 0 0] 26)) (w.heap.size) 23 #[.int .i64 k, .string nd, .string sv, .int .i64 a, .int .i64 b] := (Blk.new w _ _).alloc _
    have bR : Blk ((w.alloc (.cells #[.int .i64 k, .string nd, .string sv, .int .i64 a, .int .i64 b] 23)).alloc (.cells #[.int .i64 0, .int .i64 0, .string ⟨#[]⟩, .slice none 0 0] 26)) (w.heap.size + 1) 26 #[.int .i64 0, .int .i64 0, .string ⟨#[]⟩, .slice none 0 0] := bR_
    have hb : Below w.heap.size w ((w.alloc (.cells #[.int .i64 k, .string nd, .string sv, .int .i64 a, .int .i64 b] 23)).alloc (.cells #[.int .i64 0, .int .i64 0, .string ⟨#[]⟩, .slice none 0 0] 26)) := (((Below.refl _ w).alloc (Nat.le_refl _) _).alloc (by simp; try omega) _)
    have hE0 := hE.below hb
    clear bR_
    obtain ⟨cN0, cN1, cN2, cN3, cN4⟩ := bN.five
    have lN := bN.lt
    go_enter Tryz.func27, Tryz.ntmps27
    go_wp2_with fail
    generalize ((w.alloc (.cells #[.int .i64 k, .string nd, .string sv, .int .i64 a, .int .i64 b] 23)).alloc (.cells #[.int .i64 0, .int .i64 0, .string ⟨#[]⟩, .slice none 0 0] 26)) = w0 at *
    refine (eright_any k nd sv a b w0 hE0 ha hb9).mono ?_
    rintro e w1 ⟨rfl, hc1⟩
    have hb1 := hb.trans (hc1.mono hb.size)
    replace bN := bN.here hc1
    replace bR := bR.here hc1
    have hE1 := hE0.below hc1
    clear hE0
    clear hc1 hb
    rw [HR.out]
    clear cN0 cN1 cN2 cN3 cN4 lN
    obtain ⟨cR0, cR1, cR2, cR3⟩ := bR.four
    have fR0 := bR.frozen 0
    have fR1 := bR.frozen 1
    have fR2 := bR.frozen 2
    have fR3 := bR.frozen 3
    have lR := bR.lt
    go_wp2_with fail
    refine bodyPost_ret (res_item2 (bR.set4 _ _ _ _) rfl rfl rfl) rfl ⟨MadeI2.done (m := w.heap.size + 1) itv_zero (Nat.le_refl _) (Nat.le_succ _), below_sets4 hb1 (by omega) _ _ _ _⟩
  | true =>
    simp only [if_true]
    have HR := Lib.hid hr
    clear hr
    have bR_ := Blk.new (w.alloc (.cells #[.int .i64 k, .string nd, .string sv, .int .i64 a, .int .i64 b] 23)) 26 #[.int .i64 0, .int .i64 0, .string ⟨#[]⟩, .slice none 0 0]
    simp only [World.size_alloc] at bR_
    have bN : Blk ((w.alloc (.cells #[.int .i64 k, .string nd, .string sv, .int .i64 a, .int .i64 b] 23)).alloc (.cells #[.int .i64 0, .int .i64 0, .string ⟨#[]⟩, .slice none 0 0] 26)) (w.heap.size) 23 #[.int .i64 k, .string nd, .string sv, .int .i64 a, .int .i64 b] := (Blk.new w _ _).alloc _
    have bR : Blk ((w.alloc (.cells #[.int .i64 k, .string nd, .string sv, .int .i64 a, .int .i64 b] 23)).alloc (.cells #[.int .i64 0, .int .i64 0, .string ⟨#[]⟩, .slice none 0 0] 26)) (w.heap.size + 1) 26 #[.int .i64 0, .int .i64 0, .string ⟨#[]⟩, .slice none 0 0] := bR_
    have hb : Below w.heap.size w ((w.alloc (.cells #[.int .i64 k, .string nd, .string sv, .int .i64 a, .int .i64 b] 23)).alloc (.cells #[.int .i64 0, .int .i64 0, .string ⟨#[]⟩, .slice none 0 0] 26)) := (((Below.refl _ w).alloc (Nat.le_refl _) _).alloc (by simp; try omega) _)
    have hE0 := hE.below hb
    clear bR_
    obtain ⟨cN0, cN1, cN2, cN3, cN4⟩ := bN.five
    have lN := bN.lt
    go_enter Tryz.func27, Tryz.ntmps27
    go_wp2_with fail
    generalize ((w.alloc (.cells #[.int .i64 k, .string nd, .string sv, .int .i64 a, .int .i64 b] 23)).alloc (.cells #[.int .i64 0, .int .i64 0, .string ⟨#[]⟩, .slice none 0 0] 26)) = w0 at *
    refine (eright_any k nd sv a b w0 hE0 ha hb9).mono ?_
    rintro e w1 ⟨rfl, hc1⟩
    have hb1 := hb.trans (hc1.mono hb.size)
    replace bN := bN.here hc1
    replace bR := bR.here hc1
    have hE1 := hE0.below hc1
    clear hE0
    clear hc1 hb
    rw [HR.out]
    clear cN0 cN1 cN2 cN3 cN4 lN
    obtain ⟨cN0, cN1, cN2, cN3, cN4⟩ := bN.five
    have lN := bN.lt
    go_wp2_with fail
    refine (nshapes_any k nd sv a b w1).mono ?_
    rintro e w2 ⟨⟨v, rfl, A, Q, rfl, hnA, hA, hQ, hP⟩, hc2⟩
    have hb2 := hb1.trans (hc2.mono hb1.size)
    replace bN := bN.here hc2
    replace bR := bR.here hc2
    have hE2 := hE1.below hc2
    clear hE1
    clear hc2 hb1
    clear cN0 cN1 cN2 cN3 cN4 lN
    have lR := bR.lt
    have hmk := shapes_mk k nd sv a b w w2 hE2 ha hb9 HR.out
    have HMK := Lib.hid hmk
    have HQ := Lib.hid hQ
    have HP := Lib.hid hP
    clear hmk hQ hP
    go_wp2_with fail
    refine (fit_anyI A Q _ (by simp) w2 HQ.out HP.out hA (fun _ v W => ItV (fun b => w2.heap.size + 1 < b) W (itmN (nmO k nd sv a b)) v) (fun x v X Y h hI => ItV.keep (fun a' u ha' e => ⟨h a' u (.inr ha') e, ha'⟩) _ _ hI) HMK.out).mono ?_
    rintro e w3 ⟨(⟨hn, _⟩ | ⟨_, _, _, _, _, _, k1, m1, s1, p1, l1, c1, rfl, hI⟩), hc3⟩
    · exact (shapes_fit HR.out hn).elim
    have hb3 := hb2.trans (hc3.mono hb2.size)
    replace bN := bN.here hc3
    replace bR := bR.here hc3
    have hE3 := hE2.below hc3
    clear hE2
    clear hc3 hb2
    obtain ⟨cR0, cR1, cR2, cR3⟩ := bR.four
    have fR0 := bR.frozen 0
    have fR1 := bR.frozen 1
    have fR2 := bR.frozen 2
    have fR3 := bR.frozen 3
    have lR := bR.lt
    have HI := Lib.hid hI
    clear hI HMK HQ HP
    go_wp2_with fail
    refine bodyPost_ret (res_item2 (bR.set4 _ _ _ _) rfl rfl rfl) rfl ⟨MadeI2.done (m := w.heap.size + 1) (HI.out.mono (fun b _ hb => by have h2 : w2.heap.size + 1 < b := hb; show w.heap.size + 1 < b; omega)) (Nat.le_refl _) (Nat.le_succ _), below_sets4 hb3 (by omega) _ _ _ _⟩

end Go.Proofs.YtmbmolgkccjedaaGreatDoor

/- Names of items (package eid7): an item's parts; none, dtn, ipn. -/
set_option linter.unusedVariables false
set_option linter.unusedSimpArgs false
namespace Go.Proofs.YtmbmolgkccjedaaGreatDoor
open Go.RowKit
attribute [local go_sem ↓] Go.wp_at_zero Go.wp_at_succ

theorem fieldI0 (k n : Int) (s : ByteArray) (p : Option Addr) (l c : Nat) (w : World) : (Instr.field 26 (.agg #[.int .i64 k, .int .i64 n, .string s, .slice p l c]) 0).run Tryz.prog w = .ok (.int .i64 k) w := by kernel_rfl
theorem fieldI1 (k n : Int) (s : ByteArray) (p : Option Addr) (l c : Nat) (w : World) : (Instr.field 26 (.agg #[.int .i64 k, .int .i64 n, .string s, .slice p l c]) 1).run Tryz.prog w = .ok (.int .i64 n) w := by kernel_rfl
theorem fieldI2 (k n : Int) (s : ByteArray) (p : Option Addr) (l c : Nat) (w : World) : (Instr.field 26 (.agg #[.int .i64 k, .int .i64 n, .string s, .slice p l c]) 2).run Tryz.prog w = .ok (.string s) w := by kernel_rfl
/-- An item is answered. -/
def ItA (ok : Nat → Prop) (y : Itm) (e : Ending) (w' : World) : Prop := ∃ v, e = .returned v ∧ ItV ok w' y v
theorem blk2 (w : World) (o : Obj) (t : TypeId) (cs : Array Value) : Blk ((w.alloc o).alloc (.cells cs t)) (w.heap.size + 1) t cs := by
  have h := Blk.new (w.alloc o) t cs
  rw [World.size_alloc] at h
  exact h
theorem below2 (w : World) (o o' : Obj) : Below w.heap.size w ((w.alloc o).alloc o') := ((Below.refl _ w).alloc (Nat.le_refl _) _).alloc (by simp) _
theorem prt_some {x y : Itm} {j : Nat} (h : x.l[j]? = some y) : prt x j = y := by unfold prt; rw [h]; rfl
theorem prt_none {x : Itm} {j : Nat} (h : x.l.length ≤ j) : prt x j = zerI := by unfold prt; rw [List.getElem?_eq_none h]; rfl

set_option maxRecDepth 100000 in
set_option maxHeartbeats 2000000 in
theorem gpart_any (ok : Nat → Prop) (x : Itm) (v : Value) (j : Nat) (hj : j ≤ 1) (w : World) (hx : ItV ok w x v) :
    Calls Tryz.prog 80 #[v, .int .i64 (j : Int)] w fun e w' => ItA ok (prt x j) e w' ∧ Below w.heap.size w w' := by
  obtain ⟨p, cap, rfl, hcap, hits, -, -, -⟩ := hx.parts
  by_cases hlt : j < x.l.length
  · obtain ⟨y, hy⟩ : ∃ y, x.l[j]? = some y := ⟨_, List.getElem?_eq_getElem hlt⟩
    rw [prt_some hy]
    obtain ⟨a, c0, c1, c2, c3, rfl, ho, e0, e1, e2, e3, hvy⟩ := ItsV.reads x.l j y hits hy
    obtain ⟨p2, cap2, he, -⟩ := hvy.parts
    simp only [Value.agg.injEq, Array.mk.injEq, List.cons.injEq, and_true] at he
    obtain ⟨rfl, rfl, rfl, rfl⟩ := he
    have bR_ := Blk.new (w.alloc (.cells #[.int .i64 x.k, .int .i64 x.n, .string ⟨x.s.toArray⟩, .slice (some a) x.l.length cap] 95)) 26 #[.int .i64 0, .int .i64 0, .string ⟨#[]⟩, .slice none 0 0]
    simp only [World.size_alloc] at bR_
    have bG : Blk ((w.alloc (.cells #[.int .i64 x.k, .int .i64 x.n, .string ⟨x.s.toArray⟩, .slice (some a) x.l.length cap] 95)).alloc (.cells #[.int .i64 0, .int .i64 0, .string ⟨#[]⟩, .slice none 0 0] 26)) (w.heap.size) 95 #[.int .i64 x.k, .int .i64 x.n, .string ⟨x.s.toArray⟩, .slice (some a) x.l.length cap] := (Blk.new w _ _).alloc _
    have bR : Blk ((w.alloc (.cells #[.int .i64 x.k, .int .i64 x.n, .string ⟨x.s.toArray⟩, .slice (some a) x.l.length cap] 95)).alloc (.cells #[.int .i64 0, .int .i64 0, .string ⟨#[]⟩, .slice none 0 0] 26)) (w.heap.size + 1) 26 #[.int .i64 0, .int .i64 0, .string ⟨#[]⟩, .slice none 0 0] := bR_
    have hb : Below w.heap.size w ((w.alloc (.cells #[.int .i64 x.k, .int .i64 x.n, .string ⟨x.s.toArray⟩, .slice (some a) x.l.length cap] 95)).alloc (.cells #[.int .i64 0, .int .i64 0, .string ⟨#[]⟩, .slice none 0 0] 26)) := (((Below.refl _ w).alloc (Nat.le_refl _) _).alloc (by simp; try omega) _)
    clear bR_
    obtain ⟨cG0, cG1, cG2, cG3⟩ := bG.four
    have lG := bG.lt
    obtain ⟨cR0, cR1, cR2, cR3⟩ := bR.four
    have fR0 := bR.frozen 0
    have fR1 := bR.frozen 1
    have fR2 := bR.frozen 2
    have fR3 := bR.frozen 3
    have lR := bR.lt
    have d0 := (hb.cell (World.block_lt_of_cell? _ _ e0)).trans e0
    have d1 := (hb.cell (World.block_lt_of_cell? _ _ e1)).trans e1
    have d2 := (hb.cell (World.block_lt_of_cell? _ _ e2)).trans e2
    have d3 := (hb.cell (World.block_lt_of_cell? _ _ e3)).trans e3
    have g1 : decide ((x.l.length : Int) ≤ (j : Int)) = false := decide_eq_false (by omega)
    have g2 : (0 : Int) ≤ (j : Int) := by omega
    have g3 : (j : Int) < (x.l.length : Int) := by omega
    have g4 : decide ((j : Int) ≥ (x.l.length : Int)) = false := decide_eq_false (by omega)
    have HV := Lib.hid hvy
    have HB := Lib.hid hb
    have HBR := Lib.hid bR
    clear hvy hy hits hx e0 e1 e2 e3 hb bG bR
    go_enter Tryz.func80, Tryz.ntmps80
    go_wp2_with fail
    exact bodyPost_ret (res_item (blk2 _ _ _ _) rfl rfl) rfl ⟨⟨_, rfl, HV.out.below (below2 _ _ _)⟩, below2 _ _ _⟩
  · rw [prt_none (by omega)]
    have bR_ := Blk.new (w.alloc (.cells #[.int .i64 x.k, .int .i64 x.n, .string ⟨x.s.toArray⟩, .slice p x.l.length cap] 95)) 26 #[.int .i64 0, .int .i64 0, .string ⟨#[]⟩, .slice none 0 0]
    simp only [World.size_alloc] at bR_
    have bG : Blk ((w.alloc (.cells #[.int .i64 x.k, .int .i64 x.n, .string ⟨x.s.toArray⟩, .slice p x.l.length cap] 95)).alloc (.cells #[.int .i64 0, .int .i64 0, .string ⟨#[]⟩, .slice none 0 0] 26)) (w.heap.size) 95 #[.int .i64 x.k, .int .i64 x.n, .string ⟨x.s.toArray⟩, .slice p x.l.length cap] := (Blk.new w _ _).alloc _
    have bR : Blk ((w.alloc (.cells #[.int .i64 x.k, .int .i64 x.n, .string ⟨x.s.toArray⟩, .slice p x.l.length cap] 95)).alloc (.cells #[.int .i64 0, .int .i64 0, .string ⟨#[]⟩, .slice none 0 0] 26)) (w.heap.size + 1) 26 #[.int .i64 0, .int .i64 0, .string ⟨#[]⟩, .slice none 0 0] := bR_
    have hb : Below w.heap.size w ((w.alloc (.cells #[.int .i64 x.k, .int .i64 x.n, .string ⟨x.s.toArray⟩, .slice p x.l.length cap] 95)).alloc (.cells #[.int .i64 0, .int .i64 0, .string ⟨#[]⟩, .slice none 0 0] 26)) := (((Below.refl _ w).alloc (Nat.le_refl _) _).alloc (by simp; try omega) _)
    clear bR_
    obtain ⟨cG0, cG1, cG2, cG3⟩ := bG.four
    have lG := bG.lt
    obtain ⟨cR0, cR1, cR2, cR3⟩ := bR.four
    have fR0 := bR.frozen 0
    have fR1 := bR.frozen 1
    have fR2 := bR.frozen 2
    have fR3 := bR.frozen 3
    have lR := bR.lt
    have g1 : decide ((x.l.length : Int) ≤ (j : Int)) = true := decide_eq_true (by omega)
    have g5 : decide (x.l.length ≤ j) = true := decide_eq_true (by omega)
    clear hits hx hb bG bR
    go_enter Tryz.func80, Tryz.ntmps80
    go_wp2_with fail
    exact bodyPost_ret (res_item (blk2 _ _ _ _) rfl rfl) rfl ⟨⟨_, rfl, itv_zero⟩, below2 _ _ _⟩

theorem gpart0 (ok : Nat → Prop) (x : Itm) (v : Value) (w : World) (hx : ItV ok w x v) : Calls Tryz.prog 80 #[v, .int .i64 0] w fun e w' => ItA ok (prt x 0) e w' ∧ Below w.heap.size w w' := gpart_any ok x v 0 (by decide) w hx

theorem gpart1 (ok : Nat → Prop) (x : Itm) (v : Value) (w : World) (hx : ItV ok w x v) : Calls Tryz.prog 80 #[v, .int .i64 1] w fun e w' => ItA ok (prt x 1) e w' ∧ Below w.heap.size w w' := gpart_any ok x v 1 (by decide) w hx

set_option maxRecDepth 100000 in
set_option maxHeartbeats 2000000 in
theorem gnone_any (k n : Int) (s : ByteArray) (p : Option Addr) (l c : Nat) (w : World) :
    Calls Tryz.prog 82 #[.agg #[.int .i64 k, .int .i64 n, .string s, .slice p l c]] w fun e w' => e = .returned (.agg #[.int .i64 0, .string ⟨#[]⟩, .string ⟨#[]⟩, .int .i64 0, .int .i64 0]) ∧ Below w.heap.size w w' := by
  go_enter Tryz.func82, Tryz.ntmps82
  go_wp2_with fail
  first
    | exact bodyPost_ret (res_name (blk2 _ _ _ _) rfl rfl) rfl ⟨rfl, below2 _ _ _⟩
    | exact bodyPost_ret (res_name (Blk.new _ _ _) rfl rfl) rfl ⟨rfl, belowA _ _⟩

set_option maxRecDepth 100000 in
set_option maxHeartbeats 2000000 in
theorem gdtn_of (ok : Nat → Prop) (x : Itm) (v : Value) (o : Nm) (u : Int) (ho : (jnR [100, 116, 110] (prt x 1).s).getD nm0 = o) (hu : erX (jnR [100, 116, 110] (prt x 1).s) = u) (w : World) (hE : EnvN w) (hx : ItV ok w x v) (hs : (prt x 1).s.length ≤ 4000000000) :
    Calls Tryz.prog 83 #[v] w fun e w' => e = .returned (nmW o) ∧ Below w.heap.size w w' := by
  obtain ⟨p, cap, rfl, -, -, -, -, -⟩ := hx.parts
  have HO := Lib.hid ho
  have HU := Lib.hid hu
  clear ho hu
  unfold nmW nmV
  have bR_ := Blk.new (w.alloc (.cells #[.int .i64 x.k, .int .i64 x.n, .string ⟨x.s.toArray⟩, .slice p x.l.length cap] 95)) 23 #[.int .i64 0, .string ⟨#[]⟩, .string ⟨#[]⟩, .int .i64 0, .int .i64 0]
  simp only [World.size_alloc] at bR_
  have bG : Blk ((w.alloc (.cells #[.int .i64 x.k, .int .i64 x.n, .string ⟨x.s.toArray⟩, .slice p x.l.length cap] 95)).alloc (.cells #[.int .i64 0, .string ⟨#[]⟩, .string ⟨#[]⟩, .int .i64 0, .int .i64 0] 23)) (w.heap.size) 95 #[.int .i64 x.k, .int .i64 x.n, .string ⟨x.s.toArray⟩, .slice p x.l.length cap] := (Blk.new w _ _).alloc _
  have bR : Blk ((w.alloc (.cells #[.int .i64 x.k, .int .i64 x.n, .string ⟨x.s.toArray⟩, .slice p x.l.length cap] 95)).alloc (.cells #[.int .i64 0, .string ⟨#[]⟩, .string ⟨#[]⟩, .int .i64 0, .int .i64 0] 23)) (w.heap.size + 1) 23 #[.int .i64 0, .string ⟨#[]⟩, .string ⟨#[]⟩, .int .i64 0, .int .i64 0] := bR_
  have hb : Below w.heap.size w ((w.alloc (.cells #[.int .i64 x.k, .int .i64 x.n, .string ⟨x.s.toArray⟩, .slice p x.l.length cap] 95)).alloc (.cells #[.int .i64 0, .string ⟨#[]⟩, .string ⟨#[]⟩, .int .i64 0, .int .i64 0] 23)) := (((Below.refl _ w).alloc (Nat.le_refl _) _).alloc (by simp; try omega) _)
  have hE0 := hE.below hb
  clear bR_
  have HX0 := Lib.hid (hx.below hb)
  clear hx
  obtain ⟨cG0, cG1, cG2, cG3⟩ := bG.four
  have lG := bG.lt
  go_enter Tryz.func83, Tryz.ntmps83
  go_wp2_with fail
  generalize ((w.alloc (.cells #[.int .i64 x.k, .int .i64 x.n, .string ⟨x.s.toArray⟩, .slice p x.l.length cap] 95)).alloc (.cells #[.int .i64 0, .string ⟨#[]⟩, .string ⟨#[]⟩, .int .i64 0, .int .i64 0] 23)) = w0 at *
  refine (gpart1 ok x _ w0 HX0.out).mono ?_
  rintro e w1 ⟨⟨v1, rfl, hv1⟩, hc1⟩
  have hb1 := hb.trans (hc1.mono hb.size)
  replace bG := bG.here hc1
  replace bR := bR.here hc1
  have hE1 := hE0.below hc1
  clear hE0
  clear hc1 hb
  obtain ⟨p1, cap1, rfl, -⟩ := hv1.parts
  clear hv1
  have hfl := fieldI2 (prt x 1).k (prt x 1).n ⟨(prt x 1).s.toArray⟩ p1 (prt x 1).l.length cap1
  have hlen : (⟨(prt x 1).s.toArray⟩ : ByteArray).size ≤ 4000000000 := by show (prt x 1).s.toArray.size ≤ _; rw [List.size_toArray]; exact hs
  clear cG0 cG1 cG2 cG3 lG
  go_wp2_with fail
  refine (join_any ⟨#[100, 116, 110]⟩ ⟨(prt x 1).s.toArray⟩ hlen w1 hE1).mono ?_
  rintro e w2 ⟨rfl, hc2⟩
  have hb2 := hb1.trans (hc2.mono hb1.size)
  replace bG := bG.here hc2
  replace bR := bR.here hc2
  have hE2 := hE1.below hc2
  clear hE1
  clear hc2 hb1
  rw [show (⟨#[100, 116, 110]⟩ : ByteArray).data.toList = [100, 116, 110] from rfl, show (⟨(prt x 1).s.toArray⟩ : ByteArray).data.toList = (prt x 1).s from List.toList_toArray, HU.out]
  unfold nmX
  rw [HO.out]
  unfold nmW nmV
  have hc3 : Below w2.heap.size w2 (w2.alloc (.cells #[.int .i64 o.k, .string ⟨o.node.toArray⟩, .string ⟨o.serv.toArray⟩, .int .i64 o.a, .int .i64 o.b] 23)) := (Below.refl _ _).alloc (Nat.le_refl _) _
  have bE : Blk (w2.alloc (.cells #[.int .i64 o.k, .string ⟨o.node.toArray⟩, .string ⟨o.serv.toArray⟩, .int .i64 o.a, .int .i64 o.b] 23)) w2.heap.size 23 #[.int .i64 o.k, .string ⟨o.node.toArray⟩, .string ⟨o.serv.toArray⟩, .int .i64 o.a, .int .i64 o.b] := Blk.new _ _ _
  have hb3 := hb2.trans (hc3.mono hb2.size)
  replace bG := bG.here hc3
  replace bR := bR.here hc3
  have hE3 := hE2.below hc3
  clear hE2
  clear hc3 hb2
  obtain ⟨cE0, cE1, cE2, cE3, cE4⟩ := bE.five
  have lE := bE.lt
  obtain ⟨cR0, cR1, cR2, cR3, cR4⟩ := bR.five
  have fR0 := bR.frozen 0
  have fR1 := bR.frozen 1
  have fR2 := bR.frozen 2
  have fR3 := bR.frozen 3
  have fR4 := bR.frozen 4
  have lR := bR.lt
  go_wp2_with fail
  generalize (w2.alloc (.cells #[.int .i64 o.k, .string ⟨o.node.toArray⟩, .string ⟨o.serv.toArray⟩, .int .i64 o.a, .int .i64 o.b] 23)) = w3 at *
  refine bodyPost_ret (res_name (bR.set5 _ _ _ _ _) rfl rfl) rfl ⟨rfl, below_sets5 hb3 (by omega) _ _ _ _ _⟩

set_option maxRecDepth 100000 in
set_option maxHeartbeats 2000000 in
theorem gipn_of (ok : Nat → Prop) (x y : Itm) (hy : prt x 1 = y) (v : Value) (w : World) (hx : ItV ok w x v) :
    Calls Tryz.prog 84 #[v] w fun e w' => e = .returned (.agg #[.int .i64 2, .string ⟨#[]⟩, .string ⟨#[]⟩, .int .i64 (prt y 0).n, .int .i64 (prt y 1).n]) ∧ Below w.heap.size w w' := by
  obtain ⟨p, cap, rfl, -, -, -, -, -⟩ := hx.parts
  have HYY := Lib.hid hy
  clear hy
  have bR_ := Blk.new (w.alloc (.cells #[.int .i64 x.k, .int .i64 x.n, .string ⟨x.s.toArray⟩, .slice p x.l.length cap] 95)) 23 #[.int .i64 0, .string ⟨#[]⟩, .string ⟨#[]⟩, .int .i64 0, .int .i64 0]
  simp only [World.size_alloc] at bR_
  have bG : Blk ((w.alloc (.cells #[.int .i64 x.k, .int .i64 x.n, .string ⟨x.s.toArray⟩, .slice p x.l.length cap] 95)).alloc (.cells #[.int .i64 0, .string ⟨#[]⟩, .string ⟨#[]⟩, .int .i64 0, .int .i64 0] 23)) (w.heap.size) 95 #[.int .i64 x.k, .int .i64 x.n, .string ⟨x.s.toArray⟩, .slice p x.l.length cap] := (Blk.new w _ _).alloc _
  have bR : Blk ((w.alloc (.cells #[.int .i64 x.k, .int .i64 x.n, .string ⟨x.s.toArray⟩, .slice p x.l.length cap] 95)).alloc (.cells #[.int .i64 0, .string ⟨#[]⟩, .string ⟨#[]⟩, .int .i64 0, .int .i64 0] 23)) (w.heap.size + 1) 23 #[.int .i64 0, .string ⟨#[]⟩, .string ⟨#[]⟩, .int .i64 0, .int .i64 0] := bR_
  have hb : Below w.heap.size w ((w.alloc (.cells #[.int .i64 x.k, .int .i64 x.n, .string ⟨x.s.toArray⟩, .slice p x.l.length cap] 95)).alloc (.cells #[.int .i64 0, .string ⟨#[]⟩, .string ⟨#[]⟩, .int .i64 0, .int .i64 0] 23)) := (((Below.refl _ w).alloc (Nat.le_refl _) _).alloc (by simp; try omega) _)
  clear bR_
  have HX0 := Lib.hid (hx.below hb)
  clear hx
  obtain ⟨cG0, cG1, cG2, cG3⟩ := bG.four
  have lG := bG.lt
  go_enter Tryz.func84, Tryz.ntmps84
  go_wp2_with fail
  generalize ((w.alloc (.cells #[.int .i64 x.k, .int .i64 x.n, .string ⟨x.s.toArray⟩, .slice p x.l.length cap] 95)).alloc (.cells #[.int .i64 0, .string ⟨#[]⟩, .string ⟨#[]⟩, .int .i64 0, .int .i64 0] 23)) = w0 at *
  refine (gpart1 ok x _ w0 HX0.out).mono ?_
  rintro e w1 ⟨⟨v1, rfl, hv1⟩, hc1⟩
  have hb1 := hb.trans (hc1.mono hb.size)
  replace bG := bG.here hc1
  replace bR := bR.here hc1
  clear hc1 hb
  rw [HYY.out] at hv1
  obtain ⟨p1, cap1, rfl, -⟩ := hv1.parts
  clear cG0 cG1 cG2 cG3 lG
  have HV1 := Lib.hid hv1
  clear hv1
  have hlw := bR.lt
  have hc2 : Below w1.heap.size w1 (w1.alloc (.cells #[.int .i64 y.k, .int .i64 y.n, .string ⟨y.s.toArray⟩, .slice p1 y.l.length cap1] 95)) := (Below.refl _ _).alloc (Nat.le_refl _) _
  have bP : Blk (w1.alloc (.cells #[.int .i64 y.k, .int .i64 y.n, .string ⟨y.s.toArray⟩, .slice p1 y.l.length cap1] 95)) w1.heap.size 95 #[.int .i64 y.k, .int .i64 y.n, .string ⟨y.s.toArray⟩, .slice p1 y.l.length cap1] := Blk.new _ _ _
  have hb2 := hb1.trans (hc2.mono hb1.size)
  replace bG := bG.here hc2
  replace bR := bR.here hc2
  clear hc2 hb1
  have HY0 := HV1.out.below (belowA w1 (.cells #[.int .i64 y.k, .int .i64 y.n, .string ⟨y.s.toArray⟩, .slice p1 y.l.length cap1] 95))
  go_wp2_with fail
  generalize (w1.alloc (.cells #[.int .i64 y.k, .int .i64 y.n, .string ⟨y.s.toArray⟩, .slice p1 y.l.length cap1] 95)) = w2 at *
  obtain ⟨cP0, cP1, cP2, cP3⟩ := bP.four
  have lP := bP.lt
  have lR := bR.lt
  have HR := Lib.hid bR.drew
  have HY := Lib.hid HY0.drew
  clear HY0
  clear bR
  have hcum : Below w2.heap.size w2 w2.drew := (Below.refl _ _).drew
  go_region_held3 (fun w' => w'.cell? ⟨w1.heap.size, 0, none⟩ = some (.int .i64 y.k) ∧ w'.cell? ⟨w1.heap.size, 1, none⟩ = some (.int .i64 y.n) ∧ w'.cell? ⟨w1.heap.size, 2, none⟩ = some (.string ⟨y.s.toArray⟩) ∧ w'.cell? ⟨w1.heap.size, 3, none⟩ = some (.slice p1 y.l.length cap1))
    (first
      | with_reducible exact ⟨(hcum.cell (p := ⟨w1.heap.size, 0, none⟩) lP).trans cP0, (hcum.cell (p := ⟨w1.heap.size, 1, none⟩) lP).trans cP1, (hcum.cell (p := ⟨w1.heap.size, 2, none⟩) lP).trans cP2, (hcum.cell (p := ⟨w1.heap.size, 3, none⟩) lP).trans cP3⟩
      | with_reducible exact ⟨cell_sets5 (Nat.ne_of_gt hlw) _ _ _ _ _ ((hcum.cell (p := ⟨w1.heap.size, 0, none⟩) lP).trans cP0), cell_sets5 (Nat.ne_of_gt hlw) _ _ _ _ _ ((hcum.cell (p := ⟨w1.heap.size, 1, none⟩) lP).trans cP1), cell_sets5 (Nat.ne_of_gt hlw) _ _ _ _ _ ((hcum.cell (p := ⟨w1.heap.size, 2, none⟩) lP).trans cP2), cell_sets5 (Nat.ne_of_gt hlw) _ _ _ _ _ ((hcum.cell (p := ⟨w1.heap.size, 3, none⟩) lP).trans cP3)⟩
      | go_keep)
    (first
      | ((go_at_call 80; (with_reducible refine (gpart0 ok y _ _ HY.out).mono ?_); rintro e v3 ⟨⟨v4, rfl, hv4⟩, hb1⟩; obtain ⟨p4, cap4, rfl, -⟩ := hv4.parts; clear hv4; have hfl0 := fieldI1 (prt y 0).k (prt y 0).n ⟨(prt y 0).s.toArray⟩ p4 (prt y 0).l.length cap4; replace hcum := hcum.trans (hb1.mono hcum.size); replace HR := Lib.hid (HR.out.here hb1); replace HY := Lib.hid (HY.out.below hb1); clear hb1))
      | ((go_at_call 80; (with_reducible refine (gpart1 ok y _ _ HY.out).mono ?_); rintro e v3 ⟨⟨v4, rfl, hv4⟩, hb1⟩; obtain ⟨p4, cap4, rfl, -⟩ := hv4.parts; clear hv4; have hfl1 := fieldI1 (prt y 1).k (prt y 1).n ⟨(prt y 1).s.toArray⟩ p4 (prt y 1).l.length cap4; replace hcum := hcum.trans (hb1.mono hcum.size); replace HR := Lib.hid (HR.out.here hb1); replace HY := Lib.hid (HY.out.below hb1); clear hb1; obtain ⟨cR0, cR1, cR2, cR3, cR4⟩ := HR.out.five; have fR0 := HR.out.frozen 0; have fR1 := HR.out.frozen 1; have fR2 := HR.out.frozen 2; have fR3 := HR.out.frozen 3; have fR4 := HR.out.frozen 4)))
  go_wp2_with fail
  refine bodyPost_ret (res_name (HR.out.set5 _ _ _ _ _) rfl rfl) rfl ⟨rfl, below_sets5 (hb2.trans (hcum.mono hb2.size)) (Nat.le_succ _) _ _ _ _ _⟩

end Go.Proofs.YtmbmolgkccjedaaGreatDoor
