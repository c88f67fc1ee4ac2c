/- Contracts of up, markUp, markDown, down of package signs: what they answer as if nothing were wrong, and what is wrong. -/
import Derived.Test.YtlddkoblicnepaaDoorGUp
set_option linter.unusedVariables false
set_option linter.unusedSimpArgs false
namespace Go.Proofs.YtlddkoblicnepaaDoor
open Go.RowKit Go.Extern.Stop Go.Stop Go.Extern

def upF (X : BitVec 64) : BitVec 64 := if X &&& 475136#64 = 0#64 then X &&& 475175#64 else (X &&& 475175#64) ||| 64#64
theorem upF_eq (X : BitVec 64) : upF X = if X &&& 475136#64 = 0#64 then X &&& 475175#64 else (X &&& 475175#64) ||| 64#64 := rfl
def upW (b : Nat → Addr) (X : BitVec 64) : Value := firstG [(rightSixB X, b 7), (X &&& 32768#64 == 0#64, b 1), (!(X &&& 16#64 == 0#64), b 2)]
def markUpW (b : Nat → Addr) (X : BitVec 64) : Value := firstG [(onlyB X 127#64, b 7), (X &&& 32#64 == 0#64, b 4), (X &&& 64#64 == 0#64, b 5)]
def markDownF (X : BitVec 64) (last : Bool) : BitVec 64 := if last then (X &&& 23#64) ||| 8#64 else X &&& 23#64
theorem markDownF_eq (X : BitVec 64) (last : Bool) : markDownF X last = if last then (X &&& 23#64) ||| 8#64 else X &&& 23#64 := rfl
def markDownW (b : Nat → Addr) (X : BitVec 64) : Value := firstG [(onlyB X 23#64, b 7)]
def mulF (n : Int) : BitVec 64 := BitVec.ofInt 64 (n * 128)
theorem mulF_wrap (n : Int) : IntKind.i64.wrap (n * 128) = tI (mulF n) := by
  show _ = (BitVec.ofInt 64 (n * 128)).toInt
  rw [wrap_bmod, BitVec.toInt_ofInt]
def downF (X : BitVec 64) (n : Int) (c : Bool) : BitVec 64 := if c then (((X &&& 475175#64) ||| 16#64) ||| mulF n) ||| 8#64 else ((X &&& 475175#64) ||| 16#64) ||| mulF n
theorem downF_eq (X : BitVec 64) (n : Int) (c : Bool) : downF X n c = if c then (((X &&& 475175#64) ||| 16#64) ||| mulF n) ||| 8#64 else ((X &&& 475175#64) ||| 16#64) ||| mulF n := rfl
def downW (b : Nat → Addr) (X : BitVec 64) (n : Int) : Value := firstG [(onlyB X 475239#64, b 7), (withinB n 0 2, b 7), ((!(X &&& 64#64 == 0#64)) == (!(X &&& 475136#64 == 0#64)), b 3)]

set_option maxRecDepth 100000 in
set_option maxHeartbeats 4000000 in
theorem up_any (b : Nat → Addr) (X : BitVec 64) (w : World) (hE : EnvG b w) :
    Calls Tryd.prog 26 #[.agg #[.int .i64 (tI X)]] w fun e w' => e = .returned (.tuple #[.int .i64 (tI (upF X)), upW b X]) ∧ Below w.heap.size w w' := by
  unfold upW
  have HF := Lib.hid (upF_eq X)
  have hpart := partb_any X 475175#64
  have hhas := hasb_any X 475136#64
  have hsix := rightSix_any X
  have hacc := hasb_any X 32768#64
  have hsin := hasb_any X 16#64
  have hor := bor (X &&& 475175#64) 64#64
  generalize X &&& 475175#64 = Y at *
  generalize hhp0 : (X &&& 475136#64 == 0#64) = p0 at *
  have HHp0 := Lib.hid hhp0
  clear hhp0
  generalize rightSixB X = p1 at *
  generalize (X &&& 32768#64 == 0#64) = p2 at *
  generalize (X &&& 16#64 == 0#64) = p3 at *
  generalize Y ||| 64#64 = Y1 at *
  rw [show tI 475175#64 = 475175 by decide] at hpart
  rw [show tI 475136#64 = 475136 by decide] at hhas
  rw [show tI 32768#64 = 32768 by decide] at hacc
  rw [show tI 16#64 = 16 by decide] at hsin
  rw [show tI 64#64 = 64 by decide] at hor
  have Hhpart := Lib.hid hpart
  clear hpart
  have Hhhas := Lib.hid hhas
  clear hhas
  have Hhsix := Lib.hid hsix
  clear hsix
  have Hhacc := Lib.hid hacc
  clear hacc
  have Hhsin := Lib.hid hsin
  clear hsin
  generalize hV : upF X = V at *
  have HV := Lib.hid hV
  clear hV
  generalize tI X = x at *
  generalize hb1 : b 1 = a1 at *
  have HB1 := Lib.hid hb1
  clear hb1
  generalize hb2 : b 2 = a2 at *
  have HB2 := Lib.hid hb2
  clear hb2
  generalize hb7 : b 7 = a7 at *
  have HB7 := Lib.hid hb7
  clear hb7
  obtain ⟨w0, hw0⟩ : ∃ w0, w0 = w.alloc (.cells #[.int .i64 x] 39) := ⟨_, rfl⟩
  have hb0 : Below w.heap.size w w0 := by rw [hw0]; exact (Below.refl _ _).alloc (Nat.le_refl _) _
  have c0 : w0.cell? ⟨w.heap.size, 0, none⟩ = some (.int .i64 x) := by rw [hw0]; go_simp
  have hz0 : w.heap.size < w0.heap.size := by rw [hw0]; simp
  cases p0 with
  | true =>
    go_enter Tryd.func26, Tryd.ntmps26
    go_wp2_with fail
    rw [← hw0]
    clear hw0
    refine (Hhpart.out _).mono ?_
    rintro e w1 ⟨rfl, hb⟩
    have c1 := (hb.cell (p := ⟨w.heap.size, 0, none⟩) hz0).trans c0
    have hb1 := hb0.trans (hb.mono hb0.size)
    have hz1 : w.heap.size < w1.heap.size := Nat.lt_of_lt_of_le hz0 hb.size
    clear c0 hb0 hb hz0
    go_wp2_with fail
    refine (Hhhas.out _).mono ?_
    rintro e w2 ⟨rfl, hb⟩
    have c2 := (hb.cell (p := ⟨w.heap.size, 0, none⟩) hz1).trans c1
    have hb2 := hb1.trans (hb.mono hb1.size)
    have hz2 : w.heap.size < w2.heap.size := Nat.lt_of_lt_of_le hz1 hb.size
    clear c1 hb1 hb hz1
    have hE2 := hE.below hb2
    have g1 := hE2.g1
    rw [HB1.out] at g1
    have l1 := World.block_lt_of_cell? _ _ g1
    have g2 := hE2.g2
    rw [HB2.out] at g2
    have l2 := World.block_lt_of_cell? _ _ g2
    have g7 := hE2.g7
    rw [HB7.out] at g7
    have l7 := World.block_lt_of_cell? _ _ g7
    simp only at l1 l2 l7
    clear hE2 hE
    have hcum : CumG w2 [] w2.drew := CumG.nil (Below.refl w2.heap.size w2).drew
    go_wp2_with fail
    go_region_held3 (fun w' => w'.cell? ⟨w.heap.size, 0, none⟩ = some (.int .i64 x) ∧ w'.cell? ⟨3, 0, none⟩ = some (sentG a1) ∧ w'.cell? ⟨4, 0, none⟩ = some (sentG a2) ∧ w'.cell? ⟨2, 0, none⟩ = some (sentG a7))
      (first
        | exact ⟨(hcum.b.cell (p := ⟨w.heap.size, 0, none⟩) hz2).trans c2, (hcum.b.cell l1).trans g1, (hcum.b.cell l2).trans g2, (hcum.b.cell l7).trans g7⟩
        | go_keep)
      (first
        | ((go_at_call 41; refine (Hhsix.out _).mono ?_; rintro e v1 ⟨rfl, hb⟩; replace hcum := hcum.below hb; clear hb))
        | ((go_at_call 40; refine (Hhacc.out _).mono ?_; rintro e v2 ⟨rfl, hb⟩; replace hcum := hcum.below hb; clear hb))
        | ((go_at_call 40; refine (Hhsin.out _).mono ?_; rintro e v3 ⟨rfl, hb⟩; replace hcum := hcum.below hb; clear hb))
        | ((go_at_call 35; refine (demand_any _ _ _).mono ?_; rintro e vd ⟨⟨P, E, rfl, hr⟩, hb⟩; replace hcum := hcum.snoc hr hb; clear hr hb))
        | ((go_at_call 34; refine (check_any _ _ _ _ (by simp) (hcum.rules _)).mono ?_; rintro e w' ⟨rfl, rfl⟩)))
    go_wp2
    go_ret2
    exact ⟨by rw [HF.out, if_pos (eq_of_beq HHp0.out)]; rfl, hb2.trans ((hcum.b.alloc hcum.b.size _).mono hb2.size)⟩
  | false =>
    go_enter Tryd.func26, Tryd.ntmps26
    go_wp2_with fail
    rw [← hw0]
    clear hw0
    refine (Hhpart.out _).mono ?_
    rintro e w1 ⟨rfl, hb⟩
    have c1 := (hb.cell (p := ⟨w.heap.size, 0, none⟩) hz0).trans c0
    have hb1 := hb0.trans (hb.mono hb0.size)
    have hz1 : w.heap.size < w1.heap.size := Nat.lt_of_lt_of_le hz0 hb.size
    clear c0 hb0 hb hz0
    go_wp2_with fail
    refine (Hhhas.out _).mono ?_
    rintro e w2 ⟨rfl, hb⟩
    have c2 := (hb.cell (p := ⟨w.heap.size, 0, none⟩) hz1).trans c1
    have hb2 := hb1.trans (hb.mono hb1.size)
    have hz2 : w.heap.size < w2.heap.size := Nat.lt_of_lt_of_le hz1 hb.size
    clear c1 hb1 hb hz1
    have hE2 := hE.below hb2
    have g1 := hE2.g1
    rw [HB1.out] at g1
    have l1 := World.block_lt_of_cell? _ _ g1
    have g2 := hE2.g2
    rw [HB2.out] at g2
    have l2 := World.block_lt_of_cell? _ _ g2
    have g7 := hE2.g7
    rw [HB7.out] at g7
    have l7 := World.block_lt_of_cell? _ _ g7
    simp only at l1 l2 l7
    clear hE2 hE
    have hcum : CumG w2 [] w2.drew := CumG.nil (Below.refl w2.heap.size w2).drew
    go_wp2_with fail
    go_region_held3 (fun w' => w'.cell? ⟨w.heap.size, 0, none⟩ = some (.int .i64 x) ∧ w'.cell? ⟨3, 0, none⟩ = some (sentG a1) ∧ w'.cell? ⟨4, 0, none⟩ = some (sentG a2) ∧ w'.cell? ⟨2, 0, none⟩ = some (sentG a7))
      (first
        | exact ⟨(hcum.b.cell (p := ⟨w.heap.size, 0, none⟩) hz2).trans c2, (hcum.b.cell l1).trans g1, (hcum.b.cell l2).trans g2, (hcum.b.cell l7).trans g7⟩
        | go_keep)
      (first
        | ((go_at_call 41; refine (Hhsix.out _).mono ?_; rintro e v1 ⟨rfl, hb⟩; replace hcum := hcum.below hb; clear hb))
        | ((go_at_call 40; refine (Hhacc.out _).mono ?_; rintro e v2 ⟨rfl, hb⟩; replace hcum := hcum.below hb; clear hb))
        | ((go_at_call 40; refine (Hhsin.out _).mono ?_; rintro e v3 ⟨rfl, hb⟩; replace hcum := hcum.below hb; clear hb))
        | ((go_at_call 35; refine (demand_any _ _ _).mono ?_; rintro e vd ⟨⟨P, E, rfl, hr⟩, hb⟩; replace hcum := hcum.snoc hr hb; clear hr hb))
        | ((go_at_call 34; refine (check_any _ _ _ _ (by simp) (hcum.rules _)).mono ?_; rintro e w' ⟨rfl, rfl⟩)))
    go_wp2
    go_ret2
    exact ⟨by rw [HF.out, if_neg (ne_of_beq_false HHp0.out)]; rfl, hb2.trans ((hcum.b.alloc hcum.b.size _).mono hb2.size)⟩

set_option maxRecDepth 100000 in
set_option maxHeartbeats 4000000 in
theorem markUp_any (b : Nat → Addr) (X : BitVec 64) (w : World) (hE : EnvG b w) :
    Calls Tryd.prog 32 #[.agg #[.int .i64 (tI X)]] w fun e w' => e = .returned (.tuple #[.int .i64 (tI (X &&& 23#64)), markUpW b X]) ∧ Below w.heap.size w w' := by
  unfold markUpW
  have hpart := partk_any X 23#64
  have honly := onlyk_any X 127#64
  have hpas := hask_any X 32#64
  have hnam := hask_any X 64#64
  generalize X &&& 23#64 = Y at *
  generalize onlyB X 127#64 = p1 at *
  generalize (X &&& 32#64 == 0#64) = p2 at *
  generalize (X &&& 64#64 == 0#64) = p3 at *
  rw [show tI 23#64 = 23 by decide] at hpart
  rw [show tI 127#64 = 127 by decide] at honly
  rw [show tI 32#64 = 32 by decide] at hpas
  rw [show tI 64#64 = 64 by decide] at hnam
  have Hhpart := Lib.hid hpart
  clear hpart
  have Hhonly := Lib.hid honly
  clear honly
  have Hhpas := Lib.hid hpas
  clear hpas
  have Hhnam := Lib.hid hnam
  clear hnam
  generalize hV : X &&& 23#64 = V at *
  have HV := Lib.hid hV
  clear hV
  generalize tI X = x at *
  generalize hb4 : b 4 = a4 at *
  have HB4 := Lib.hid hb4
  clear hb4
  generalize hb5 : b 5 = a5 at *
  have HB5 := Lib.hid hb5
  clear hb5
  generalize hb7 : b 7 = a7 at *
  have HB7 := Lib.hid hb7
  clear hb7
  obtain ⟨w0, hw0⟩ : ∃ w0, w0 = w.alloc (.cells #[.int .i64 x] 53) := ⟨_, rfl⟩
  have hb0 : Below w.heap.size w w0 := by rw [hw0]; exact (Below.refl _ _).alloc (Nat.le_refl _) _
  have c0 : w0.cell? ⟨w.heap.size, 0, none⟩ = some (.int .i64 x) := by rw [hw0]; go_simp
  have hz0 : w.heap.size < w0.heap.size := by rw [hw0]; simp
  go_enter Tryd.func32, Tryd.ntmps32
  go_wp2_with fail
  rw [← hw0]
  clear hw0
  have hE0 := hE.below hb0
  have g4 := hE0.g4
  rw [HB4.out] at g4
  have l4 := World.block_lt_of_cell? _ _ g4
  have g5 := hE0.g5
  rw [HB5.out] at g5
  have l5 := World.block_lt_of_cell? _ _ g5
  have g7 := hE0.g7
  rw [HB7.out] at g7
  have l7 := World.block_lt_of_cell? _ _ g7
  simp only at l4 l5 l7
  clear hE0 hE
  have hcum : CumG w0 [] w0.drew := CumG.nil (Below.refl w0.heap.size w0).drew
  go_region_held3 (fun w' => w'.cell? ⟨w.heap.size, 0, none⟩ = some (.int .i64 x) ∧ w'.cell? ⟨6, 0, none⟩ = some (sentG a4) ∧ w'.cell? ⟨7, 0, none⟩ = some (sentG a5) ∧ w'.cell? ⟨2, 0, none⟩ = some (sentG a7))
    (first
      | exact ⟨(hcum.b.cell (p := ⟨w.heap.size, 0, none⟩) hz0).trans c0, (hcum.b.cell l4).trans g4, (hcum.b.cell l5).trans g5, (hcum.b.cell l7).trans g7⟩
      | go_keep)
    (first
      | ((go_at_call 44; refine (Hhpart.out _).mono ?_; rintro e v1 ⟨rfl, hb⟩; replace hcum := hcum.below hb; clear hb))
      | ((go_at_call 45; refine (Hhonly.out _).mono ?_; rintro e v2 ⟨rfl, hb⟩; replace hcum := hcum.below hb; clear hb))
      | ((go_at_call 46; refine (Hhpas.out _).mono ?_; rintro e v3 ⟨rfl, hb⟩; replace hcum := hcum.below hb; clear hb))
      | ((go_at_call 46; refine (Hhnam.out _).mono ?_; rintro e v4 ⟨rfl, hb⟩; replace hcum := hcum.below hb; clear hb))
      | ((go_at_call 35; refine (demand_any _ _ _).mono ?_; rintro e vd ⟨⟨P, E, rfl, hr⟩, hb⟩; replace hcum := hcum.snoc hr hb; clear hr hb))
      | ((go_at_call 34; refine (check_any _ _ _ _ (by simp) (hcum.rules _)).mono ?_; rintro e w' ⟨rfl, rfl⟩)))
  go_wp2
  go_ret2
  exact ⟨rfl, hb0.trans ((hcum.b.alloc hcum.b.size _).mono hb0.size)⟩

set_option maxRecDepth 100000 in
set_option maxHeartbeats 4000000 in
theorem markDown_any (b : Nat → Addr) (X : BitVec 64) (last : Bool) (w : World) (hE : EnvG b w) :
    Calls Tryd.prog 33 #[.agg #[.int .i64 (tI X)], .bool last] w fun e w' => e = .returned (.tuple #[.int .i64 (tI (markDownF X last)), markDownW b X]) ∧ Below w.heap.size w w' := by
  unfold markDownW
  have HF := Lib.hid (markDownF_eq X last)
  have hpart := partk_any X 23#64
  have honly := onlyk_any X 23#64
  have hor := bor (X &&& 23#64) 8#64
  generalize X &&& 23#64 = Y at *
  generalize onlyB X 23#64 = p1 at *
  generalize Y ||| 8#64 = Y1 at *
  rw [show tI 23#64 = 23 by decide] at hpart
  rw [show tI 23#64 = 23 by decide] at honly
  rw [show tI 8#64 = 8 by decide] at hor
  have Hhpart := Lib.hid hpart
  clear hpart
  have Hhonly := Lib.hid honly
  clear honly
  generalize hV : markDownF X last = V at *
  have HV := Lib.hid hV
  clear hV
  generalize tI X = x at *
  generalize hb7 : b 7 = a7 at *
  have HB7 := Lib.hid hb7
  clear hb7
  obtain ⟨w0, hw0⟩ : ∃ w0, w0 = w.alloc (.cells #[.int .i64 x] 53) := ⟨_, rfl⟩
  have hb0 : Below w.heap.size w w0 := by rw [hw0]; exact (Below.refl _ _).alloc (Nat.le_refl _) _
  have c0 : w0.cell? ⟨w.heap.size, 0, none⟩ = some (.int .i64 x) := by rw [hw0]; go_simp
  have hz0 : w.heap.size < w0.heap.size := by rw [hw0]; simp
  cases last with
  | true =>
    go_enter Tryd.func33, Tryd.ntmps33
    go_wp2_with fail
    rw [← hw0]
    clear hw0
    refine (Hhpart.out _).mono ?_
    rintro e w1 ⟨rfl, hb⟩
    have c1 := (hb.cell (p := ⟨w.heap.size, 0, none⟩) hz0).trans c0
    have hb1 := hb0.trans (hb.mono hb0.size)
    have hz1 : w.heap.size < w1.heap.size := Nat.lt_of_lt_of_le hz0 hb.size
    clear c0 hb0 hb hz0
    have hE1 := hE.below hb1
    have g7 := hE1.g7
    rw [HB7.out] at g7
    have l7 := World.block_lt_of_cell? _ _ g7
    simp only at l7
    clear hE1 hE
    have hcum : CumG w1 [] w1.drew := CumG.nil (Below.refl w1.heap.size w1).drew
    go_wp2_with fail
    go_region_held3 (fun w' => w'.cell? ⟨w.heap.size, 0, none⟩ = some (.int .i64 x) ∧ w'.cell? ⟨2, 0, none⟩ = some (sentG a7))
      (first
        | exact ⟨(hcum.b.cell (p := ⟨w.heap.size, 0, none⟩) hz1).trans c1, (hcum.b.cell l7).trans g7⟩
        | go_keep)
      (first
        | ((go_at_call 45; refine (Hhonly.out _).mono ?_; rintro e v1 ⟨rfl, hb⟩; replace hcum := hcum.below hb; clear hb))
        | ((go_at_call 35; refine (demand_any _ _ _).mono ?_; rintro e vd ⟨⟨P, E, rfl, hr⟩, hb⟩; replace hcum := hcum.snoc hr hb; clear hr hb))
        | ((go_at_call 34; refine (check_any _ _ _ _ (by simp) (hcum.rules _)).mono ?_; rintro e w' ⟨rfl, rfl⟩)))
    go_wp2
    go_ret2
    exact ⟨by rw [HF.out]; rfl, hb1.trans ((hcum.b.alloc hcum.b.size _).mono hb1.size)⟩
  | false =>
    go_enter Tryd.func33, Tryd.ntmps33
    go_wp2_with fail
    rw [← hw0]
    clear hw0
    refine (Hhpart.out _).mono ?_
    rintro e w1 ⟨rfl, hb⟩
    have c1 := (hb.cell (p := ⟨w.heap.size, 0, none⟩) hz0).trans c0
    have hb1 := hb0.trans (hb.mono hb0.size)
    have hz1 : w.heap.size < w1.heap.size := Nat.lt_of_lt_of_le hz0 hb.size
    clear c0 hb0 hb hz0
    have hE1 := hE.below hb1
    have g7 := hE1.g7
    rw [HB7.out] at g7
    have l7 := World.block_lt_of_cell? _ _ g7
    simp only at l7
    clear hE1 hE
    have hcum : CumG w1 [] w1.drew := CumG.nil (Below.refl w1.heap.size w1).drew
    go_wp2_with fail
    go_region_held3 (fun w' => w'.cell? ⟨w.heap.size, 0, none⟩ = some (.int .i64 x) ∧ w'.cell? ⟨2, 0, none⟩ = some (sentG a7))
      (first
        | exact ⟨(hcum.b.cell (p := ⟨w.heap.size, 0, none⟩) hz1).trans c1, (hcum.b.cell l7).trans g7⟩
        | go_keep)
      (first
        | ((go_at_call 45; refine (Hhonly.out _).mono ?_; rintro e v1 ⟨rfl, hb⟩; replace hcum := hcum.below hb; clear hb))
        | ((go_at_call 35; refine (demand_any _ _ _).mono ?_; rintro e vd ⟨⟨P, E, rfl, hr⟩, hb⟩; replace hcum := hcum.snoc hr hb; clear hr hb))
        | ((go_at_call 34; refine (check_any _ _ _ _ (by simp) (hcum.rules _)).mono ?_; rintro e w' ⟨rfl, rfl⟩)))
    go_wp2
    go_ret2
    exact ⟨by rw [HF.out]; rfl, hb1.trans ((hcum.b.alloc hcum.b.size _).mono hb1.size)⟩

set_option maxRecDepth 100000 in
set_option maxHeartbeats 4000000 in
theorem down_any (b : Nat → Addr) (X : BitVec 64) (n : Int) (c : Bool) (w : World) (hE : EnvG b w) :
    Calls Tryd.prog 28 #[.agg #[.int .i64 (tI X)], .int .i64 n, .bool c] w fun e w' => e = .returned (.tuple #[.int .i64 (tI (downF X n c)), downW b X n]) ∧ Below w.heap.size w w' := by
  unfold downW
  have HF := Lib.hid (downF_eq X n c)
  have hpart := partb_any X 475175#64
  have honly := onlyb_any X 475239#64
  have htim := hasb_any X 64#64
  have hrep := hasb_any X 475136#64
  have hor1 := bor (X &&& 475175#64) 16#64
  have hor2 := bor ((X &&& 475175#64) ||| 16#64) (mulF n)
  have hor3 := bor (((X &&& 475175#64) ||| 16#64) ||| mulF n) 8#64
  have hmul := mulF_wrap n
  have hwit := within_any n 0 2
  generalize X &&& 475175#64 = Y at *
  generalize onlyB X 475239#64 = p1 at *
  generalize (X &&& 64#64 == 0#64) = p2 at *
  generalize (X &&& 475136#64 == 0#64) = p3 at *
  generalize withinB n 0 2 = p4 at *
  generalize Y ||| 16#64 = Y1 at *
  generalize mulF n = N at *
  generalize Y1 ||| N = Y2 at *
  generalize Y2 ||| 8#64 = Y3 at *
  rw [show tI 475175#64 = 475175 by decide] at hpart
  rw [show tI 475239#64 = 475239 by decide] at honly
  rw [show tI 64#64 = 64 by decide] at htim
  rw [show tI 475136#64 = 475136 by decide] at hrep
  rw [show tI 16#64 = 16 by decide] at hor1
  rw [show tI 8#64 = 8 by decide] at hor3
  have Hwit := Lib.hid hwit
  clear hwit
  have Hhpart := Lib.hid hpart
  clear hpart
  have Hhonly := Lib.hid honly
  clear honly
  have Hhtim := Lib.hid htim
  clear htim
  have Hhrep := Lib.hid hrep
  clear hrep
  generalize hV : downF X n c = V at *
  have HV := Lib.hid hV
  clear hV
  generalize tI X = x at *
  generalize hb3 : b 3 = a3 at *
  have HB3 := Lib.hid hb3
  clear hb3
  generalize hb7 : b 7 = a7 at *
  have HB7 := Lib.hid hb7
  clear hb7
  obtain ⟨w0, hw0⟩ : ∃ w0, w0 = w.alloc (.cells #[.int .i64 x] 39) := ⟨_, rfl⟩
  have hb0 : Below w.heap.size w w0 := by rw [hw0]; exact (Below.refl _ _).alloc (Nat.le_refl _) _
  have c0 : w0.cell? ⟨w.heap.size, 0, none⟩ = some (.int .i64 x) := by rw [hw0]; go_simp
  have hz0 : w.heap.size < w0.heap.size := by rw [hw0]; simp
  cases c with
  | true =>
    go_enter Tryd.func28, Tryd.ntmps28
    go_wp2_with fail
    rw [← hw0]
    clear hw0
    refine (Hhpart.out _).mono ?_
    rintro e w1 ⟨rfl, hb⟩
    have c1 := (hb.cell (p := ⟨w.heap.size, 0, none⟩) hz0).trans c0
    have hb1 := hb0.trans (hb.mono hb0.size)
    have hz1 : w.heap.size < w1.heap.size := Nat.lt_of_lt_of_le hz0 hb.size
    clear c0 hb0 hb hz0
    have hE1 := hE.below hb1
    have g3 := hE1.g3
    rw [HB3.out] at g3
    have l3 := World.block_lt_of_cell? _ _ g3
    have g7 := hE1.g7
    rw [HB7.out] at g7
    have l7 := World.block_lt_of_cell? _ _ g7
    simp only at l3 l7
    clear hE1 hE
    have hcum : CumG w1 [] w1.drew := CumG.nil (Below.refl w1.heap.size w1).drew
    go_wp2_with fail
    go_region_held3 (fun w' => w'.cell? ⟨w.heap.size, 0, none⟩ = some (.int .i64 x) ∧ w'.cell? ⟨5, 0, none⟩ = some (sentG a3) ∧ w'.cell? ⟨2, 0, none⟩ = some (sentG a7))
      (first
        | exact ⟨(hcum.b.cell (p := ⟨w.heap.size, 0, none⟩) hz1).trans c1, (hcum.b.cell l3).trans g3, (hcum.b.cell l7).trans g7⟩
        | go_keep)
      (first
        | ((go_at_call 42; refine (Hhonly.out _).mono ?_; rintro e v1 ⟨rfl, hb⟩; replace hcum := hcum.below hb; clear hb))
        | ((go_at_call 40; refine (Hhtim.out _).mono ?_; rintro e v2 ⟨rfl, hb⟩; replace hcum := hcum.below hb; clear hb))
        | ((go_at_call 40; refine (Hhrep.out _).mono ?_; rintro e v3 ⟨rfl, hb⟩; replace hcum := hcum.below hb; clear hb))
        | ((go_at_call 36; refine (Hwit.out _).mono ?_; rintro e w' ⟨rfl, rfl⟩))
        | ((go_at_call 35; refine (demand_any _ _ _).mono ?_; rintro e vd ⟨⟨P, E, rfl, hr⟩, hb⟩; replace hcum := hcum.snoc hr hb; clear hr hb))
        | ((go_at_call 34; refine (check_any _ _ _ _ (by simp) (hcum.rules _)).mono ?_; rintro e w' ⟨rfl, rfl⟩)))
    go_wp2
    go_ret2
    exact ⟨by rw [HF.out]; rfl, hb1.trans ((hcum.b.alloc hcum.b.size _).mono hb1.size)⟩
  | false =>
    go_enter Tryd.func28, Tryd.ntmps28
    go_wp2_with fail
    rw [← hw0]
    clear hw0
    refine (Hhpart.out _).mono ?_
    rintro e w1 ⟨rfl, hb⟩
    have c1 := (hb.cell (p := ⟨w.heap.size, 0, none⟩) hz0).trans c0
    have hb1 := hb0.trans (hb.mono hb0.size)
    have hz1 : w.heap.size < w1.heap.size := Nat.lt_of_lt_of_le hz0 hb.size
    clear c0 hb0 hb hz0
    have hE1 := hE.below hb1
    have g3 := hE1.g3
    rw [HB3.out] at g3
    have l3 := World.block_lt_of_cell? _ _ g3
    have g7 := hE1.g7
    rw [HB7.out] at g7
    have l7 := World.block_lt_of_cell? _ _ g7
    simp only at l3 l7
    clear hE1 hE
    have hcum : CumG w1 [] w1.drew := CumG.nil (Below.refl w1.heap.size w1).drew
    go_wp2_with fail
    go_region_held3 (fun w' => w'.cell? ⟨w.heap.size, 0, none⟩ = some (.int .i64 x) ∧ w'.cell? ⟨5, 0, none⟩ = some (sentG a3) ∧ w'.cell? ⟨2, 0, none⟩ = some (sentG a7))
      (first
        | exact ⟨(hcum.b.cell (p := ⟨w.heap.size, 0, none⟩) hz1).trans c1, (hcum.b.cell l3).trans g3, (hcum.b.cell l7).trans g7⟩
        | go_keep)
      (first
        | ((go_at_call 42; refine (Hhonly.out _).mono ?_; rintro e v1 ⟨rfl, hb⟩; replace hcum := hcum.below hb; clear hb))
        | ((go_at_call 40; refine (Hhtim.out _).mono ?_; rintro e v2 ⟨rfl, hb⟩; replace hcum := hcum.below hb; clear hb))
        | ((go_at_call 40; refine (Hhrep.out _).mono ?_; rintro e v3 ⟨rfl, hb⟩; replace hcum := hcum.below hb; clear hb))
        | ((go_at_call 36; refine (Hwit.out _).mono ?_; rintro e w' ⟨rfl, rfl⟩))
        | ((go_at_call 35; refine (demand_any _ _ _).mono ?_; rintro e vd ⟨⟨P, E, rfl, hr⟩, hb⟩; replace hcum := hcum.snoc hr hb; clear hr hb))
        | ((go_at_call 34; refine (check_any _ _ _ _ (by simp) (hcum.rules _)).mono ?_; rintro e w' ⟨rfl, rfl⟩)))
    go_wp2
    go_ret2
    exact ⟨by rw [HF.out]; rfl, hb1.trans ((hcum.b.alloc hcum.b.size _).mono hb1.size)⟩

end Go.Proofs.YtlddkoblicnepaaDoor
