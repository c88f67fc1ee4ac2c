/- Contracts of Restart and Arm of package disk. -/
import Derived.Test.YtpafpmefhfmndaaDoorKRead
import Derived.Deep.RegionHeld3
import Derived.RegionTactic
set_option linter.unusedVariables false
set_option linter.unusedSimpArgs false
namespace Go.Proofs.YtpafpmefhfmndaaDoor
open Go.RowKit Go.Extern.Stop Go.Stop Go.Extern

theorem DAt.turn {a b : Nat} {D D' : Dk} {w w' : World} (h : DAt a b D w) (hss : D'.ss = D.ss) (hh : HdAt a D' w') (h0 : w'.cell? ⟨a, 0, none⟩ = w.cell? ⟨a, 0, none⟩) (eb : w'.heap[b]? = w.heap[b]?) (ok : D'.Ok) : DAt a b D' w' :=
  ⟨hh, by rw [h0, hss]; exact h.c0, h.ne, fun i s e j v hv => (World.cell?_of_block (w := w) (a := ⟨b, i * 64 + j, none⟩) eb).trans (h.rg i s (by rw [← hss]; exact e) j v hv),
   fun i hi j hj => by
    obtain ⟨h1, h2⟩ := h.th i (by rw [← hss]; exact hi) j hj
    exact ⟨by rw [World.cell?_of_block (w := w) (a := ⟨b, i * 64 + j, none⟩) eb]; exact h1, (World.frozen?_of_block (w := w) (a := ⟨b, i * 64 + j, none⟩) eb).trans h2⟩, ok⟩
theorem RAt.turn {a b : Nat} {D D' : Dk} {w w' : World} (h : RAt a b D w) (hss : D'.ss = D.ss) (hh : HdAt a D' w') (h0 : w'.cell? ⟨a, 0, none⟩ = w.cell? ⟨a, 0, none⟩) (eb : w'.heap[b]? = w.heap[b]?) (ok : D'.Ok) : RAt a b D' w' :=
  ⟨hh, by rw [h0, hss]; exact h.c0, h.ne, fun i s e => ⟨(World.cell?_of_block (w := w) (a := ⟨b, i, none⟩) eb).trans (h.rg i s (by rw [← hss]; exact e)).1, (World.frozen?_of_block (w := w) (a := ⟨b, i, none⟩) eb).trans (h.rg i s (by rw [← hss]; exact e)).2⟩, ok⟩

/-- The four numbers of a disk, told one by one. -/
structure Hc (a : Nat) (l c : Int) (d : Bool) (n : Int) (w : World) : Prop where
  c1 : w.cell? ⟨a, 1, none⟩ = some (.int .i64 l)
  c2 : w.cell? ⟨a, 2, none⟩ = some (.int .i64 c)
  c3 : w.cell? ⟨a, 3, none⟩ = some (.bool d)
  c4 : w.cell? ⟨a, 4, none⟩ = some (.int .i64 n)
  f1 : w.frozen? ⟨a, 1, none⟩ = false
  f2 : w.frozen? ⟨a, 2, none⟩ = false
  f3 : w.frozen? ⟨a, 3, none⟩ = false
  f4 : w.frozen? ⟨a, 4, none⟩ = false
theorem set_same {w : World} {p : Addr} {x : Value} (u : Value) (h : w.cell? p = some x) : (w.setCell p u).cell? p = some u := World.cell?_setCell_same' _ _ _ (by rw [h]; rfl)
theorem set_off {w : World} {a o o' : Nat} {x : Value} (u : Value) (h : w.cell? ⟨a, o', none⟩ = some x) (hn : o ≠ o') : (w.setCell ⟨a, o, none⟩ u).cell? ⟨a, o', none⟩ = some x := (World.cell?_setCell_other _ _ _ _ (by simp [hn])).trans h
theorem set_fr {w : World} {p q : Addr} (u : Value) (h : w.frozen? q = false) : (w.setCell p u).frozen? q = false := (World.frozen?_setCell _ _ _ _).trans h
theorem Hc.s1 {a : Nat} {l c n : Int} {d : Bool} {w : World} (h : Hc a l c d n w) (x : Int) : Hc a x c d n (w.setCell ⟨a, 1, none⟩ (.int .i64 x)) := ⟨set_same _ h.c1, set_off _ h.c2 (by omega), set_off _ h.c3 (by omega), set_off _ h.c4 (by omega), set_fr _ h.f1, set_fr _ h.f2, set_fr _ h.f3, set_fr _ h.f4⟩
theorem Hc.s2 {a : Nat} {l c n : Int} {d : Bool} {w : World} (h : Hc a l c d n w) (x : Int) : Hc a l x d n (w.setCell ⟨a, 2, none⟩ (.int .i64 x)) := ⟨set_off _ h.c1 (by omega), set_same _ h.c2, set_off _ h.c3 (by omega), set_off _ h.c4 (by omega), set_fr _ h.f1, set_fr _ h.f2, set_fr _ h.f3, set_fr _ h.f4⟩
theorem Hc.s3 {a : Nat} {l c n : Int} {d : Bool} {w : World} (h : Hc a l c d n w) (x : Bool) : Hc a l c x n (w.setCell ⟨a, 3, none⟩ (.bool x)) := ⟨set_off _ h.c1 (by omega), set_off _ h.c2 (by omega), set_same _ h.c3, set_off _ h.c4 (by omega), set_fr _ h.f1, set_fr _ h.f2, set_fr _ h.f3, set_fr _ h.f4⟩
theorem Hc.s4 {a : Nat} {l c n : Int} {d : Bool} {w : World} (h : Hc a l c d n w) (x : Int) : Hc a l c d x (w.setCell ⟨a, 4, none⟩ (.int .i64 x)) := ⟨set_off _ h.c1 (by omega), set_off _ h.c2 (by omega), set_off _ h.c3 (by omega), set_same _ h.c4, set_fr _ h.f1, set_fr _ h.f2, set_fr _ h.f3, set_fr _ h.f4⟩
theorem HdAt.hc {a : Nat} {D : Dk} {w : World} (h : HdAt a D w) : ∃ c : Int, Hc a D.left c D.down D.n w ∧ (0 < D.left → c = D.cut) := by
  obtain ⟨c, h2, hc⟩ := h.c2
  exact ⟨c, ⟨h.c1, h2, h.c3, h.c4, h.f1, h.f2, h.f3, h.f4⟩, hc⟩
theorem Hc.hd {a : Nat} {D : Dk} {c : Int} {w : World} {l n : Int} {d : Bool} (h : Hc a l c d n w) (hl : l = D.left) (hd : d = D.down) (hn : n = D.n) (hc : 0 < D.left → c = D.cut) : HdAt a D w := by
  subst hl hd hn
  exact ⟨h.c1, ⟨c, h.c2, hc⟩, h.c3, h.c4, h.f1, h.f2, h.f3, h.f4⟩
theorem Hc.lt {a : Nat} {l c n : Int} {d : Bool} {w : World} (h : Hc a l c d n w) : a < w.heap.size := World.block_lt_of_cell? _ _ h.c1

set_option maxRecDepth 100000 in
set_option maxHeartbeats 1000000 in
theorem restart_raw (a b : Nat) (D : Dk) (w : World) (h : DAt a b D w) :
    Calls Tryd.prog 35 #[.pointer (some ⟨a, 0, none⟩)] w fun e w' => e = .returned .nilIface ∧ DAt a b (restD D) w' ∧ Only a b w w' := by
  go_enter Tryd.func35, Tryd.ntmps35
  go_wp2_with fail
  refine (given_any _ _).mono ?_
  rintro e w1 ⟨rfl, hb1⟩
  go_wp2_with fail
  refine (check_any _ w1.heap.size 1 [(true, 1)] _ (by simp) (rules_of_block _ (heap_alloc_new w1 _))).mono ?_
  rintro e w4 ⟨rfl, hb4⟩
  have hB4 := (hb1.alloc hb1.size (.cells #[.bool true, .int .i64 1] 76)).trans (hb4.mono (by have := hb1.size; simp; omega))
  simp only [firstBad, wrongV]
  have hD4 := h.below hB4
  obtain ⟨q, hc, hq⟩ := hD4.hd.hc
  have HQ := Lib.hid hq
  clear hq
  have k1 := hc.c1
  have k2 := hc.c2
  have k3 := hc.c3
  have f1 := hc.f1
  have f2 := hc.f2
  have f3 := hc.f3
  go_wp2
  go_ret
  have hne := hD4.ne
  refine ⟨rfl, hD4.turn rfl (Hc.hd (D := restD D) (((hc.s1 0).s2 0).s3 false) rfl rfl rfl (fun h => by simp [restD] at h)) ?_ ?_ (restD_ok h.ok), (((Only.ofBelow hB4).sa 1 _).sa 2 _).sa 3 _⟩
  · rw [World.cell?_setCell_other _ _ _ _ (by simp), World.cell?_setCell_other _ _ _ _ (by simp), World.cell?_setCell_other _ _ _ _ (by simp)]
  · rw [Below.heap_setCell _ _ _ _ (Ne.symm hne), Below.heap_setCell _ _ _ _ (Ne.symm hne), Below.heap_setCell _ _ _ _ (Ne.symm hne)]

set_option maxHeartbeats 400000 in
theorem restart_any (a b : Nat) (D : Dk) (w : World) (h : DAt a b D w) :
    Calls Tryd.prog 20 #[.pointer (some ⟨a, 0, none⟩)] w fun e w' => e = .returned (.int .i64 0) ∧ DAt a b (restD D) w' ∧ Only a b w w' := by
  go_enter Tryd.func20, Tryd.ntmps20
  go_wp2_with fail
  refine (restart_raw a b D _ h).mono ?_
  rintro e w1 ⟨rfl, hD1, ho1⟩
  go_wp2_with fail
  refine (number_nil _).mono ?_
  rintro e w2 ⟨rfl, hb2⟩
  go_wp2
  go_ret
  exact ⟨rfl, hD1.below hb2, ho1.below hb2⟩

set_option maxRecDepth 100000 in
set_option maxHeartbeats 2000000 in
theorem arm_ok (a b : Nat) (D : Dk) (n c : Int) (w : World) (h : DAt a b D w) (hn : 1 ≤ n) (hn' : n ≤ 9223372036854775807) (hc0 : 0 ≤ c) (hc1 : c ≤ 64) :
    Calls Tryd.prog 37 #[.pointer (some ⟨a, 0, none⟩), .int .i64 n, .int .i64 c] w fun e w' => e = .returned .nilIface ∧ DAt a b (armD D n c) w' ∧ Only a b w w' := by
  have hw : withinB c 0 64 = true := by unfold withinB; simp; omega
  have g1 : decide (n ≥ 1) = true := by simpa using hn
  go_enter Tryd.func37, Tryd.ntmps37
  go_wp2_with fail
  refine (within_any _ _ _ _).mono ?_
  rintro e w' ⟨rfl, rfl⟩
  rw [hw]
  go_wp2
  have g0 : (w.alloc (.cells #[.bool true, .int .i64 2] 76)).cell? ⟨w.heap.size, 0, none⟩ = some (.bool true) := by go_simp
  have g1 : (w.alloc (.cells #[.bool true, .int .i64 2] 76)).cell? ⟨w.heap.size, 1, none⟩ = some (.int .i64 2) := by go_simp
  have hb0 : Below w.heap.size w (w.alloc (.cells #[.bool true, .int .i64 2] 76)) := (Below.refl _ _).alloc (Nat.le_refl _) _
  have hz0 : w.heap.size < (w.alloc (.cells #[.bool true, .int .i64 2] 76)).heap.size := by simp
  generalize w.alloc (.cells #[.bool true, .int .i64 2] 76) = w0 at g0 g1 hb0 hz0 ⊢
  have hcum : Below w0.heap.size w0 w0.drew := (Below.refl w0.heap.size w0).drew
  go_region_held3 (fun w' => w'.cell? ⟨w.heap.size, 0, none⟩ = some (.bool true) ∧ w'.cell? ⟨w.heap.size, 1, none⟩ = some (.int .i64 2))
    (first
      | exact ⟨(hcum.cell (p := ⟨w.heap.size, 0, none⟩) hz0).trans g0, (hcum.cell (p := ⟨w.heap.size, 1, none⟩) hz0).trans g1⟩
      | go_keep)
    (first
      | ((go_at_call 40; refine (given_any _ _).mono ?_; rintro e w1 ⟨rfl, hb1⟩; replace hcum := hcum.trans (hb1.mono hcum.size); clear hb1))
      | ((go_at_call 38; refine (check_any _ _ _ [(true, 1), (true, 2)] _ (by simp) (rules_of_block _ (heap_alloc_new _ _))).mono ?_; rintro e w4 ⟨rfl, hb4⟩; replace hcum := (hcum.alloc hcum.size _).trans (hb4.mono (by have := hcum.size; simp; omega)); clear hb4; simp only [firstBad, wrongV])))
  have hB4 : Below w.heap.size w w4 := hb0.trans (hcum.mono hb0.size)
  clear hcum hb0 g0 g1 hz0
  have hD4 := h.below hB4
  obtain ⟨q, hc, hq⟩ := hD4.hd.hc
  have HQ := Lib.hid hq
  clear hq
  have k1 := hc.c1
  have k2 := hc.c2
  have f1 := hc.f1
  have f2 := hc.f2
  go_wp2
  go_ret
  have hne := hD4.ne
  have hA : armD D n c = { D with left := n.toNat, cut := c.toNat } := if_pos ⟨hn, hc0, hc1⟩
  refine ⟨rfl, hD4.turn (by rw [hA]) (Hc.hd (D := armD D n c) ((hc.s1 n).s2 c) (by rw [hA]; simp; omega) (by rw [hA]) (by rw [hA]) (fun h => by rw [hA]; simp; omega)) ?_ ?_ (armD_ok h.ok n c hn'), ((Only.ofBelow hB4).sa 1 _).sa 2 _⟩
  · rw [World.cell?_setCell_other _ _ _ _ (by simp), World.cell?_setCell_other _ _ _ _ (by simp)]
  · rw [Below.heap_setCell _ _ _ _ (Ne.symm hne), Below.heap_setCell _ _ _ _ (Ne.symm hne)]

set_option maxRecDepth 100000 in
set_option maxHeartbeats 2000000 in
theorem arm_bad (a b : Nat) (D : Dk) (n c : Int) (w : World) (h : DAt a b D w) (p : Bool) (hp : (decide (1 ≤ n) && withinB c 0 64) = false) :
    Calls Tryd.prog 37 #[.pointer (some ⟨a, 0, none⟩), .int .i64 n, .int .i64 c] w fun e w' => e = .returned (wrongV ⟨#[65, 114, 109]⟩ (some 2)) ∧ Below w.heap.size w w' := by
  have key : ∀ (w0 : World), True := fun _ => trivial
  by_cases hn : 1 ≤ n
  · have hw : withinB c 0 64 = false := by simpa [hn] using hp
    have g1 : decide (n ≥ 1) = true := by simpa using hn
    clear hp
    go_enter Tryd.func37, Tryd.ntmps37
    go_wp2_with fail
    refine (within_any _ _ _ _).mono ?_
    rintro e w' ⟨rfl, rfl⟩
    rw [hw]
    go_wp2
    have g0 : (w.alloc (.cells #[.bool false, .int .i64 2] 76)).cell? ⟨w.heap.size, 0, none⟩ = some (.bool false) := by go_simp
    have g1 : (w.alloc (.cells #[.bool false, .int .i64 2] 76)).cell? ⟨w.heap.size, 1, none⟩ = some (.int .i64 2) := by go_simp
    have hb0 : Below w.heap.size w (w.alloc (.cells #[.bool false, .int .i64 2] 76)) := (Below.refl _ _).alloc (Nat.le_refl _) _
    have hz0 : w.heap.size < (w.alloc (.cells #[.bool false, .int .i64 2] 76)).heap.size := by simp
    generalize w.alloc (.cells #[.bool false, .int .i64 2] 76) = w0 at g0 g1 hb0 hz0 ⊢
    have hcum : Below w0.heap.size w0 w0.drew := (Below.refl w0.heap.size w0).drew
    go_region_held3 (fun w' => w'.cell? ⟨w.heap.size, 0, none⟩ = some (.bool false) ∧ w'.cell? ⟨w.heap.size, 1, none⟩ = some (.int .i64 2))
      (first
        | exact ⟨(hcum.cell (p := ⟨w.heap.size, 0, none⟩) hz0).trans g0, (hcum.cell (p := ⟨w.heap.size, 1, none⟩) hz0).trans g1⟩
        | go_keep)
      (first
        | ((go_at_call 40; refine (given_any _ _).mono ?_; rintro e w1 ⟨rfl, hb1⟩; replace hcum := hcum.trans (hb1.mono hcum.size); clear hb1))
        | ((go_at_call 38; refine (check_any _ _ _ [(true, 1), (false, 2)] _ (by simp) (rules_of_block _ (heap_alloc_new _ _))).mono ?_; rintro e w4 ⟨rfl, hb4⟩; replace hcum := (hcum.alloc hcum.size _).trans (hb4.mono (by have := hcum.size; simp; omega)); clear hb4; simp only [firstBad, wrongV])))
    have hB4 : Below w.heap.size w w4 := hb0.trans (hcum.mono hb0.size)
    clear hcum hb0 g0 g1 hz0
    go_wp2
    go_ret
    exact ⟨rfl, hB4⟩
  · have g1 : decide (n ≥ 1) = false := by simpa using hn
    clear hp
    go_enter Tryd.func37, Tryd.ntmps37
    go_wp2
    have g0 : (w.alloc (.cells #[.bool false, .int .i64 2] 76)).cell? ⟨w.heap.size, 0, none⟩ = some (.bool false) := by go_simp
    have g1 : (w.alloc (.cells #[.bool false, .int .i64 2] 76)).cell? ⟨w.heap.size, 1, none⟩ = some (.int .i64 2) := by go_simp
    have hb0 : Below w.heap.size w (w.alloc (.cells #[.bool false, .int .i64 2] 76)) := (Below.refl _ _).alloc (Nat.le_refl _) _
    have hz0 : w.heap.size < (w.alloc (.cells #[.bool false, .int .i64 2] 76)).heap.size := by simp
    generalize w.alloc (.cells #[.bool false, .int .i64 2] 76) = w0 at g0 g1 hb0 hz0 ⊢
    have hcum : Below w0.heap.size w0 w0.drew := (Below.refl w0.heap.size w0).drew
    go_region_held3 (fun w' => w'.cell? ⟨w.heap.size, 0, none⟩ = some (.bool false) ∧ w'.cell? ⟨w.heap.size, 1, none⟩ = some (.int .i64 2))
      (first
        | exact ⟨(hcum.cell (p := ⟨w.heap.size, 0, none⟩) hz0).trans g0, (hcum.cell (p := ⟨w.heap.size, 1, none⟩) hz0).trans g1⟩
        | go_keep)
      (first
        | ((go_at_call 40; refine (given_any _ _).mono ?_; rintro e w1 ⟨rfl, hb1⟩; replace hcum := hcum.trans (hb1.mono hcum.size); clear hb1))
        | ((go_at_call 38; refine (check_any _ _ _ [(true, 1), (false, 2)] _ (by simp) (rules_of_block _ (heap_alloc_new _ _))).mono ?_; rintro e w4 ⟨rfl, hb4⟩; replace hcum := (hcum.alloc hcum.size _).trans (hb4.mono (by have := hcum.size; simp; omega)); clear hb4; simp only [firstBad, wrongV])))
    have hB4 : Below w.heap.size w w4 := hb0.trans (hcum.mono hb0.size)
    clear hcum hb0 g0 g1 hz0
    go_wp2
    go_ret
    exact ⟨rfl, hB4⟩

set_option maxHeartbeats 400000 in
theorem arm_any (a b : Nat) (D : Dk) (n c : Int) (w : World) (hG : EnvE w) (h : DAt a b D w) (hn' : n ≤ 9223372036854775807) :
    Calls Tryd.prog 22 #[.pointer (some ⟨a, 0, none⟩), .int .i64 n, .int .i64 c] w fun e w' => e = .returned (.int .i64 (armE n c)) ∧ DAt a b (armD D n c) w' ∧ Only a b w w' := by
  by_cases hb : armB n c
  · have hE : armE n c = 0 := if_pos hb
    obtain ⟨h1, h2, h3⟩ := hb
    rw [hE]
    clear hE
    go_enter Tryd.func22, Tryd.ntmps22
    go_wp2_with fail
    refine (arm_ok a b D n c _ h h1 hn' h2 h3).mono ?_
    rintro e w1 ⟨rfl, hD1, ho1⟩
    go_wp2_with fail
    refine (number_nil _).mono ?_
    rintro e w2 ⟨rfl, hb2⟩
    go_wp2
    go_ret
    exact ⟨rfl, hD1.below hb2, ho1.below hb2⟩
  · have hE : armE n c = 2 := if_neg hb
    have hA : armD D n c = D := if_neg hb
    have hp : (decide (1 ≤ n) && withinB c 0 64) = false := by
      unfold armB at hb; unfold withinB
      rw [Bool.eq_false_iff]; intro e; simp at e; omega
    rw [hE, hA]
    have HP := Lib.hid hp
    clear hE hA hp hb
    go_enter Tryd.func22, Tryd.ntmps22
    go_wp2_with fail
    refine (arm_bad a b D n c _ h true HP.out).mono ?_
    rintro e w1 ⟨rfl, hb1⟩
    go_wp2_with fail
    refine (number_bad _ 2 _ (hG.below hb1) (wrongV_bad _ _)).mono ?_
    rintro e w2 ⟨rfl, hb2⟩
    go_wp2
    go_ret
    have hB := hb1.trans (hb2.mono hb1.size)
    exact ⟨rfl, h.below hB, Only.ofBelow hB⟩
end Go.Proofs.YtpafpmefhfmndaaDoor
