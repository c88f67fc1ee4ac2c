/- Contracts of class and Class of package signs. -/
import Derived.Test.YtlddkoblicnepaaDoorGUp
import Derived.Deep.CutRange
import Derived.WalkSmall
set_option linter.unusedVariables false
set_option linter.unusedSimpArgs false
namespace Go.Proofs.YtlddkoblicnepaaDoor
open Go.RowKit Go.Extern.Stop Go.Stop Go.Extern

/-- A class as a value (its custodian is nobody). -/
abbrev classV (n : Int) (c : Bool) : Value := .agg #[.int .i64 n, .bool c, .int .i64 0, .string ⟨#[]⟩, .string ⟨#[]⟩, .int .i64 0, .int .i64 0]
/-- A class as an object. -/
abbrev classO (n : Int) (c : Bool) : Obj := .cells #[.int .i64 n, .bool c, .int .i64 0, .string ⟨#[]⟩, .string ⟨#[]⟩, .int .i64 0, .int .i64 0] 45
/-- A class in memory. -/
def C7 (W : World) (B : Nat) (n : Int) (c : Bool) : Prop :=
  (W.cell? ⟨B, 0, none⟩ = some (.int .i64 n) ∧ W.cell? ⟨B, 1, none⟩ = some (.bool c) ∧ W.cell? ⟨B, 2, none⟩ = some (.int .i64 0) ∧ W.cell? ⟨B, 3, none⟩ = some (.string ⟨#[]⟩) ∧ W.cell? ⟨B, 4, none⟩ = some (.string ⟨#[]⟩) ∧ W.cell? ⟨B, 5, none⟩ = some (.int .i64 0) ∧ W.cell? ⟨B, 6, none⟩ = some (.int .i64 0)) ∧
  W.frozen? ⟨B, 0, none⟩ = false ∧ W.frozen? ⟨B, 1, none⟩ = false ∧ W.frozen? ⟨B, 2, none⟩ = false ∧ W.frozen? ⟨B, 3, none⟩ = false ∧ W.frozen? ⟨B, 4, none⟩ = false ∧ W.frozen? ⟨B, 5, none⟩ = false ∧ W.frozen? ⟨B, 6, none⟩ = false
theorem C7.lt {W : World} {B : Nat} {n : Int} {c : Bool} (h : C7 W B n c) : B < W.heap.size := World.block_lt_of_cell? _ _ h.1.1
theorem C7.below {W W' : World} {B : Nat} {n : Int} {c : Bool} (h : C7 W B n c) (hb : Below W.heap.size W W') : C7 W' B n c := by
  have hl := h.lt
  obtain ⟨⟨a0, a1, a2, a3, a4, a5, a6⟩, f0, f1, f2, f3, f4, f5, f6⟩ := h
  refine ⟨⟨?_, ?_, ?_, ?_, ?_, ?_, ?_⟩, ?_, ?_, ?_, ?_, ?_, ?_, ?_⟩
  · exact (hb.cell hl).trans a0
  · exact (hb.cell hl).trans a1
  · exact (hb.cell hl).trans a2
  · exact (hb.cell hl).trans a3
  · exact (hb.cell hl).trans a4
  · exact (hb.cell hl).trans a5
  · exact (hb.cell hl).trans a6
  · exact (hb.frozen hl).trans f0
  · exact (hb.frozen hl).trans f1
  · exact (hb.frozen hl).trans f2
  · exact (hb.frozen hl).trans f3
  · exact (hb.frozen hl).trans f4
  · exact (hb.frozen hl).trans f5
  · exact (hb.frozen hl).trans f6
theorem C7.new (W : World) (n : Int) (c : Bool) : C7 (W.alloc (classO n c)) W.heap.size n c := by
  refine ⟨⟨?_, ?_, ?_, ?_, ?_, ?_, ?_⟩, ?_, ?_, ?_, ?_, ?_, ?_, ?_⟩ <;> go_simp
theorem C7.alloc {W : World} {B : Nat} {n : Int} {c : Bool} (h : C7 W B n c) (o : Obj) : C7 (W.alloc o) B n c := h.below ((Below.refl _ _).alloc (Nat.le_refl _) _)
/-- A world in which a class has been written to B. -/
abbrev put7 (W : World) (B : Nat) (n : Int) (c : Bool) : World := ((((((W.setCell ⟨B, 0, none⟩ (.int .i64 n)).setCell ⟨B, 1, none⟩ (.bool c)).setCell ⟨B, 2, none⟩ (.int .i64 0)).setCell ⟨B, 3, none⟩ (.string ⟨#[]⟩)).setCell ⟨B, 4, none⟩ (.string ⟨#[]⟩)).setCell ⟨B, 5, none⟩ (.int .i64 0)).setCell ⟨B, 6, none⟩ (.int .i64 0)
theorem C7.put {W : World} {B : Nat} {n m : Int} {c d : Bool} (h : C7 W B n c) : C7 (put7 W B m d) B m d := by
  obtain ⟨⟨a0, a1, a2, a3, a4, a5, a6⟩, f0, f1, f2, f3, f4, f5, f6⟩ := h
  unfold put7
  refine ⟨⟨?_, ?_, ?_, ?_, ?_, ?_, ?_⟩, ?_, ?_, ?_, ?_, ?_, ?_, ?_⟩ <;> go_simp
theorem below_set_g {n : Nat} {w W : World} {a : Addr} {v : Value} (h : Below n w W) (ha : n ≤ a.block) : Below n w (W.setCell a v) :=
  h.setCell ha v
theorem below_put7 {k : Nat} {w W : World} {B : Nat} {n : Int} {c : Bool} (h : Below k w W) (hB : k ≤ B) : Below k w (put7 W B n c) :=
  below_set_g (below_set_g (below_set_g (below_set_g (below_set_g (below_set_g (below_set_g h hB) hB) hB) hB) hB) hB) hB
theorem put7_far {W : World} {A B o : Nat} {n : Int} {c : Bool} (h : A ≠ B) : (put7 W A n c).cell? ⟨B, o, none⟩ = W.cell? ⟨B, o, none⟩ := by
  unfold put7
  have k : ∀ (W : World) (i : Nat) (v : Value), (W.setCell ⟨A, i, none⟩ v).cell? ⟨B, o, none⟩ = W.cell? ⟨B, o, none⟩ := fun W i v => World.cell?_setCell_other _ _ _ _ (fun e => h (by injection e))
  rw [k, k, k, k, k, k, k]
theorem c7_res {W : World} {R : Nat} {n : Int} {c : Bool} (fn : Func) (j s : Nat) (hres : fn.results = #[.cell j 45, .tmp s]) (tmps : Array Value) (v : Value) (h2 : tmps[j]?.getD undef = .pointer (some ⟨R, 0, none⟩)) (h3 : tmps[s]?.getD undef = v) (h : C7 W R n c) :
    (results fn tmps).run Tryd.prog W = .ok (.tuple #[classV n c, v]) W := by
  obtain ⟨⟨c0, c1, c2, c3, c4, c5, c6⟩, _⟩ := h
  simp [results, hres, go_sem, h2, h3, c0, c1, c2, c3, c4, c5, c6]

set_option maxHeartbeats 1000000 in
theorem tellc_ok (n : Int) (c : Bool) (w : World) :
    Calls Tryd.prog 30 #[classV n c, .nilIface] w fun e w' => e = .returned (.tuple #[classV n c, .int .i64 0]) ∧ Below w.heap.size w w' := by
  go_enter Tryd.func30, Tryd.ntmps30
  go_wp2
  refine bodyPost_ret (v := .tuple #[classV n c, .int .i64 0]) (by simp [results, Tryd.results30, go_sem]) rfl ⟨rfl, ?_⟩
  exact ((Below.refl _ _).alloc (Nat.le_refl _) _).alloc (by simp) _

set_option maxRecDepth 100000 in
set_option maxHeartbeats 400000 in
theorem tellc_bad (b : Nat → Addr) (n : Int) (c : Bool) (w : World) (hE : EnvG b w) :
    Calls Tryd.prog 30 #[classV n c, sentG (b 7)] w fun e w' => e = .returned (.tuple #[classV 0 false, .int .i64 2]) ∧ Below w.heap.size w w' := by
  have HN := Lib.hid (gnumber7 b)
  generalize hb : b 7 = a at *
  have C0 := (C7.new (w.alloc (classO n c)) 0 false).alloc (classO 0 false)
  have C1 := C7.new ((w.alloc (classO n c)).alloc (classO 0 false)) 0 false
  have hB1 : Below w.heap.size w (((w.alloc (classO n c)).alloc (classO 0 false)).alloc (classO 0 false)) := (((Below.refl _ _).alloc (Nat.le_refl _) _).alloc (by simp) _).alloc (by simp; omega) _
  simp only [World.size_alloc] at C0 C1
  go_enter Tryd.func30, Tryd.ntmps30
  go_wp2_with fail
  generalize (((w.alloc (classO n c)).alloc (classO 0 false)).alloc (classO 0 false)) = w1 at *
  have hl0 : w.heap.size ≤ w.heap.size + 1 := Nat.le_succ _
  generalize w.heap.size + 1 + 1 = B1 at *
  generalize w.heap.size + 1 = B0 at *
  have HE := Lib.hid (hE.below hB1.drew)
  have HB := Lib.hid hB1
  have K0 := Lib.hid C0
  clear hB1 hE
  obtain ⟨⟨a0, a1, a2, a3, a4, a5, a6⟩, f0, f1, f2, f3, f4, f5, f6⟩ := C0
  obtain ⟨⟨c0, c1, c2, c3, c4, c5, c6⟩, _⟩ := C1
  go_region_with ((go_at_call 38; refine (HN.out _ HE.out).mono ?_; rintro e w' ⟨rfl, rfl⟩))
  all_goals
    go_wp2
    exact bodyPost_ret (c7_res _ 4 5 rfl _ (.int .i64 2) rfl rfl ((C7.put K0.out).below (Below.refl _ _).drew)) rfl ⟨rfl, (below_put7 HB.out hl0).drew⟩

set_option maxRecDepth 100000 in
set_option maxHeartbeats 4000000 in
theorem class_any (b : Nat → Addr) (X : BitVec 64) (w : World) (hE : EnvG b w) :
    Calls Tryd.prog 31 #[.agg #[.int .i64 (tI X)]] w fun e w' => e = .returned (.tuple #[classV (prioI X) (!(X &&& 8#64 == 0#64)), firstG [(rightSixB X, b 7)]]) ∧ Below w.heap.size w w' := by
  have hpri := priority_any X
  have hhas := hasb_any X 8#64
  have hsix := rightSix_any X
  rw [show tI 8#64 = 8 by decide] at hhas
  generalize prioI X = n at *
  generalize (X &&& 8#64 == 0#64) = p at *
  generalize rightSixB X = r at *
  have Hpri := Lib.hid hpri
  have Hhas := Lib.hid hhas
  have Hsix := Lib.hid hsix
  clear hpri hhas hsix
  generalize tI X = x at *
  generalize hb7 : b 7 = a7 at *
  have HB7 := Lib.hid hb7
  clear hb7
  have c0 : ((w.alloc (.cells #[.int .i64 x] 39)).alloc (classO 0 false)).cell? ⟨w.heap.size, 0, none⟩ = some (.int .i64 x) := by go_simp
  have C0 := C7.new (w.alloc (.cells #[.int .i64 x] 39)) 0 false
  have hB0 : Below w.heap.size w ((w.alloc (.cells #[.int .i64 x] 39)).alloc (classO 0 false)) := ((Below.refl _ _).alloc (Nat.le_refl _) _).alloc (by simp) _
  simp only [World.size_alloc] at C0
  have hl0 : w.heap.size ≤ w.heap.size + 1 := Nat.le_succ _
  go_enter Tryd.func31, Tryd.ntmps31
  have hB0x : w.heap.size + 1 ≠ w.heap.size := Nat.succ_ne_self _
  go_upto_region 1 with fail
  generalize ((w.alloc (.cells #[.int .i64 x] 39)).alloc (classO 0 false)) = w0 at *
  generalize w.heap.size + 1 = B0 at *
  have hz0 := World.block_lt_of_cell? _ _ c0
  simp only at hz0
  have KC0 := Lib.hid C0
  have KB0 := Lib.hid hB0
  have HE := Lib.hid hE
  clear C0 hB0 hE
  go_cut [4] from 5 to 9 (fun q wc => ∃ A : Nat, q = .pointer (some ⟨A, 0, none⟩) ∧ C7 wc A n (!p) ∧ w0.heap.size ≤ A ∧ Below w0.heap.size w0 wc)
  case first =>
    clear Hsix HB7 KC0 KB0 HE
    have hcum : Below w0.heap.size w0 w0.drew := (Below.refl _ _).drew
    go_region_held3 (fun w' => w'.cell? ⟨w.heap.size, 0, none⟩ = some (.int .i64 x))
      (first
        | with_reducible exact (hcum.cell hz0).trans c0
        | with_reducible exact ((hcum.alloc hcum.size _).cell hz0).trans c0
        | with_reducible exact ((((Below.refl w0.heap.size w0).alloc (Nat.le_refl _) _).drew).cell hz0).trans c0
        | with_reducible exact (put7_far hne).trans ((hcum.cell hz0).trans c0))
      (first
        | ((go_at_call 43; refine (Hpri.out _).mono ?_; rintro e v ⟨rfl, hb⟩; replace hcum := hcum.trans (hb.mono hcum.size); replace KA := Lib.hid (KA.out.below hb); clear hb a0 a1 a2 a3 a4 a5 a6 f0 f1 f2 f3 f4 f5 f6; obtain ⟨⟨a0, a1, a2, a3, a4, a5, a6⟩, f0, f1, f2, f3, f4, f5, f6⟩ := KA.out))
        | ((go_at_call 43; refine (Hpri.out _).mono ?_; rintro e v ⟨rfl, hb⟩; replace hcum := hcum.trans (hb.mono hcum.size); clear hb))
        | ((go_at_call 43; refine (Hpri.out _).mono ?_; rintro e v ⟨rfl, hb⟩; have KA := Lib.hid ((C7.new _ 0 false).below hb); have hA := hcum.size; have hne := Nat.ne_of_gt (Nat.lt_of_lt_of_le hz0 hcum.size); replace hcum := (hcum.alloc hcum.size _).trans (hb.mono (hcum.alloc hcum.size _).size); clear hb; obtain ⟨⟨a0, a1, a2, a3, a4, a5, a6⟩, f0, f1, f2, f3, f4, f5, f6⟩ := KA.out))
        | ((go_at_call 43; refine (Hpri.out _).mono ?_; rintro e v ⟨rfl, hb⟩; have KA := Lib.hid (((C7.new w0 0 false).below (Below.refl _ _).drew).below hb); have hA := Nat.le_refl w0.heap.size; have hne := Nat.ne_of_gt hz0; replace hcum := (((Below.refl w0.heap.size w0).alloc (Nat.le_refl _) _).drew).trans (hb.mono (((Below.refl w0.heap.size w0).alloc (Nat.le_refl _) _).drew).size); clear hb; obtain ⟨⟨a0, a1, a2, a3, a4, a5, a6⟩, f0, f1, f2, f3, f4, f5, f6⟩ := KA.out))
        | ((go_at_call 40; refine (Hhas.out _).mono ?_; rintro e v ⟨rfl, hb⟩; replace hcum := hcum.trans (hb.mono hcum.size); replace KA := Lib.hid (KA.out.below hb); clear hb a0 a1 a2 a3 a4 a5 a6 f0 f1 f2 f3 f4 f5 f6; obtain ⟨⟨a0, a1, a2, a3, a4, a5, a6⟩, f0, f1, f2, f3, f4, f5, f6⟩ := KA.out))
        | ((go_at_call 40; refine (Hhas.out _).mono ?_; rintro e v ⟨rfl, hb⟩; replace hcum := hcum.trans (hb.mono hcum.size); clear hb))
        | ((go_at_call 40; refine (Hhas.out _).mono ?_; rintro e v ⟨rfl, hb⟩; have KA := Lib.hid ((C7.new _ 0 false).below hb); have hA := hcum.size; have hne := Nat.ne_of_gt (Nat.lt_of_lt_of_le hz0 hcum.size); replace hcum := (hcum.alloc hcum.size _).trans (hb.mono (hcum.alloc hcum.size _).size); clear hb; obtain ⟨⟨a0, a1, a2, a3, a4, a5, a6⟩, f0, f1, f2, f3, f4, f5, f6⟩ := KA.out))
        | ((go_at_call 40; refine (Hhas.out _).mono ?_; rintro e v ⟨rfl, hb⟩; have KA := Lib.hid (((C7.new w0 0 false).below (Below.refl _ _).drew).below hb); have hA := Nat.le_refl w0.heap.size; have hne := Nat.ne_of_gt hz0; replace hcum := (((Below.refl w0.heap.size w0).alloc (Nat.le_refl _) _).drew).trans (hb.mono (((Below.refl w0.heap.size w0).alloc (Nat.le_refl _) _).drew).size); clear hb; obtain ⟨⟨a0, a1, a2, a3, a4, a5, a6⟩, f0, f1, f2, f3, f4, f5, f6⟩ := KA.out)))
    all_goals
      go_wp2_with fail
      go_meet
      case rel =>
        first
          | exact ⟨_, rfl, KA.out.put, hA, below_put7 hcum hA⟩
          | exact ⟨_, rfl, C7.new _ n (!p), hcum.size, hcum.alloc hcum.size _⟩
  case rest =>
    obtain ⟨A, rfl, hC, hA, hBc⟩ := hcut
    have hBw := KB0.out.trans (hBc.mono KB0.out.size)
    have hEc := HE.out.below hBw
    have g7 := hEc.g7
    rw [HB7.out] at g7
    have hzA := hC.lt
    have hne : B0 ≠ A := Nat.ne_of_lt (Nat.lt_of_lt_of_le KC0.out.lt hA)
    have hnx : B0 ≠ w.heap.size := hB0x
    have hng : B0 ≠ 2 := by
      have := World.block_lt_of_cell? _ _ (HE.out.g7)
      simp only at this
      omega
    have hcx := (hBc.cell (p := ⟨w.heap.size, 0, none⟩) hz0).trans c0
    have KZ := Lib.hid ((KC0.out.below hBc).below (Below.refl _ _).drew)
    have HS : Hid (∀ W, Below wc.heap.size wc W → W.cell? ⟨A, 0, none⟩ = some (.int .i64 n) ∧ W.cell? ⟨A, 1, none⟩ = some (.bool (!p)) ∧ W.cell? ⟨A, 2, none⟩ = some (.int .i64 0) ∧ W.cell? ⟨A, 3, none⟩ = some (.string ⟨#[]⟩) ∧ W.cell? ⟨A, 4, none⟩ = some (.string ⟨#[]⟩) ∧ W.cell? ⟨A, 5, none⟩ = some (.int .i64 0) ∧ W.cell? ⟨A, 6, none⟩ = some (.int .i64 0) ∧ W.cell? ⟨w.heap.size, 0, none⟩ = some (.int .i64 x) ∧ W.cell? ⟨2, 0, none⟩ = some (sentG a7)) := Lib.hid (fun W hb => by
      obtain ⟨⟨q0, q1, q2, q3, q4, q5, q6⟩, _⟩ := hC.below hb
      exact ⟨q0, q1, q2, q3, q4, q5, q6, (hb.cell (World.block_lt_of_cell? _ _ hcx)).trans hcx, (hb.cell (World.block_lt_of_cell? _ _ g7)).trans g7⟩)
    have HP : Hid (∀ W, W.cell? ⟨A, 0, none⟩ = some (.int .i64 n) ∧ W.cell? ⟨A, 1, none⟩ = some (.bool (!p)) ∧ W.cell? ⟨A, 2, none⟩ = some (.int .i64 0) ∧ W.cell? ⟨A, 3, none⟩ = some (.string ⟨#[]⟩) ∧ W.cell? ⟨A, 4, none⟩ = some (.string ⟨#[]⟩) ∧ W.cell? ⟨A, 5, none⟩ = some (.int .i64 0) ∧ W.cell? ⟨A, 6, none⟩ = some (.int .i64 0) ∧ W.cell? ⟨w.heap.size, 0, none⟩ = some (.int .i64 x) ∧ W.cell? ⟨2, 0, none⟩ = some (sentG a7) → (put7 W B0 n (!p)).cell? ⟨A, 0, none⟩ = some (.int .i64 n) ∧ (put7 W B0 n (!p)).cell? ⟨A, 1, none⟩ = some (.bool (!p)) ∧ (put7 W B0 n (!p)).cell? ⟨A, 2, none⟩ = some (.int .i64 0) ∧ (put7 W B0 n (!p)).cell? ⟨A, 3, none⟩ = some (.string ⟨#[]⟩) ∧ (put7 W B0 n (!p)).cell? ⟨A, 4, none⟩ = some (.string ⟨#[]⟩) ∧ (put7 W B0 n (!p)).cell? ⟨A, 5, none⟩ = some (.int .i64 0) ∧ (put7 W B0 n (!p)).cell? ⟨A, 6, none⟩ = some (.int .i64 0) ∧ (put7 W B0 n (!p)).cell? ⟨w.heap.size, 0, none⟩ = some (.int .i64 x) ∧ (put7 W B0 n (!p)).cell? ⟨2, 0, none⟩ = some (sentG a7)) := Lib.hid (fun W ⟨q0, q1, q2, q3, q4, q5, q6, q7, q8⟩ => ⟨(put7_far hne).trans q0, (put7_far hne).trans q1, (put7_far hne).trans q2, (put7_far hne).trans q3, (put7_far hne).trans q4, (put7_far hne).trans q5, (put7_far hne).trans q6, (put7_far hnx).trans q7, (put7_far hng).trans q8⟩)
    have HA : Hid (∀ (W : World) (o : Obj), W.cell? ⟨A, 0, none⟩ = some (.int .i64 n) ∧ W.cell? ⟨A, 1, none⟩ = some (.bool (!p)) ∧ W.cell? ⟨A, 2, none⟩ = some (.int .i64 0) ∧ W.cell? ⟨A, 3, none⟩ = some (.string ⟨#[]⟩) ∧ W.cell? ⟨A, 4, none⟩ = some (.string ⟨#[]⟩) ∧ W.cell? ⟨A, 5, none⟩ = some (.int .i64 0) ∧ W.cell? ⟨A, 6, none⟩ = some (.int .i64 0) ∧ W.cell? ⟨w.heap.size, 0, none⟩ = some (.int .i64 x) ∧ W.cell? ⟨2, 0, none⟩ = some (sentG a7) → (W.alloc o).cell? ⟨A, 0, none⟩ = some (.int .i64 n) ∧ (W.alloc o).cell? ⟨A, 1, none⟩ = some (.bool (!p)) ∧ (W.alloc o).cell? ⟨A, 2, none⟩ = some (.int .i64 0) ∧ (W.alloc o).cell? ⟨A, 3, none⟩ = some (.string ⟨#[]⟩) ∧ (W.alloc o).cell? ⟨A, 4, none⟩ = some (.string ⟨#[]⟩) ∧ (W.alloc o).cell? ⟨A, 5, none⟩ = some (.int .i64 0) ∧ (W.alloc o).cell? ⟨A, 6, none⟩ = some (.int .i64 0) ∧ (W.alloc o).cell? ⟨w.heap.size, 0, none⟩ = some (.int .i64 x) ∧ (W.alloc o).cell? ⟨2, 0, none⟩ = some (sentG a7)) := Lib.hid (fun W o ⟨q0, q1, q2, q3, q4, q5, q6, q7, q8⟩ => ⟨cell_alloc_l o q0, cell_alloc_l o q1, cell_alloc_l o q2, cell_alloc_l o q3, cell_alloc_l o q4, cell_alloc_l o q5, cell_alloc_l o q6, cell_alloc_l o q7, cell_alloc_l o q8⟩)
    have HBW := Lib.hid hBw
    have HEC := Lib.hid hEc
    have hcum : CumG wc [] wc.drew := CumG.nil (Below.refl wc.heap.size wc).drew
    obtain ⟨⟨a0, a1, a2, a3, a4, a5, a6⟩, f0, f1, f2, f3, f4, f5, f6⟩ := KZ.out
    clear hC hBw hEc g7 hcx hzA hBc KC0 KB0 HE c0 hne hnx hng
    go_wp2_with fail
    go_region_held3 (fun w' => w'.cell? ⟨A, 0, none⟩ = some (.int .i64 n) ∧ w'.cell? ⟨A, 1, none⟩ = some (.bool (!p)) ∧ w'.cell? ⟨A, 2, none⟩ = some (.int .i64 0) ∧ w'.cell? ⟨A, 3, none⟩ = some (.string ⟨#[]⟩) ∧ w'.cell? ⟨A, 4, none⟩ = some (.string ⟨#[]⟩) ∧ w'.cell? ⟨A, 5, none⟩ = some (.int .i64 0) ∧ w'.cell? ⟨A, 6, none⟩ = some (.int .i64 0) ∧ w'.cell? ⟨w.heap.size, 0, none⟩ = some (.int .i64 x) ∧ w'.cell? ⟨2, 0, none⟩ = some (sentG a7))
      (first
        | with_reducible exact HS.out _ hcum.b
        | with_reducible exact HS.out _ (hcum.b.alloc hcum.b.size _)
        | with_reducible exact HA.out _ _ (HP.out _ (HS.out _ hcum.b)))
      (first
        | ((go_at_call 41; refine (Hsix.out _).mono ?_; rintro e v ⟨rfl, hb⟩; replace hcum := hcum.below hb; replace KZ := Lib.hid (KZ.out.below hb); clear hb a0 a1 a2 a3 a4 a5 a6 f0 f1 f2 f3 f4 f5 f6; obtain ⟨⟨a0, a1, a2, a3, a4, a5, a6⟩, f0, f1, f2, f3, f4, f5, f6⟩ := KZ.out))
        | ((go_at_call 35; refine (demand_any _ _ _).mono ?_; rintro e vd ⟨⟨P, E, rfl, hr⟩, hb⟩; replace hcum := hcum.snoc hr hb; replace KZ := Lib.hid (KZ.out.below hb); have hzl := KZ.out.lt; have hzl2 := Nat.lt_succ_of_lt hzl; clear hr hb a0 a1 a2 a3 a4 a5 a6 f0 f1 f2 f3 f4 f5 f6; obtain ⟨⟨a0, a1, a2, a3, a4, a5, a6⟩, f0, f1, f2, f3, f4, f5, f6⟩ := KZ.out))
        | ((go_at_call 34; refine (check_any _ _ _ _ (by simp) (hcum.rules _)).mono ?_; rintro e w' ⟨rfl, rfl⟩)))
    go_wp2
    exact bodyPost_ret (c7_res _ 2 3 rfl _ (firstG [(r, a7)]) rfl rfl ((KZ.out.put (m := n) (d := !p)).alloc _)) rfl ⟨rfl, (below_put7 (HBW.out.trans (hcum.b.mono HBW.out.size)) hl0).alloc (Nat.le_trans (HBW.out.trans (hcum.b.mono HBW.out.size)).size (by simp)) _⟩

set_option maxRecDepth 100000 in
set_option maxHeartbeats 2000000 in
theorem Class_any (b : Nat → Addr) (X : BitVec 64) (w : World) (hE : EnvG b w) :
    Calls Tryd.prog 14 #[.int .i64 (tI X)] w fun e w' => e = .returned (.tuple #[.int .i64 (bif rightSixB X then prioI X else 0), .bool (bif rightSixB X then !(X &&& 8#64 == 0#64) else false), .int .i64 (bif rightSixB X then 0 else 2)]) ∧ Below w.heap.size w w' := by
  have HC := Lib.hid (class_any b X w hE)
  have HTO := Lib.hid (tellc_ok (prioI X) (!(X &&& 8#64 == 0#64)))
  have HTB := Lib.hid (tellc_bad b (prioI X) (!(X &&& 8#64 == 0#64)))
  generalize prioI X = n at *
  generalize (X &&& 8#64 == 0#64) = p at *
  generalize rightSixB X = r at *
  generalize tI X = x at *
  cases r with
  | true =>
    rw [show firstG [(true, b 7)] = .nilIface from rfl] at HC
    simp only [cond_true]
    clear HTB
    go_enter Tryd.func14, Tryd.ntmps14
    go_wp2_with fail
    refine HC.out.mono ?_
    rintro e w1 ⟨rfl, hb1⟩
    go_wp2_with fail
    refine (HTO.out _).mono ?_
    rintro e w2 ⟨rfl, hb2⟩
    have hb := hb1.trans (hb2.mono hb1.size)
    go_wp2_with fail
    go_quiet (fail)
    go_wp2
    refine bodyPost_ret (results_tmp3 rfl _ _ _) rfl ⟨rfl, below_drewN (hb.alloc hb.size _) _⟩
  | false =>
    rw [show firstG [(false, b 7)] = sentG (b 7) from rfl] at HC
    simp only [cond_false]
    clear HTO
    go_enter Tryd.func14, Tryd.ntmps14
    go_wp2_with fail
    refine HC.out.mono ?_
    rintro e w1 ⟨rfl, hb1⟩
    go_wp2_with fail
    refine (HTB.out _ (hE.below hb1)).mono ?_
    rintro e w2 ⟨rfl, hb2⟩
    have hb := hb1.trans (hb2.mono hb1.size)
    go_wp2_with fail
    go_quiet (fail)
    go_wp2
    refine bodyPost_ret (results_tmp3 rfl _ _ _) rfl ⟨rfl, below_drewN (hb.alloc hb.size _) _⟩
end Go.Proofs.YtlddkoblicnepaaDoor
