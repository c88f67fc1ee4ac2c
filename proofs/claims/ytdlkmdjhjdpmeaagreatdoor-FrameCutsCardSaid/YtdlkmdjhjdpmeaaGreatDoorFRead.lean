/- read and Decode of package frame. -/
import Derived.Test.YtdlkmdjhjdpmeaaGreatDoorFScan
set_option linter.unusedVariables false
set_option linter.unusedSimpArgs false
namespace Go.Proofs.YtdlkmdjhjdpmeaaGreatDoor
open Go.RowKit

/-- What Decode answers: the record, the place behind its frame, whether one stands there. -/
def decR (s : ByteArray) (a : Int) : Rc × Int × Bool := match decO s a with
  | some r => (r, a + 14 + (r.data.size : Int), true)
  | none => (zeroRc, 0, false)
theorem decR_some {s : ByteArray} {a : Int} {r : Rc} (h : decO s a = some r) : decR s a = (r, a + 14 + (r.data.size : Int), true) := by unfold decR; rw [h]
theorem decR_none {s : ByteArray} {a : Int} (h : decO s a = none) : decR s a = (zeroRc, 0, false) := by unfold decR; rw [h]

theorem spot_res {B : Nat} {x y z p v : Value} {W : World} {tmps : Array Value} (c : W.cell? ⟨B, 0, none⟩ = some x ∧ W.cell? ⟨B, 1, none⟩ = some y ∧ W.cell? ⟨B, 2, none⟩ = some z ∧ W.cell? ⟨B, 3, none⟩ = some p ∧ W.cell? ⟨B, 4, none⟩ = some v) (h2 : tmps[4]?.getD undef = .pointer (some ⟨B, 0, none⟩) := by rfl) : (results Tryz.f29 tmps).run Tryz.prog W = .ok (.agg #[x, y, z, p, v]) W := by
  obtain ⟨c0, c1, c2, c3, c4⟩ := c
  simp [results, Tryz.results29, go_sem, h2, c0, c1, c2, c3, c4]

set_option maxRecDepth 100000 in
set_option maxHeartbeats 2000000 in
theorem read_any (s : ByteArray) (a : Int) (w : World) (hE : FrOK w) (hs : s.size ≤ 1000000) :
    Calls Tryz.prog 29 #[.string s, .int .i64 a] w fun e w' => ((∃ r, decO s a = some r ∧ e = .returned (.agg #[.int .i64 r.op, .int .i64 r.id, .string r.data, .int .i64 (a + 14 + (r.data.size : Int)), .int .i64 0])) ∨ (decO s a = none ∧ e = .returned (.agg #[.int .i64 0, .int .i64 0, .string ⟨#[]⟩, .int .i64 0, .int .i64 170]))) ∧ Below w.heap.size w w' := by
  go_enter Tryz.func29, Tryz.ntmps29
  go_wp2_with fail
  have hb0 : Below w.heap.size w ((w.alloc (.cells #[.int .i64 0, .int .i64 0, .string ⟨#[]⟩, .int .i64 0, .int .i64 0] 54)).alloc (.cells #[.string s, .int .i64 a, .slice none 0 0] 66)) := ((Below.refl _ w).alloc (Nat.le_refl _) _).alloc (by simp) _
  have hx0 : Blk ((w.alloc (.cells #[.int .i64 0, .int .i64 0, .string ⟨#[]⟩, .int .i64 0, .int .i64 0] 54)).alloc (.cells #[.string s, .int .i64 a, .slice none 0 0] 66)) (w.heap.size + 1) 66 #[.string s, .int .i64 a, .slice none 0 0] := by
    have := Blk.new (w.alloc (.cells #[.int .i64 0, .int .i64 0, .string ⟨#[]⟩, .int .i64 0, .int .i64 0] 54)) 66 #[.string s, .int .i64 a, .slice none 0 0]
    rwa [World.size_alloc] at this
  have hr0 : Blk ((w.alloc (.cells #[.int .i64 0, .int .i64 0, .string ⟨#[]⟩, .int .i64 0, .int .i64 0] 54)).alloc (.cells #[.string s, .int .i64 a, .slice none 0 0] 66)) w.heap.size 54 #[.int .i64 0, .int .i64 0, .string ⟨#[]⟩, .int .i64 0, .int .i64 0] := (Blk.new w _ _).alloc _
  generalize (w.alloc (.cells #[.int .i64 0, .int .i64 0, .string ⟨#[]⟩, .int .i64 0, .int .i64 0] 54)).alloc (.cells #[.string s, .int .i64 a, .slice none 0 0] 66) = w0 at *
  refine (next_any (w.heap.size + 1) w.heap.size s a (.slice none 0 0) w0 ⟨w, rfl, hE, hb0⟩ (by omega) hx0 (.inl rfl) hs).mono ?_
  rintro e w1 ⟨tv', ho1, ht1, ⟨r, hd, rfl, hx1⟩ | ⟨hd, rfl, hx1⟩⟩
  · obtain ⟨op, id, data⟩ := r
    have hr1 := hr0.only ho1 (by omega) (by omega)
    have HD := Lib.hid hd
    have heq := rec_ne op id data (right_op (decO_some.1 hd).2.1)
    obtain ⟨q, hq⟩ : ∃ q, a + 14 + (data.size : Int) = q := ⟨_, rfl⟩
    have hx1 : Blk w1 (w.heap.size + 1) 66 #[.string s, .int .i64 q, tv'] := hq ▸ hx1
    have HQ := Lib.hid hq
    clear hq
    have HB1 := Lib.hid (ho1.toBelow hb0 (by omega) (by omega) (Nat.le_of_lt hr0.lt))
    have c1 : w1.cell? ⟨w.heap.size + 1, 1, none⟩ = some (.int .i64 (q)) := hx1.cell 1
    have hz1 : w.heap.size + 1 < w1.heap.size := hx1.lt
    simp only [rcV]
    clear hd hb0 hx0 hr0 ho1 hx1
    go_wp2
    have g0 : (w1.alloc (.cells #[.int .i64 op, .int .i64 id, .string data] 23)).cell? ⟨w1.heap.size, 0, none⟩ = some (.int .i64 op) := by go_simp
    have g1 : (w1.alloc (.cells #[.int .i64 op, .int .i64 id, .string data] 23)).cell? ⟨w1.heap.size, 1, none⟩ = some (.int .i64 id) := by go_simp
    have g2 : (w1.alloc (.cells #[.int .i64 op, .int .i64 id, .string data] 23)).cell? ⟨w1.heap.size, 2, none⟩ = some (.string data) := by go_simp
    have hb1 : Below w1.heap.size w1 (w1.alloc (.cells #[.int .i64 op, .int .i64 id, .string data] 23)) := (Below.refl _ _).alloc (Nat.le_refl _) _
    have hz0 : w1.heap.size < (w1.alloc (.cells #[.int .i64 op, .int .i64 id, .string data] 23)).heap.size := by simp
    generalize w1.alloc (.cells #[.int .i64 op, .int .i64 id, .string data] 23) = w2 at g0 g1 g2 hb1 hz0 ⊢
    have hcum : Below w2.heap.size w2 w2.drew := (Below.refl w2.heap.size w2).drew
    go_region_held3 (fun w' => w'.cell? ⟨w1.heap.size, 0, none⟩ = some (.int .i64 op) ∧ w'.cell? ⟨w1.heap.size, 1, none⟩ = some (.int .i64 id) ∧ w'.cell? ⟨w1.heap.size, 2, none⟩ = some (.string data))
      (first
        | exact ⟨(hcum.cell (p := ⟨w1.heap.size, 0, none⟩) hz0).trans g0, (hcum.cell (p := ⟨w1.heap.size, 1, none⟩) hz0).trans g1, (hcum.cell (p := ⟨w1.heap.size, 2, none⟩) hz0).trans g2⟩
        | go_keep)
      (first
        | ((go_at_call 35; refine (fnone_any _).mono ?_; rintro e v3 ⟨rfl, hb3⟩; replace hcum := hb3 ▸ hcum.alloc hcum.size (.cells #[.int .i64 0, .int .i64 0, .string ⟨#[]⟩] 23); clear hb3)))
    have hb3 : Below w1.heap.size w1 v3 := hb1.trans (hcum.mono hb1.size)
    have HB3 := Lib.hid (HB1.out.trans (hb3.mono HB1.out.size))
    have hr3 := hr1.here hb3
    have c3 : v3.cell? ⟨w.heap.size + 1, 1, none⟩ = some (.int .i64 (q)) := (hb3.cell (p := ⟨w.heap.size + 1, 1, none⟩) hz1).trans c1
    have s0 : v3.cell? ⟨w1.heap.size, 0, none⟩ = some (.int .i64 op) := (hcum.cell (p := ⟨w1.heap.size, 0, none⟩) hz0).trans g0
    have s1 : v3.cell? ⟨w1.heap.size, 1, none⟩ = some (.int .i64 id) := (hcum.cell (p := ⟨w1.heap.size, 1, none⟩) hz0).trans g1
    have s2 : v3.cell? ⟨w1.heap.size, 2, none⟩ = some (.string data) := (hcum.cell (p := ⟨w1.heap.size, 2, none⟩) hz0).trans g2
    have hz3 : w.heap.size < v3.heap.size := hr3.lt
    clear hcum hb1 hb3 g0 g1 g2 hr1 c1 hz0
    go_wp2_with fail
    refine (fgoodp_any op id data q _).mono ?_
    rintro e w4 ⟨rfl, hb4⟩
    have hr4 := hr3.here hb4
    have HB4 := Lib.hid (HB3.out.trans (hb4.mono HB3.out.size))
    clear hr3 hb4 c3 s0 s1 s2 hz3
    have k0 : w4.cell? ⟨w.heap.size, 0, none⟩ = some (.int .i64 0) := hr4.cell 0
    have k1 : w4.cell? ⟨w.heap.size, 1, none⟩ = some (.int .i64 0) := hr4.cell 1
    have k2 : w4.cell? ⟨w.heap.size, 2, none⟩ = some (.string ⟨#[]⟩) := hr4.cell 2
    have k3 : w4.cell? ⟨w.heap.size, 3, none⟩ = some (.int .i64 0) := hr4.cell 3
    have k4 : w4.cell? ⟨w.heap.size, 4, none⟩ = some (.int .i64 0) := hr4.cell 4
    have f0 := hr4.frozen 0
    have f1 := hr4.frozen 1
    have f2 := hr4.frozen 2
    have f3 := hr4.frozen 3
    have f4 := hr4.frozen 4
    clear hr4
    go_wp2
    refine bodyPost_ret (v := .agg #[.int .i64 op, .int .i64 id, .string data, .int .i64 q, .int .i64 0]) (spot_res (set5_cells k0 k1 k2 k3 k4)) rfl ⟨.inl ⟨⟨op, id, data⟩, HD.out, by rw [← HQ.out]⟩, ?_⟩
    exact ((((HB4.out.setCell (Nat.le_refl _) _).setCell (Nat.le_refl _) _).setCell (Nat.le_refl _) _).setCell (Nat.le_refl _) _).setCell (Nat.le_refl _) _
  · have hr1 := hr0.only ho1 (by omega) (by omega)
    have HD := Lib.hid hd
    have heq := rec_zero
    have HB1 := Lib.hid (ho1.toBelow hb0 (by omega) (by omega) (Nat.le_of_lt hr0.lt))
    have c1 : w1.cell? ⟨w.heap.size + 1, 1, none⟩ = some (.int .i64 (a)) := hx1.cell 1
    have hz1 : w.heap.size + 1 < w1.heap.size := hx1.lt
    simp only [rcV, zeroRc]
    clear hd hb0 hx0 hr0 ho1 hx1
    go_wp2
    have g0 : (w1.alloc (.cells #[.int .i64 0, .int .i64 0, .string ⟨#[]⟩] 23)).cell? ⟨w1.heap.size, 0, none⟩ = some (.int .i64 0) := by go_simp
    have g1 : (w1.alloc (.cells #[.int .i64 0, .int .i64 0, .string ⟨#[]⟩] 23)).cell? ⟨w1.heap.size, 1, none⟩ = some (.int .i64 0) := by go_simp
    have g2 : (w1.alloc (.cells #[.int .i64 0, .int .i64 0, .string ⟨#[]⟩] 23)).cell? ⟨w1.heap.size, 2, none⟩ = some (.string ⟨#[]⟩) := by go_simp
    have hb1 : Below w1.heap.size w1 (w1.alloc (.cells #[.int .i64 0, .int .i64 0, .string ⟨#[]⟩] 23)) := (Below.refl _ _).alloc (Nat.le_refl _) _
    have hz0 : w1.heap.size < (w1.alloc (.cells #[.int .i64 0, .int .i64 0, .string ⟨#[]⟩] 23)).heap.size := by simp
    generalize w1.alloc (.cells #[.int .i64 0, .int .i64 0, .string ⟨#[]⟩] 23) = w2 at g0 g1 g2 hb1 hz0 ⊢
    have hcum : Below w2.heap.size w2 w2.drew := (Below.refl w2.heap.size w2).drew
    go_region_held3 (fun w' => w'.cell? ⟨w1.heap.size, 0, none⟩ = some (.int .i64 0) ∧ w'.cell? ⟨w1.heap.size, 1, none⟩ = some (.int .i64 0) ∧ w'.cell? ⟨w1.heap.size, 2, none⟩ = some (.string ⟨#[]⟩))
      (first
        | exact ⟨(hcum.cell (p := ⟨w1.heap.size, 0, none⟩) hz0).trans g0, (hcum.cell (p := ⟨w1.heap.size, 1, none⟩) hz0).trans g1, (hcum.cell (p := ⟨w1.heap.size, 2, none⟩) hz0).trans g2⟩
        | go_keep)
      (first
        | ((go_at_call 35; refine (fnone_any _).mono ?_; rintro e v3 ⟨rfl, hb3⟩; replace hcum := hb3 ▸ hcum.alloc hcum.size (.cells #[.int .i64 0, .int .i64 0, .string ⟨#[]⟩] 23); clear hb3)))
    have hb3 : Below w1.heap.size w1 v3 := hb1.trans (hcum.mono hb1.size)
    have HB3 := Lib.hid (HB1.out.trans (hb3.mono HB1.out.size))
    have hr3 := hr1.here hb3
    have c3 : v3.cell? ⟨w.heap.size + 1, 1, none⟩ = some (.int .i64 (a)) := (hb3.cell (p := ⟨w.heap.size + 1, 1, none⟩) hz1).trans c1
    have s0 : v3.cell? ⟨w1.heap.size, 0, none⟩ = some (.int .i64 0) := (hcum.cell (p := ⟨w1.heap.size, 0, none⟩) hz0).trans g0
    have s1 : v3.cell? ⟨w1.heap.size, 1, none⟩ = some (.int .i64 0) := (hcum.cell (p := ⟨w1.heap.size, 1, none⟩) hz0).trans g1
    have s2 : v3.cell? ⟨w1.heap.size, 2, none⟩ = some (.string ⟨#[]⟩) := (hcum.cell (p := ⟨w1.heap.size, 2, none⟩) hz0).trans g2
    have hz3 : w.heap.size < v3.heap.size := hr3.lt
    clear hcum hb1 hb3 g0 g1 g2 hr1 c1 hz0
    go_wp2_with fail
    refine (fbadp_any _).mono ?_
    rintro e w4 ⟨rfl, hb4⟩
    have hr4 := hr3.here hb4
    have HB4 := Lib.hid (HB3.out.trans (hb4.mono HB3.out.size))
    clear hr3 hb4 c3 s0 s1 s2 hz3
    have k0 : w4.cell? ⟨w.heap.size, 0, none⟩ = some (.int .i64 0) := hr4.cell 0
    have k1 : w4.cell? ⟨w.heap.size, 1, none⟩ = some (.int .i64 0) := hr4.cell 1
    have k2 : w4.cell? ⟨w.heap.size, 2, none⟩ = some (.string ⟨#[]⟩) := hr4.cell 2
    have k3 : w4.cell? ⟨w.heap.size, 3, none⟩ = some (.int .i64 0) := hr4.cell 3
    have k4 : w4.cell? ⟨w.heap.size, 4, none⟩ = some (.int .i64 0) := hr4.cell 4
    have f0 := hr4.frozen 0
    have f1 := hr4.frozen 1
    have f2 := hr4.frozen 2
    have f3 := hr4.frozen 3
    have f4 := hr4.frozen 4
    clear hr4
    go_wp2
    refine bodyPost_ret (v := .agg #[.int .i64 0, .int .i64 0, .string ⟨#[]⟩, .int .i64 0, .int .i64 170]) (spot_res (set5_cells k0 k1 k2 k3 k4)) rfl ⟨.inr ⟨HD.out, rfl⟩, ?_⟩
    exact ((((HB4.out.setCell (Nat.le_refl _) _).setCell (Nat.le_refl _) _).setCell (Nat.le_refl _) _).setCell (Nat.le_refl _) _).setCell (Nat.le_refl _) _

theorem dec_res {B : Nat} {x y z p q : Value} {W : World} {tmps : Array Value} (c : W.cell? ⟨B, 0, none⟩ = some x ∧ W.cell? ⟨B, 1, none⟩ = some y ∧ W.cell? ⟨B, 2, none⟩ = some z) (h2 : tmps[4]?.getD undef = .pointer (some ⟨B, 0, none⟩) := by rfl) (h3 : tmps[5]?.getD undef = p := by rfl) (h4 : tmps[6]?.getD undef = q := by rfl) : (results Tryz.f15 tmps).run Tryz.prog W = .ok (.tuple #[.agg #[x, y, z], p, q]) W := by
  obtain ⟨c0, c1, c2⟩ := c
  simp [results, Tryz.results15, go_sem, h2, h3, h4, c0, c1, c2]

set_option maxRecDepth 100000 in
set_option maxHeartbeats 2000000 in
theorem decode_any (s : ByteArray) (a : Int) (w : World) (hE : FrOK w) (hs : s.size ≤ 1000000) :
    Calls Tryz.prog 15 #[.string s, .int .i64 a] w fun e w' => e = .returned (.tuple #[.agg #[.int .i64 (decR s a).1.op, .int .i64 (decR s a).1.id, .string (decR s a).1.data], .int .i64 (decR s a).2.1, .bool (decR s a).2.2]) ∧ Below w.heap.size w w' := by
  go_enter Tryz.func15, Tryz.ntmps15
  go_wp2_with fail
  have hb0 : Below w.heap.size w (w.alloc (.cells #[.int .i64 0, .int .i64 0, .string ⟨#[]⟩] 23)) := (Below.refl _ w).alloc (Nat.le_refl _) _
  have hr0 : Blk (w.alloc (.cells #[.int .i64 0, .int .i64 0, .string ⟨#[]⟩] 23)) w.heap.size 23 #[.int .i64 0, .int .i64 0, .string ⟨#[]⟩] := Blk.new w _ _
  generalize w.alloc (.cells #[.int .i64 0, .int .i64 0, .string ⟨#[]⟩] 23) = w0 at *
  refine (read_any s a w0 (hE.below hb0) hs).mono ?_
  rintro e w1 ⟨⟨r, hd, rfl⟩ | ⟨hd, rfl⟩, hb1⟩
  · obtain ⟨op, id, data⟩ := r
    obtain ⟨q, hq⟩ : ∃ q, a + 14 + (data.size : Int) = q := ⟨_, rfl⟩
    have HR := Lib.hid (show decR s a = (⟨op, id, data⟩, q, true) by rw [decR_some hd, ← hq])
    simp only [hq]
    clear hq hd
    go_wp2_with fail
    refine (ftellp_ok op id data q _).mono ?_
    rintro e w2 ⟨rfl, hb2⟩
    have hr2 := (hr0.here hb1).here hb2
    have HB2 := Lib.hid ((hb0.trans (hb1.mono hb0.size)).trans (hb2.mono (by have := hb0.size; have := hb1.size; omega)))
    have hz2 := hr2.lt
    have k0 : w2.cell? ⟨w.heap.size, 0, none⟩ = some (.int .i64 0) := hr2.cell 0
    have k1 : w2.cell? ⟨w.heap.size, 1, none⟩ = some (.int .i64 0) := hr2.cell 1
    have k2 : w2.cell? ⟨w.heap.size, 2, none⟩ = some (.string ⟨#[]⟩) := hr2.cell 2
    have f0 := hr2.frozen 0
    have f1 := hr2.frozen 1
    have f2 := hr2.frozen 2
    clear hb0 hr0 hb1 hb2 hr2
    go_wp2
    go_region
    all_goals
      go_wp2
      refine bodyPost_ret (v := .tuple #[.agg #[.int .i64 op, .int .i64 id, .string data], .int .i64 q, .bool true]) (dec_res (B := w.heap.size) (cells_alloc _ (set3_cells k0 k1 k2))) rfl ⟨by simp only [HR.out, zeroRc], ?_⟩
      exact (((((HB2.out.setCell (Nat.le_refl _) _).setCell (Nat.le_refl _) _).setCell (Nat.le_refl _) _).alloc (by simp <;> omega) _)).drew
  · have HR := Lib.hid (decR_none hd)
    clear hd
    go_wp2_with fail
    refine (ftellp_bad _).mono ?_
    rintro e w2 ⟨rfl, hb2⟩
    have hr2 := (hr0.here hb1).here hb2
    have HB2 := Lib.hid ((hb0.trans (hb1.mono hb0.size)).trans (hb2.mono (by have := hb0.size; have := hb1.size; omega)))
    have hz2 := hr2.lt
    have k0 : w2.cell? ⟨w.heap.size, 0, none⟩ = some (.int .i64 0) := hr2.cell 0
    have k1 : w2.cell? ⟨w.heap.size, 1, none⟩ = some (.int .i64 0) := hr2.cell 1
    have k2 : w2.cell? ⟨w.heap.size, 2, none⟩ = some (.string ⟨#[]⟩) := hr2.cell 2
    have f0 := hr2.frozen 0
    have f1 := hr2.frozen 1
    have f2 := hr2.frozen 2
    clear hb0 hr0 hb1 hb2 hr2
    go_wp2
    go_region
    all_goals
      go_wp2
      refine bodyPost_ret (v := .tuple #[.agg #[.int .i64 0, .int .i64 0, .string ⟨#[]⟩], .int .i64 0, .bool false]) (dec_res (B := w.heap.size) (cells_alloc _ (set3_cells k0 k1 k2))) rfl ⟨by simp only [HR.out, zeroRc], ?_⟩
      exact (((((HB2.out.setCell (Nat.le_refl _) _).setCell (Nat.le_refl _) _).setCell (Nat.le_refl _) _).alloc (by simp <;> omega) _)).drew
end Go.Proofs.YtdlkmdjhjdpmeaaGreatDoor
