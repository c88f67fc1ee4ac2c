/- The document's Decode of layer 17. -/
import Derived.Test.YtdlkmdjhjdpmeaaGreatDoorFRefE
set_option linter.unusedVariables false
set_option linter.unusedSimpArgs false
namespace Go.Proofs.YtdlkmdjhjdpmeaaGreatDoor
open Go.RowKit

theorem rdec_res {B : Nat} {x y z p q : Value} {W : World} {tmps : Array Value} (c : W.cell? ⟨B, 0, none⟩ = some x ∧ W.cell? ⟨B, 1, none⟩ = some y ∧ W.cell? ⟨B, 2, none⟩ = some z) (h2 : tmps[4]?.getD undef = .pointer (some ⟨B, 0, none⟩) := by rfl) (h3 : tmps[5]?.getD undef = p := by rfl) (h4 : tmps[6]?.getD undef = q := by rfl) : (results Tryz.f16 tmps).run Tryz.prog W = .ok (.tuple #[.agg #[x, y, z], p, q]) W := by
  obtain ⟨c0, c1, c2⟩ := c
  simp [results, Tryz.results16, go_sem, h2, h3, h4, c0, c1, c2]

/-- What Decode says where no frame stands. -/
def NoD (w : World) (e : Ending) (w' : World) : Prop := e = .returned (.tuple #[.agg #[.int .i64 0, .int .i64 0, .string ⟨#[]⟩], .int .i64 0, .bool false]) ∧ Below w.heap.size w w'

/-- The first number fails. -/
theorem rdecode_1 (s : ByteArray) (a x e1 : Int) (w : World) (hs : s.size ≤ 1000000) (ha : a ≤ 9223372036854775807) (h1 : takeR s a 2 = (x, e1)) (b1 : (e1 != 0) = true) :
    Calls Tryz.prog 16 #[.string s, .int .i64 a] w (NoD w) := by
  have H1 := Lib.hid h1
  clear h1
  go_enter Tryz.func16, Tryz.ntmps16
  go_wp2_with fail
  refine (refTake_any s a 2 _ (by omega) ha).mono ?_
  rintro e w' ⟨rfl, rfl⟩
  rw [H1.out]
  go_wp2
  refine bodyPost_ret (v := .tuple #[.agg #[.int .i64 0, .int .i64 0, .string ⟨#[]⟩], .int .i64 0, .bool false]) (rdec_res (B := w.heap.size) ⟨by go_simp, by go_simp, by go_simp⟩) rfl ⟨rfl, ?_⟩
  exact (Below.refl _ w).alloc (Nat.le_refl _) _

set_option maxRecDepth 100000 in
set_option maxHeartbeats 2000000 in
theorem rdecode_B1 (s d t u : ByteArray) (a x i m z e1 e2 e3 e4 e5 e6 : Int) (w : World) (hs : s.size ≤ 1000000) (ha0 : 0 ≤ a) (ha : a ≤ 1000000) (h1 : takeR s a 2 = (x, e1)) (b1 : (e1 != 0) = false)
    (h2 : takeR s (a + 2) 6 = (i, e2)) (h3 : takeR s (a + 8) 2 = (m, e3)) (b2 : (e2 != 0) = true) :
    Calls Tryz.prog 16 #[.string s, .int .i64 a] w (NoD w) := by
  have H1 := Lib.hid h1
  have H2 := Lib.hid h2
  have H3 := Lib.hid h3
  clear h1 h2 h3
  go_enter Tryz.func16, Tryz.ntmps16
  go_wp2_with fail
  refine (refTake_any s a 2 _ (by omega) (by omega)).mono ?_
  rintro e w' ⟨rfl, rfl⟩
  rw [H1.out]
  go_wp2_with fail
  refine (refTake_any s (a + 2) 6 _ (by omega) (by omega)).mono ?_
  rintro e w' ⟨rfl, rfl⟩
  rw [H2.out]
  go_wp2_with fail
  refine (refTake_any s (a + 8) 2 _ (by omega) (by omega)).mono ?_
  rintro e w' ⟨rfl, rfl⟩
  rw [H3.out]
  go_wp2
  refine bodyPost_ret (v := .tuple #[.agg #[.int .i64 0, .int .i64 0, .string ⟨#[]⟩], .int .i64 0, .bool false]) (rdec_res (B := w.heap.size) ⟨by go_simp, by go_simp, by go_simp⟩) rfl ⟨rfl, ?_⟩
  exact (Below.refl _ w).alloc (Nat.le_refl _) _

set_option maxRecDepth 100000 in
set_option maxHeartbeats 2000000 in
theorem rdecode_B2 (s d t u : ByteArray) (a x i m z e1 e2 e3 e4 e5 e6 : Int) (w : World) (hs : s.size ≤ 1000000) (ha0 : 0 ≤ a) (ha : a ≤ 1000000) (h1 : takeR s a 2 = (x, e1)) (b1 : (e1 != 0) = false)
    (h2 : takeR s (a + 2) 6 = (i, e2)) (h3 : takeR s (a + 8) 2 = (m, e3)) (b2 : (e2 != 0) = false) (b3 : (e3 != 0) = true) :
    Calls Tryz.prog 16 #[.string s, .int .i64 a] w (NoD w) := by
  have H1 := Lib.hid h1
  have H2 := Lib.hid h2
  have H3 := Lib.hid h3
  clear h1 h2 h3
  go_enter Tryz.func16, Tryz.ntmps16
  go_wp2_with fail
  refine (refTake_any s a 2 _ (by omega) (by omega)).mono ?_
  rintro e w' ⟨rfl, rfl⟩
  rw [H1.out]
  go_wp2_with fail
  refine (refTake_any s (a + 2) 6 _ (by omega) (by omega)).mono ?_
  rintro e w' ⟨rfl, rfl⟩
  rw [H2.out]
  go_wp2_with fail
  refine (refTake_any s (a + 8) 2 _ (by omega) (by omega)).mono ?_
  rintro e w' ⟨rfl, rfl⟩
  rw [H3.out]
  go_wp2
  refine bodyPost_ret (v := .tuple #[.agg #[.int .i64 0, .int .i64 0, .string ⟨#[]⟩], .int .i64 0, .bool false]) (rdec_res (B := w.heap.size) ⟨by go_simp, by go_simp, by go_simp⟩) rfl ⟨rfl, ?_⟩
  exact (Below.refl _ w).alloc (Nat.le_refl _) _

set_option maxRecDepth 100000 in
set_option maxHeartbeats 2000000 in
theorem rdecode_C (s d t u : ByteArray) (a x i m z e1 e2 e3 e4 e5 e6 : Int) (w : World) (hs : s.size ≤ 1000000) (ha0 : 0 ≤ a) (ha : a ≤ 1000000) (h1 : takeR s a 2 = (x, e1)) (b1 : (e1 != 0) = false)
    (h2 : takeR s (a + 2) 6 = (i, e2)) (h3 : takeR s (a + 8) 2 = (m, e3)) (b2 : (e2 != 0) = false) (b3 : (e3 != 0) = false) (h4 : cutR s (a + 10) m = (d, e4)) (b4 : (e4 != 0) = true) :
    Calls Tryz.prog 16 #[.string s, .int .i64 a] w (NoD w) := by
  have H1 := Lib.hid h1
  have H2 := Lib.hid h2
  have H3 := Lib.hid h3
  have H4 := Lib.hid h4
  clear h1 h2 h3 h4
  go_enter Tryz.func16, Tryz.ntmps16
  go_wp2_with fail
  refine (refTake_any s a 2 _ (by omega) (by omega)).mono ?_
  rintro e w' ⟨rfl, rfl⟩
  rw [H1.out]
  go_wp2_with fail
  refine (refTake_any s (a + 2) 6 _ (by omega) (by omega)).mono ?_
  rintro e w' ⟨rfl, rfl⟩
  rw [H2.out]
  go_wp2_with fail
  refine (refTake_any s (a + 8) 2 _ (by omega) (by omega)).mono ?_
  rintro e w' ⟨rfl, rfl⟩
  rw [H3.out]
  go_wp2_with fail
  refine (refCut_any s (a + 10) m _ (by omega) (by omega)).mono ?_
  rintro e w' ⟨rfl, rfl⟩
  rw [H4.out]
  go_wp2
  refine bodyPost_ret (v := .tuple #[.agg #[.int .i64 0, .int .i64 0, .string ⟨#[]⟩], .int .i64 0, .bool false]) (rdec_res (B := w.heap.size) ⟨by go_simp, by go_simp, by go_simp⟩) rfl ⟨rfl, ?_⟩
  exact (Below.refl _ w).alloc (Nat.le_refl _) _

set_option maxRecDepth 100000 in
set_option maxHeartbeats 2000000 in
theorem rdecode_D1 (s d t u : ByteArray) (a x i m z e1 e2 e3 e4 e5 e6 : Int) (w : World) (hs : s.size ≤ 1000000) (ha0 : 0 ≤ a) (ha : a ≤ 1000000) (h1 : takeR s a 2 = (x, e1)) (b1 : (e1 != 0) = false)
    (h2 : takeR s (a + 2) 6 = (i, e2)) (h3 : takeR s (a + 8) 2 = (m, e3)) (b2 : (e2 != 0) = false) (b3 : (e3 != 0) = false) (h4 : cutR s (a + 10) m = (d, e4)) (b4 : (e4 != 0) = false) (hx : 0 ≤ x) (hz : x % 256 = z) (h5 : fencR ⟨z, i, d⟩ = (t, e5)) (h6 : cutR s a t.size = (u, e6)) (hts : t.size ≤ 3000) (hds : d.size ≤ 1000000) (b5 : (e5 != 0) = true) :
    Calls Tryz.prog 16 #[.string s, .int .i64 a] w (NoD w) := by
  have H1 := Lib.hid h1
  have H2 := Lib.hid h2
  have H3 := Lib.hid h3
  have H4 := Lib.hid h4
  have H5 := Lib.hid h5
  have H6 := Lib.hid h6
  clear h1 h2 h3 h4 h5 h6
  go_enter Tryz.func16, Tryz.ntmps16
  go_wp2_with fail
  refine (refTake_any s a 2 _ (by omega) (by omega)).mono ?_
  rintro e w' ⟨rfl, rfl⟩
  rw [H1.out]
  go_wp2_with fail
  refine (refTake_any s (a + 2) 6 _ (by omega) (by omega)).mono ?_
  rintro e w' ⟨rfl, rfl⟩
  rw [H2.out]
  go_wp2_with fail
  refine (refTake_any s (a + 8) 2 _ (by omega) (by omega)).mono ?_
  rintro e w' ⟨rfl, rfl⟩
  rw [H3.out]
  go_wp2_with fail
  refine (refCut_any s (a + 10) m _ (by omega) (by omega)).mono ?_
  rintro e w' ⟨rfl, rfl⟩
  rw [H4.out]
  go_wp2_with fail
  rw [hz]
  have hb0 : Below w.heap.size w ((w.alloc (.cells #[.int .i64 0, .int .i64 0, .string ⟨#[]⟩] 23)).alloc (.cells #[.int .i64 z, .int .i64 i, .string d] 23)) := ((Below.refl _ w).alloc (Nat.le_refl _) _).alloc (by simp) _
  have hr0 : Blk ((w.alloc (.cells #[.int .i64 0, .int .i64 0, .string ⟨#[]⟩] 23)).alloc (.cells #[.int .i64 z, .int .i64 i, .string d] 23)) w.heap.size 23 #[.int .i64 0, .int .i64 0, .string ⟨#[]⟩] := (Blk.new w _ _).alloc _
  have hq0 : Blk ((w.alloc (.cells #[.int .i64 0, .int .i64 0, .string ⟨#[]⟩] 23)).alloc (.cells #[.int .i64 z, .int .i64 i, .string d] 23)) (w.heap.size + 1) 23 #[.int .i64 z, .int .i64 i, .string d] := by
    have := Blk.new (w.alloc (.cells #[.int .i64 0, .int .i64 0, .string ⟨#[]⟩] 23)) 23 #[.int .i64 z, .int .i64 i, .string d]
    rwa [World.size_alloc] at this
  generalize (w.alloc (.cells #[.int .i64 0, .int .i64 0, .string ⟨#[]⟩] 23)).alloc (.cells #[.int .i64 z, .int .i64 i, .string d] 23) = w0 at *
  refine (rencode_any ⟨z, i, d⟩ _ (by simp only; omega)).mono ?_
  rintro e w1 ⟨rfl, hb1⟩
  rw [H5.out]
  have hr1 := hr0.here hb1
  have hq1 := hq0.here hb1
  have HB1 := Lib.hid (hb0.trans (hb1.mono hb0.size))
  have hz1 := hr1.lt
  have hz2 := hq1.lt
  clear hb0 hr0 hq0 hb1
  go_wp2_with fail
  refine (refCut_any s a t.size _ (by omega) (by omega)).mono ?_
  rintro e w' ⟨rfl, rfl⟩
  rw [H6.out]
  have k0 : w1.cell? ⟨w.heap.size, 0, none⟩ = some (.int .i64 0) := hr1.cell 0
  have k1 : w1.cell? ⟨w.heap.size, 1, none⟩ = some (.int .i64 0) := hr1.cell 1
  have k2 : w1.cell? ⟨w.heap.size, 2, none⟩ = some (.string ⟨#[]⟩) := hr1.cell 2
  have s0 : w1.cell? ⟨w.heap.size + 1, 0, none⟩ = some (.int .i64 z) := hq1.cell 0
  have s1 : w1.cell? ⟨w.heap.size + 1, 1, none⟩ = some (.int .i64 i) := hq1.cell 1
  have s2 : w1.cell? ⟨w.heap.size + 1, 2, none⟩ = some (.string d) := hq1.cell 2
  have f0 := hr1.frozen 0
  have f1 := hr1.frozen 1
  have f2 := hr1.frozen 2
  clear hr1 hq1
  go_wp2
  refine bodyPost_ret (v := .tuple #[.agg #[.int .i64 0, .int .i64 0, .string ⟨#[]⟩], .int .i64 0, .bool false]) (rdec_res (B := w.heap.size) (set3_cells k0 k1 k2)) rfl ⟨rfl, ?_⟩
  exact ((HB1.out.setCell (Nat.le_refl _) _).setCell (Nat.le_refl _) _).setCell (Nat.le_refl _) _

set_option maxRecDepth 100000 in
set_option maxHeartbeats 2000000 in
theorem rdecode_D2 (s d t u : ByteArray) (a x i m z e1 e2 e3 e4 e5 e6 : Int) (w : World) (hs : s.size ≤ 1000000) (ha0 : 0 ≤ a) (ha : a ≤ 1000000) (h1 : takeR s a 2 = (x, e1)) (b1 : (e1 != 0) = false)
    (h2 : takeR s (a + 2) 6 = (i, e2)) (h3 : takeR s (a + 8) 2 = (m, e3)) (b2 : (e2 != 0) = false) (b3 : (e3 != 0) = false) (h4 : cutR s (a + 10) m = (d, e4)) (b4 : (e4 != 0) = false) (hx : 0 ≤ x) (hz : x % 256 = z) (h5 : fencR ⟨z, i, d⟩ = (t, e5)) (h6 : cutR s a t.size = (u, e6)) (hts : t.size ≤ 3000) (hds : d.size ≤ 1000000) (b5 : (e5 != 0) = false) (b6 : (e6 != 0) = true) :
    Calls Tryz.prog 16 #[.string s, .int .i64 a] w (NoD w) := by
  have H1 := Lib.hid h1
  have H2 := Lib.hid h2
  have H3 := Lib.hid h3
  have H4 := Lib.hid h4
  have H5 := Lib.hid h5
  have H6 := Lib.hid h6
  clear h1 h2 h3 h4 h5 h6
  go_enter Tryz.func16, Tryz.ntmps16
  go_wp2_with fail
  refine (refTake_any s a 2 _ (by omega) (by omega)).mono ?_
  rintro e w' ⟨rfl, rfl⟩
  rw [H1.out]
  go_wp2_with fail
  refine (refTake_any s (a + 2) 6 _ (by omega) (by omega)).mono ?_
  rintro e w' ⟨rfl, rfl⟩
  rw [H2.out]
  go_wp2_with fail
  refine (refTake_any s (a + 8) 2 _ (by omega) (by omega)).mono ?_
  rintro e w' ⟨rfl, rfl⟩
  rw [H3.out]
  go_wp2_with fail
  refine (refCut_any s (a + 10) m _ (by omega) (by omega)).mono ?_
  rintro e w' ⟨rfl, rfl⟩
  rw [H4.out]
  go_wp2_with fail
  rw [hz]
  have hb0 : Below w.heap.size w ((w.alloc (.cells #[.int .i64 0, .int .i64 0, .string ⟨#[]⟩] 23)).alloc (.cells #[.int .i64 z, .int .i64 i, .string d] 23)) := ((Below.refl _ w).alloc (Nat.le_refl _) _).alloc (by simp) _
  have hr0 : Blk ((w.alloc (.cells #[.int .i64 0, .int .i64 0, .string ⟨#[]⟩] 23)).alloc (.cells #[.int .i64 z, .int .i64 i, .string d] 23)) w.heap.size 23 #[.int .i64 0, .int .i64 0, .string ⟨#[]⟩] := (Blk.new w _ _).alloc _
  have hq0 : Blk ((w.alloc (.cells #[.int .i64 0, .int .i64 0, .string ⟨#[]⟩] 23)).alloc (.cells #[.int .i64 z, .int .i64 i, .string d] 23)) (w.heap.size + 1) 23 #[.int .i64 z, .int .i64 i, .string d] := by
    have := Blk.new (w.alloc (.cells #[.int .i64 0, .int .i64 0, .string ⟨#[]⟩] 23)) 23 #[.int .i64 z, .int .i64 i, .string d]
    rwa [World.size_alloc] at this
  generalize (w.alloc (.cells #[.int .i64 0, .int .i64 0, .string ⟨#[]⟩] 23)).alloc (.cells #[.int .i64 z, .int .i64 i, .string d] 23) = w0 at *
  refine (rencode_any ⟨z, i, d⟩ _ (by simp only; omega)).mono ?_
  rintro e w1 ⟨rfl, hb1⟩
  rw [H5.out]
  have hr1 := hr0.here hb1
  have hq1 := hq0.here hb1
  have HB1 := Lib.hid (hb0.trans (hb1.mono hb0.size))
  have hz1 := hr1.lt
  have hz2 := hq1.lt
  clear hb0 hr0 hq0 hb1
  go_wp2_with fail
  refine (refCut_any s a t.size _ (by omega) (by omega)).mono ?_
  rintro e w' ⟨rfl, rfl⟩
  rw [H6.out]
  have k0 : w1.cell? ⟨w.heap.size, 0, none⟩ = some (.int .i64 0) := hr1.cell 0
  have k1 : w1.cell? ⟨w.heap.size, 1, none⟩ = some (.int .i64 0) := hr1.cell 1
  have k2 : w1.cell? ⟨w.heap.size, 2, none⟩ = some (.string ⟨#[]⟩) := hr1.cell 2
  have s0 : w1.cell? ⟨w.heap.size + 1, 0, none⟩ = some (.int .i64 z) := hq1.cell 0
  have s1 : w1.cell? ⟨w.heap.size + 1, 1, none⟩ = some (.int .i64 i) := hq1.cell 1
  have s2 : w1.cell? ⟨w.heap.size + 1, 2, none⟩ = some (.string d) := hq1.cell 2
  have f0 := hr1.frozen 0
  have f1 := hr1.frozen 1
  have f2 := hr1.frozen 2
  clear hr1 hq1
  go_wp2
  refine bodyPost_ret (v := .tuple #[.agg #[.int .i64 0, .int .i64 0, .string ⟨#[]⟩], .int .i64 0, .bool false]) (rdec_res (B := w.heap.size) (set3_cells k0 k1 k2)) rfl ⟨rfl, ?_⟩
  exact ((HB1.out.setCell (Nat.le_refl _) _).setCell (Nat.le_refl _) _).setCell (Nat.le_refl _) _

set_option maxRecDepth 100000 in
set_option maxHeartbeats 2000000 in
theorem rdecode_D3 (s d t u : ByteArray) (a x i m z e1 e2 e3 e4 e5 e6 : Int) (w : World) (hs : s.size ≤ 1000000) (ha0 : 0 ≤ a) (ha : a ≤ 1000000) (h1 : takeR s a 2 = (x, e1)) (b1 : (e1 != 0) = false)
    (h2 : takeR s (a + 2) 6 = (i, e2)) (h3 : takeR s (a + 8) 2 = (m, e3)) (b2 : (e2 != 0) = false) (b3 : (e3 != 0) = false) (h4 : cutR s (a + 10) m = (d, e4)) (b4 : (e4 != 0) = false) (hx : 0 ≤ x) (hz : x % 256 = z) (h5 : fencR ⟨z, i, d⟩ = (t, e5)) (h6 : cutR s a t.size = (u, e6)) (hts : t.size ≤ 3000) (hds : d.size ≤ 1000000) (b5 : (e5 != 0) = false) (b6 : (e6 != 0) = false) (b7 : (t.toList == u.toList) = false) :
    Calls Tryz.prog 16 #[.string s, .int .i64 a] w (NoD w) := by
  have H1 := Lib.hid h1
  have H2 := Lib.hid h2
  have H3 := Lib.hid h3
  have H4 := Lib.hid h4
  have H5 := Lib.hid h5
  have H6 := Lib.hid h6
  clear h1 h2 h3 h4 h5 h6
  go_enter Tryz.func16, Tryz.ntmps16
  go_wp2_with fail
  refine (refTake_any s a 2 _ (by omega) (by omega)).mono ?_
  rintro e w' ⟨rfl, rfl⟩
  rw [H1.out]
  go_wp2_with fail
  refine (refTake_any s (a + 2) 6 _ (by omega) (by omega)).mono ?_
  rintro e w' ⟨rfl, rfl⟩
  rw [H2.out]
  go_wp2_with fail
  refine (refTake_any s (a + 8) 2 _ (by omega) (by omega)).mono ?_
  rintro e w' ⟨rfl, rfl⟩
  rw [H3.out]
  go_wp2_with fail
  refine (refCut_any s (a + 10) m _ (by omega) (by omega)).mono ?_
  rintro e w' ⟨rfl, rfl⟩
  rw [H4.out]
  go_wp2_with fail
  rw [hz]
  have hb0 : Below w.heap.size w ((w.alloc (.cells #[.int .i64 0, .int .i64 0, .string ⟨#[]⟩] 23)).alloc (.cells #[.int .i64 z, .int .i64 i, .string d] 23)) := ((Below.refl _ w).alloc (Nat.le_refl _) _).alloc (by simp) _
  have hr0 : Blk ((w.alloc (.cells #[.int .i64 0, .int .i64 0, .string ⟨#[]⟩] 23)).alloc (.cells #[.int .i64 z, .int .i64 i, .string d] 23)) w.heap.size 23 #[.int .i64 0, .int .i64 0, .string ⟨#[]⟩] := (Blk.new w _ _).alloc _
  have hq0 : Blk ((w.alloc (.cells #[.int .i64 0, .int .i64 0, .string ⟨#[]⟩] 23)).alloc (.cells #[.int .i64 z, .int .i64 i, .string d] 23)) (w.heap.size + 1) 23 #[.int .i64 z, .int .i64 i, .string d] := by
    have := Blk.new (w.alloc (.cells #[.int .i64 0, .int .i64 0, .string ⟨#[]⟩] 23)) 23 #[.int .i64 z, .int .i64 i, .string d]
    rwa [World.size_alloc] at this
  generalize (w.alloc (.cells #[.int .i64 0, .int .i64 0, .string ⟨#[]⟩] 23)).alloc (.cells #[.int .i64 z, .int .i64 i, .string d] 23) = w0 at *
  refine (rencode_any ⟨z, i, d⟩ _ (by simp only; omega)).mono ?_
  rintro e w1 ⟨rfl, hb1⟩
  rw [H5.out]
  have hr1 := hr0.here hb1
  have hq1 := hq0.here hb1
  have HB1 := Lib.hid (hb0.trans (hb1.mono hb0.size))
  have hz1 := hr1.lt
  have hz2 := hq1.lt
  clear hb0 hr0 hq0 hb1
  go_wp2_with fail
  refine (refCut_any s a t.size _ (by omega) (by omega)).mono ?_
  rintro e w' ⟨rfl, rfl⟩
  rw [H6.out]
  have k0 : w1.cell? ⟨w.heap.size, 0, none⟩ = some (.int .i64 0) := hr1.cell 0
  have k1 : w1.cell? ⟨w.heap.size, 1, none⟩ = some (.int .i64 0) := hr1.cell 1
  have k2 : w1.cell? ⟨w.heap.size, 2, none⟩ = some (.string ⟨#[]⟩) := hr1.cell 2
  have s0 : w1.cell? ⟨w.heap.size + 1, 0, none⟩ = some (.int .i64 z) := hq1.cell 0
  have s1 : w1.cell? ⟨w.heap.size + 1, 1, none⟩ = some (.int .i64 i) := hq1.cell 1
  have s2 : w1.cell? ⟨w.heap.size + 1, 2, none⟩ = some (.string d) := hq1.cell 2
  have f0 := hr1.frozen 0
  have f1 := hr1.frozen 1
  have f2 := hr1.frozen 2
  clear hr1 hq1
  go_wp2
  refine bodyPost_ret (v := .tuple #[.agg #[.int .i64 0, .int .i64 0, .string ⟨#[]⟩], .int .i64 0, .bool false]) (rdec_res (B := w.heap.size) (set3_cells k0 k1 k2)) rfl ⟨rfl, ?_⟩
  exact ((HB1.out.setCell (Nat.le_refl _) _).setCell (Nat.le_refl _) _).setCell (Nat.le_refl _) _

set_option maxRecDepth 100000 in
set_option maxHeartbeats 2000000 in
theorem rdecode_E (s d t u : ByteArray) (a x i m z e1 e2 e3 e4 e5 e6 : Int) (w : World) (hs : s.size ≤ 1000000) (ha0 : 0 ≤ a) (ha : a ≤ 1000000) (h1 : takeR s a 2 = (x, e1)) (b1 : (e1 != 0) = false)
    (h2 : takeR s (a + 2) 6 = (i, e2)) (h3 : takeR s (a + 8) 2 = (m, e3)) (b2 : (e2 != 0) = false) (b3 : (e3 != 0) = false) (h4 : cutR s (a + 10) m = (d, e4)) (b4 : (e4 != 0) = false) (hx : 0 ≤ x) (hz : x % 256 = z) (h5 : fencR ⟨z, i, d⟩ = (t, e5)) (h6 : cutR s a t.size = (u, e6)) (hts : t.size ≤ 3000) (hds : d.size ≤ 1000000) (b5 : (e5 != 0) = false) (b6 : (e6 != 0) = false) (b7 : (t.toList == u.toList) = true) :
    Calls Tryz.prog 16 #[.string s, .int .i64 a] w fun e w' => e = .returned (.tuple #[.agg #[.int .i64 z, .int .i64 i, .string d], .int .i64 (a + (t.size : Int)), .bool true]) ∧ Below w.heap.size w w' := by
  have H1 := Lib.hid h1
  have H2 := Lib.hid h2
  have H3 := Lib.hid h3
  have H4 := Lib.hid h4
  have H5 := Lib.hid h5
  have H6 := Lib.hid h6
  clear h1 h2 h3 h4 h5 h6
  go_enter Tryz.func16, Tryz.ntmps16
  go_wp2_with fail
  refine (refTake_any s a 2 _ (by omega) (by omega)).mono ?_
  rintro e w' ⟨rfl, rfl⟩
  rw [H1.out]
  go_wp2_with fail
  refine (refTake_any s (a + 2) 6 _ (by omega) (by omega)).mono ?_
  rintro e w' ⟨rfl, rfl⟩
  rw [H2.out]
  go_wp2_with fail
  refine (refTake_any s (a + 8) 2 _ (by omega) (by omega)).mono ?_
  rintro e w' ⟨rfl, rfl⟩
  rw [H3.out]
  go_wp2_with fail
  refine (refCut_any s (a + 10) m _ (by omega) (by omega)).mono ?_
  rintro e w' ⟨rfl, rfl⟩
  rw [H4.out]
  go_wp2_with fail
  rw [hz]
  have hb0 : Below w.heap.size w ((w.alloc (.cells #[.int .i64 0, .int .i64 0, .string ⟨#[]⟩] 23)).alloc (.cells #[.int .i64 z, .int .i64 i, .string d] 23)) := ((Below.refl _ w).alloc (Nat.le_refl _) _).alloc (by simp) _
  have hr0 : Blk ((w.alloc (.cells #[.int .i64 0, .int .i64 0, .string ⟨#[]⟩] 23)).alloc (.cells #[.int .i64 z, .int .i64 i, .string d] 23)) w.heap.size 23 #[.int .i64 0, .int .i64 0, .string ⟨#[]⟩] := (Blk.new w _ _).alloc _
  have hq0 : Blk ((w.alloc (.cells #[.int .i64 0, .int .i64 0, .string ⟨#[]⟩] 23)).alloc (.cells #[.int .i64 z, .int .i64 i, .string d] 23)) (w.heap.size + 1) 23 #[.int .i64 z, .int .i64 i, .string d] := by
    have := Blk.new (w.alloc (.cells #[.int .i64 0, .int .i64 0, .string ⟨#[]⟩] 23)) 23 #[.int .i64 z, .int .i64 i, .string d]
    rwa [World.size_alloc] at this
  generalize (w.alloc (.cells #[.int .i64 0, .int .i64 0, .string ⟨#[]⟩] 23)).alloc (.cells #[.int .i64 z, .int .i64 i, .string d] 23) = w0 at *
  refine (rencode_any ⟨z, i, d⟩ _ (by simp only; omega)).mono ?_
  rintro e w1 ⟨rfl, hb1⟩
  rw [H5.out]
  have hr1 := hr0.here hb1
  have hq1 := hq0.here hb1
  have HB1 := Lib.hid (hb0.trans (hb1.mono hb0.size))
  have hz1 := hr1.lt
  have hz2 := hq1.lt
  clear hb0 hr0 hq0 hb1
  go_wp2_with fail
  refine (refCut_any s a t.size _ (by omega) (by omega)).mono ?_
  rintro e w' ⟨rfl, rfl⟩
  rw [H6.out]
  have k0 : w1.cell? ⟨w.heap.size, 0, none⟩ = some (.int .i64 0) := hr1.cell 0
  have k1 : w1.cell? ⟨w.heap.size, 1, none⟩ = some (.int .i64 0) := hr1.cell 1
  have k2 : w1.cell? ⟨w.heap.size, 2, none⟩ = some (.string ⟨#[]⟩) := hr1.cell 2
  have s0 : w1.cell? ⟨w.heap.size + 1, 0, none⟩ = some (.int .i64 z) := hq1.cell 0
  have s1 : w1.cell? ⟨w.heap.size + 1, 1, none⟩ = some (.int .i64 i) := hq1.cell 1
  have s2 : w1.cell? ⟨w.heap.size + 1, 2, none⟩ = some (.string d) := hq1.cell 2
  have f0 := hr1.frozen 0
  have f1 := hr1.frozen 1
  have f2 := hr1.frozen 2
  clear hr1 hq1
  go_wp2
  refine bodyPost_ret (v := .tuple #[.agg #[.int .i64 z, .int .i64 i, .string d], .int .i64 (a + (t.size : Int)), .bool true]) (rdec_res (B := w.heap.size) (set3_cells k0 k1 k2)) rfl ⟨rfl, ?_⟩
  exact ((HB1.out.setCell (Nat.le_refl _) _).setCell (Nat.le_refl _) _).setCell (Nat.le_refl _) _

theorem takeR_ok {s : ByteArray} {a k : Int} (h : (takeR s a k).2 = 0) : 0 ≤ a ∧ a + k ≤ s.size ∧ 1 ≤ k := by
  unfold takeR at h
  split at h
  · cases h
  · split at h
    · cases h
    · rename_i h1 h2
      have h2 := Decidable.not_not.1 h2
      exact ⟨h2.1, h2.2.2, by omega⟩
theorem cutR_fits {s : ByteArray} {a k : Int} (h : (cutR s a k).2 = 0) : fitsB s a k := by
  unfold cutR at h
  split at h
  · assumption
  · cases h
theorem cutR_size (s : ByteArray) (a k : Int) : (cutR s a k).1.size ≤ s.size := by
  unfold cutR
  split
  · exact extract_le _ _ _
  · exact Nat.zero_le _
theorem fencR_size (r : Rc) : (fencR r).1.size ≤ 3000 := by
  unfold fencR
  split
  · rename_i h
    obtain ⟨_, _, _, _, _, _, _, h6⟩ := rcB_iff.1 h
    show (frL r).toArray.size ≤ _
    rw [List.size_toArray, frL_length]
    omega
  · exact Nat.zero_le _
/-- Two bytes as one number. -/
theorem two_val (p : Nat) (hp : p < 256) : beL (57600 + p) 2 = beL 225 1 ++ beL p 1 := by
  rw [beL_succ (57600 + p) 1, show (57600 + p) / 256 = 225 by omega, show (57600 + p) % 256 = p by omega, beL_succ p 0]
  congr 1
  rw [beL_zero, Nat.mod_eq_of_lt hp]
  rfl
theorem bytes_ofBeq {a b : ByteArray} (h : (a.toList == b.toList) = true) : a = b := by
  have h := eq_of_beq h
  rw [ByteArray.toList_eq, ByteArray.toList_eq] at h
  exact ba_eq h

/-- Where a frame stands all is read. -/
theorem stands_all {s : ByteArray} {a : Nat} {r : Rc} (h : FrAt s a r) : ∃ x : Int, takeR s (a : Int) 2 = (x, 0) ∧ 0 ≤ x ∧ x % 256 = r.op ∧ takeR s ((a : Int) + 2) 6 = (r.id, 0) ∧ takeR s ((a : Int) + 8) 2 = ((r.data.size : Int), 0) ∧ cutR s ((a : Int) + 10) r.data.size = (r.data, 0) ∧ fencR r = (⟨(frL r).toArray⟩, 0) ∧ cutR s (a : Int) (⟨(frL r).toArray⟩ : ByteArray).size = (⟨(frL r).toArray⟩, 0) := by
  obtain ⟨hs, _, _, k2, k3, k4⟩ := rough_of_frame h
  obtain ⟨_, hr, hp⟩ := h
  obtain ⟨p, i, h1, h2, h3, h4, h5, h6⟩ := rcB_iff.1 hr
  rw [Int.toNat_natCast] at hp
  have kx : beL (57600 + p) 2 <+: s.data.toList.drop a := by
    rw [two_val p (by omega)]
    have := mid_of_prefix (l := s.data.toList) (a := a) (x := []) (y := beL 225 1 ++ beL p 1) (z := beL r.id.toNat 6 ++ beL r.data.size 2 ++ r.data.data.toList ++ beL (c32 (smL r)) 4) (by
      unfold frL at hp
      rw [show smL r = beL 225 1 ++ beL r.op.toNat 1 ++ beL r.id.toNat 6 ++ beL r.data.size 2 ++ r.data.data.toList from rfl, h1, Int.toNat_natCast] at hp
      simpa [smL, h1] using hp)
    simpa using this
  refine ⟨((57600 + p : Nat) : Int), take_of_prefix (s := s) (a := a) (m := 57600 + p) (j := 2) (by omega) (by omega) (by omega) (by rw [pow2]; omega) kx, by omega, by rw [h1]; omega, k2, k3, k4, ?_, ?_⟩
  · unfold fencR; rw [hr]; rfl
  · exact cut_of_prefix (by omega) hp

theorem rdecode_any (s : ByteArray) (a : Int) (w : World) (hs : s.size ≤ 1000000) (ha : a ≤ 9223372036854775807) :
    Calls Tryz.prog 16 #[.string s, .int .i64 a] w fun e w' => e = .returned (.tuple #[.agg #[.int .i64 (decR s a).1.op, .int .i64 (decR s a).1.id, .string (decR s a).1.data], .int .i64 (decR s a).2.1, .bool (decR s a).2.2]) ∧ Below w.heap.size w w' := by
  cases hd : decO s a with
  | some r =>
    have hf := decO_some.1 hd
    obtain ⟨n, rfl⟩ := Int.eq_ofNat_of_zero_le hf.1
    obtain ⟨x, k1, kx, kz, k2, k3, k4, k5, k6⟩ := stands_all hf
    have hsz := hf.size
    rw [decR_some hd]
    have e : (n : Int) + 14 + (r.data.size : Int) = (n : Int) + ((⟨(frL r).toArray⟩ : ByteArray).size : Int) := by
      show _ = (n : Int) + ((frL r).toArray.size : Int)
      rw [List.size_toArray, frL_length]
      omega
    rw [e]
    have h3 := fencR_size r
    rw [k5] at h3
    exact rdecode_E s r.data _ _ n x r.id _ r.op 0 0 0 0 0 0 w hs (by omega) (by omega) k1 rfl k2 k3 rfl rfl k4 rfl kx kz k5 k6 h3 (by omega) rfl rfl (by simp)
  | none =>
    rw [decR_none hd]
    show Calls _ _ _ _ (NoD w)
    obtain ⟨⟨x, e1⟩, h1⟩ : ∃ q, takeR s a 2 = q := ⟨_, rfl⟩
    cases b1 : (e1 != 0) with
    | true => exact rdecode_1 s a x e1 w hs ha h1 b1
    | false =>
      have z1 : e1 = 0 := by simpa using b1
      have r1 := takeR_ok (s := s) (a := a) (k := 2) (by rw [h1]; exact z1)
      obtain ⟨⟨i, e2⟩, h2⟩ : ∃ q, takeR s (a + 2) 6 = q := ⟨_, rfl⟩
      obtain ⟨⟨m, e3⟩, h3⟩ : ∃ q, takeR s (a + 8) 2 = q := ⟨_, rfl⟩
      cases b2 : (e2 != 0) with
      | true => exact rdecode_B1 s ⟨#[]⟩ ⟨#[]⟩ ⟨#[]⟩ a x i m 0 e1 e2 e3 0 0 0 w hs r1.1 (by omega) h1 b1 h2 h3 b2
      | false =>
      cases b3 : (e3 != 0) with
      | true => exact rdecode_B2 s ⟨#[]⟩ ⟨#[]⟩ ⟨#[]⟩ a x i m 0 e1 e2 e3 0 0 0 w hs r1.1 (by omega) h1 b1 h2 h3 b2 b3
      | false =>
      obtain ⟨⟨d, e4⟩, h4⟩ : ∃ q, cutR s (a + 10) m = q := ⟨_, rfl⟩
      cases b4 : (e4 != 0) with
      | true => exact rdecode_C s d ⟨#[]⟩ ⟨#[]⟩ a x i m 0 e1 e2 e3 e4 0 0 w hs r1.1 (by omega) h1 b1 h2 h3 b2 b3 h4 b4
      | false =>
      have hx : 0 ≤ x := by have := (takeR_rng s a 2).1; rw [h1] at this; exact this
      obtain ⟨⟨t, e5⟩, h5⟩ : ∃ q, fencR ⟨x % 256, i, d⟩ = q := ⟨_, rfl⟩
      obtain ⟨⟨u, e6⟩, h6⟩ : ∃ q, cutR s a t.size = q := ⟨_, rfl⟩
      have ht3 : t.size ≤ 3000 := by have := fencR_size ⟨x % 256, i, d⟩; rw [h5] at this; exact this
      have hd6 : d.size ≤ 1000000 := by have := cutR_size s (a + 10) m; rw [h4] at this; exact Nat.le_trans this hs
      cases b5 : (e5 != 0) with
      | true => exact rdecode_D1 s d t u a x i m _ e1 e2 e3 e4 e5 e6 w hs r1.1 (by omega) h1 b1 h2 h3 b2 b3 h4 b4 hx rfl h5 h6 ht3 hd6 b5
      | false =>
      cases b6 : (e6 != 0) with
      | true => exact rdecode_D2 s d t u a x i m _ e1 e2 e3 e4 e5 e6 w hs r1.1 (by omega) h1 b1 h2 h3 b2 b3 h4 b4 hx rfl h5 h6 ht3 hd6 b5 b6
      | false =>
      cases b7 : (t.toList == u.toList) with
      | false => exact rdecode_D3 s d t u a x i m _ e1 e2 e3 e4 e5 e6 w hs r1.1 (by omega) h1 b1 h2 h3 b2 b3 h4 b4 hx rfl h5 h6 ht3 hd6 b5 b6 b7
      | true =>
        exfalso
        have z5 : e5 = 0 := by simpa using b5
        have z6 : e6 = 0 := by simpa using b6
        have htu := bytes_ofBeq b7
        subst htu z5 z6
        refine decO_none.1 hd ⟨x % 256, i, d⟩ ⟨r1.1, ?_, ?_⟩
        · unfold fencR at h5
          split at h5
          · assumption
          · cases h5
        · unfold fencR at h5
          split at h5
          · have e : t = ⟨(frL ⟨x % 256, i, d⟩).toArray⟩ := (congrArg Prod.fst h5).symm
            have hf := cutR_fits (s := s) (a := a) (k := t.size) (by rw [h6])
            rw [cutR_ok hf] at h6
            have h7 := congrArg (fun q : ByteArray × Int => q.1.data.toList) h6
            simp only [ByteArray.data_extract, Array.toList_extract, List.extract_eq_take_drop] at h7
            rw [e] at h7
            have h8 : List.take ((a + ((⟨(frL ⟨x % 256, i, d⟩).toArray⟩ : ByteArray).size : Int)).toNat - a.toNat) (s.data.toList.drop a.toNat) = frL ⟨x % 256, i, d⟩ := h7
            rw [← h8]
            exact List.take_prefix _ _
          · cases h5
end Go.Proofs.YtdlkmdjhjdpmeaaGreatDoor
