/- The document's read of items: by what is read. -/
import Derived.Test.YtmbmolgkccjedaaGreatDoorM24
set_option linter.unusedVariables false
set_option linter.unusedSimpArgs false
namespace Go.Proofs.YtmbmolgkccjedaaGreatDoor
open Go.RowKit

/-- The document's reader in memory: its text, how many items it began. -/
structure RdR (R : Nat) (s : ByteArray) (c : Int) (W : World) : Prop where
  c0 : W.cell? ⟨R, 0, none⟩ = some (.string s)
  c1 : W.cell? ⟨R, 1, none⟩ = some (.int .i64 c)
  f0 : W.frozen? ⟨R, 0, none⟩ = false
  f1 : W.frozen? ⟨R, 1, none⟩ = false
theorem RdR.lt {R : Nat} {s : ByteArray} {c : Int} {W : World} (h : RdR R s c W) : R < W.heap.size := World.block_lt_of_cell? _ _ h.c0
theorem RdR.heap {R : Nat} {s : ByteArray} {c : Int} {W W' : World} (h : RdR R s c W) (e : W'.heap[R]? = W.heap[R]?) : RdR R s c W' :=
  ⟨(cell_heap (p := ⟨R, 0, none⟩) e).trans h.c0, (cell_heap (p := ⟨R, 1, none⟩) e).trans h.c1, (frozen_heap (p := ⟨R, 0, none⟩) e).trans h.f0, (frozen_heap (p := ⟨R, 1, none⟩) e).trans h.f1⟩
theorem RdR.below {R : Nat} {s : ByteArray} {c : Int} {W W' : World} (h : RdR R s c W) (hb : Below W.heap.size W W') : RdR R s c W' := h.heap (hb.block _ h.lt)
theorem RdR.other {R : Nat} {s : ByteArray} {c : Int} {W : World} (h : RdR R s c W) {b : Nat} (hb : b ≠ R) (o : Nat) (v : Value) : RdR R s c (W.setCell ⟨b, o, none⟩ v) := h.heap (Below.heap_setCell _ _ _ _ (fun e => hb e.symm))
theorem RdR.count {R : Nat} {s : ByteArray} {c : Int} {W : World} (h : RdR R s c W) (x : Int) : RdR R s x (W.setCell ⟨R, 1, none⟩ (.int .i64 x)) := by
  have h0 := h.c0
  have h1 := h.c1
  have g0 := h.f0
  have g1 := h.f1
  constructor <;> simp [go_sem, *]
theorem RdR.of_heap {R : Nat} {s : ByteArray} {c : Int} {t : TypeId} {W : World} (h : W.heap[R]? = some (.cells #[.string s, .int .i64 c] t (0, 0))) : RdR R s c W :=
  ⟨heap_cell h 0 _ rfl, heap_cell h 1 _ rfl, heap_frozen h 0, heap_frozen h 1⟩

/-- What the document's read answers, of what is read. -/
def RefR (R : Nat) (s : ByteArray) (W : World) (t : Except Int (Itm × List UInt8 × Nat)) (e' : Ending) (w' : World) : Prop :=
  match t with
  | .error e => e' = .returned (.tuple #[.agg #[.int .i64 0, .int .i64 0, .string ⟨#[]⟩, .slice none 0 0], .int .i64 0, .int .i64 e]) ∧ Fr R W w'
  | .ok (x, r, c') => ∃ (k nn : Int) (q : ByteArray) (p : Option Addr) (l cap : Nat), e' = .returned (.tuple #[.agg #[.int .i64 k, .int .i64 nn, .string q, .slice p l cap], .int .i64 ((s.size - r.length : Nat) : Int), .int .i64 0]) ∧ ItV (fun b => W.heap.size ≤ b) w' x (.agg #[.int .i64 k, .int .i64 nn, .string q, .slice p l cap]) ∧ RdR R s (c' : Int) w' ∧ Fr R W w'

set_option maxRecDepth 100000 in
set_option maxHeartbeats 2000000 in
theorem rr_full (R : Nat) (s : ByteArray) (at0 : Int) (c d : Nat) (w : World) (hS : RdR R s (c : Int) w) (hc : c ≤ 60) (hd : d ≤ 7) (h : 60 ≤ c ∨ 7 ≤ d) :
    Calls Tryz.prog 56 #[.pointer (some ⟨R, 0, none⟩), .int .i64 at0, .int .i64 (d : Int)] w (RefR R s w (.error 40)) := by
  have hl := hS.lt
  have r0 := hS.c0
  have r1 := hS.c1
  have q1 := hS.f1
  have hS1 := (hS.count ((c : Int) + 1)).below ((Below.refl _ _).alloc (Nat.le_refl _) (.cells #[.int .i64 0, .int .i64 0, .string ⟨#[]⟩, .slice none 0 0] 26))
  have hF1 : Fr R w ((w.setCell ⟨R, 1, none⟩ (.int .i64 ((c : Int) + 1))).alloc (.cells #[.int .i64 0, .int .i64 0, .string ⟨#[]⟩, .slice none 0 0] 26)) := frAlloc (Fr.set R 1 w _) _
  have hA0 : ((w.setCell ⟨R, 1, none⟩ (.int .i64 ((c : Int) + 1))).alloc (.cells #[.int .i64 0, .int .i64 0, .string ⟨#[]⟩, .slice none 0 0] 26)).heap[w.heap.size]? = some (.cells #[.int .i64 0, .int .i64 0, .string ⟨#[]⟩, .slice none 0 0] 26 (0, 0)) := by
    have := World.alloc_heap_new (w.setCell ⟨R, 1, none⟩ (.int .i64 ((c : Int) + 1))) (.cells #[.int .i64 0, .int .i64 0, .string ⟨#[]⟩, .slice none 0 0] 26)
    rw [show (w.setCell ⟨R, 1, none⟩ (.int .i64 ((c : Int) + 1))).heap.size = w.heap.size by simp] at this
    exact this
  have hRne : w.heap.size ≠ R := by omega
  have HF1 := Lib.hid hF1
  have hw : ∃ b1 b2 : Bool, decide (60 < (c : Int) + 1) = b1 ∧ decide (6 < (d : Int)) = b2 ∧ (b1 = true ∨ b1 = false ∧ b2 = true) := ⟨_, _, rfl, rfl, by simp; omega⟩
  obtain ⟨b1, b2, hb1, hb2, hb⟩ := hw
  clear hS hS1 hF1 hA0 h
  rcases hb with rfl | ⟨rfl, rfl⟩
  all_goals
    go_enter Tryz.func56, Tryz.ntmps56
    go_wp2_with fail
    refine bodyPost_ret (v := .tuple #[.agg #[.int .i64 0, .int .i64 0, .string ⟨#[]⟩, .slice none 0 0], .int .i64 0, .int .i64 40]) (by simp [results, Tryz.results56, go_sem]) rfl ⟨rfl, ?_⟩
    exact HF1.out

set_option maxRecDepth 100000 in
set_option maxHeartbeats 2000000 in
theorem rr_err (R : Nat) (s : ByteArray) (at0 : Int) (c d : Nat) (w : World) (hS : RdR R s (c : Int) w) (m n b e : Int) (hs : s.size ≤ 1000000) (hc : c < 60) (hd : d ≤ 6) (hD : hdecR s at0 = (m, n, b, e)) (he : e ≠ 0) :
    Calls Tryz.prog 56 #[.pointer (some ⟨R, 0, none⟩), .int .i64 at0, .int .i64 (d : Int)] w (RefR R s w (.error e)) := by
  have hl := hS.lt
  have r0 := hS.c0
  have r1 := hS.c1
  have q1 := hS.f1
  have hS1 := (hS.count ((c : Int) + 1)).below ((Below.refl _ _).alloc (Nat.le_refl _) (.cells #[.int .i64 0, .int .i64 0, .string ⟨#[]⟩, .slice none 0 0] 26))
  have hF1 : Fr R w ((w.setCell ⟨R, 1, none⟩ (.int .i64 ((c : Int) + 1))).alloc (.cells #[.int .i64 0, .int .i64 0, .string ⟨#[]⟩, .slice none 0 0] 26)) := frAlloc (Fr.set R 1 w _) _
  have hA0 : ((w.setCell ⟨R, 1, none⟩ (.int .i64 ((c : Int) + 1))).alloc (.cells #[.int .i64 0, .int .i64 0, .string ⟨#[]⟩, .slice none 0 0] 26)).heap[w.heap.size]? = some (.cells #[.int .i64 0, .int .i64 0, .string ⟨#[]⟩, .slice none 0 0] 26 (0, 0)) := by
    have := World.alloc_heap_new (w.setCell ⟨R, 1, none⟩ (.int .i64 ((c : Int) + 1))) (.cells #[.int .i64 0, .int .i64 0, .string ⟨#[]⟩, .slice none 0 0] 26)
    rw [show (w.setCell ⟨R, 1, none⟩ (.int .i64 ((c : Int) + 1))).heap.size = w.heap.size by simp] at this
    exact this
  have hRne : w.heap.size ≠ R := by omega
  have hC := rdecode_any s at0 ((w.setCell ⟨R, 1, none⟩ (.int .i64 ((c : Int) + 1))).alloc (.cells #[.int .i64 0, .int .i64 0, .string ⟨#[]⟩, .slice none 0 0] 26)) hs
  rw [hD] at hC
  have HC := Lib.hid hC
  have HS1 := Lib.hid hS1
  have HF1 := Lib.hid hF1
  have HA0 := Lib.hid hA0
  have b1 : decide (60 < (c : Int) + 1) = false := by simp; omega
  have b2 : decide (6 < (d : Int)) = false := by simp; omega
  clear hS hS1 hF1 hA0 hC hD
  have b3 : (e != 0) = true := by simpa using he
  clear he
  go_enter Tryz.func56, Tryz.ntmps56
  go_wp2_with fail
  refine HC.out.mono ?_
  clear HC
  rintro e' w1 ⟨rfl, hb1⟩
  have hA1 := (hb1.block _ (lt_of_heap HA0.out)).trans HA0.out
  have hz1 : w.heap.size < w1.heap.size := lt_of_heap hA1
  have hz1n : w.heap.size ≠ w1.heap.size := by omega
  have hS2 := HS1.out.below hb1
  have hRl := hS2.lt
  have HS2 := Lib.hid hS2
  have HF2 := Lib.hid (HF1.out.trans (Fr.below hb1))
  have HA1 := Lib.hid hA1
  have k0 := heap_cell hA1 0 _ rfl
  have f0 := heap_frozen hA1 0
  have k1 := heap_cell hA1 1 _ rfl
  have f1 := heap_frozen hA1 1
  have k2 := heap_cell hA1 2 _ rfl
  have f2 := heap_frozen hA1 2
  have k3 := heap_cell hA1 3 _ rfl
  have f3 := heap_frozen hA1 3
  have t0 := hS2.c0
  clear hb1 hA1 hS2 HF1 HS1 HA0 r0 r1 q1
  go_wp2_with fail
  refine bodyPost_ret (v := .tuple #[.agg #[.int .i64 0, .int .i64 0, .string ⟨#[]⟩, .slice none 0 0], .int .i64 0, .int .i64 e]) (by simp [results, Tryz.results56, go_sem, k0, k1, k2, k3]) rfl ⟨rfl, ?_⟩
  exact frNew (frNew (frNew (frNew HF2.out (Nat.le_refl _) _ _) (Nat.le_refl _) _ _) (Nat.le_refl _) _ _) (Nat.le_refl _) _ _

set_option maxRecDepth 100000 in
set_option maxHeartbeats 2000000 in
theorem rr_num (R : Nat) (s : ByteArray) (at0 : Int) (c d : Nat) (w : World) (hS : RdR R s (c : Int) w) (n : Nat) (b : Int) (r : List UInt8) (hs : s.size ≤ 1000000) (hc : c < 60) (hd : d ≤ 6) (hD : hdecR s at0 = (0, (n : Int), b, 0)) (hn : n ≤ 281474976710655) (hb : ((s.size - r.length : Nat) : Int) = b) :
    Calls Tryz.prog 56 #[.pointer (some ⟨R, 0, none⟩), .int .i64 at0, .int .i64 (d : Int)] w (RefR R s w (.ok (.mk 0 n [] [], r, c + 1))) := by
  have hl := hS.lt
  have r0 := hS.c0
  have r1 := hS.c1
  have q1 := hS.f1
  have hS1 := (hS.count ((c : Int) + 1)).below ((Below.refl _ _).alloc (Nat.le_refl _) (.cells #[.int .i64 0, .int .i64 0, .string ⟨#[]⟩, .slice none 0 0] 26))
  have hF1 : Fr R w ((w.setCell ⟨R, 1, none⟩ (.int .i64 ((c : Int) + 1))).alloc (.cells #[.int .i64 0, .int .i64 0, .string ⟨#[]⟩, .slice none 0 0] 26)) := frAlloc (Fr.set R 1 w _) _
  have hA0 : ((w.setCell ⟨R, 1, none⟩ (.int .i64 ((c : Int) + 1))).alloc (.cells #[.int .i64 0, .int .i64 0, .string ⟨#[]⟩, .slice none 0 0] 26)).heap[w.heap.size]? = some (.cells #[.int .i64 0, .int .i64 0, .string ⟨#[]⟩, .slice none 0 0] 26 (0, 0)) := by
    have := World.alloc_heap_new (w.setCell ⟨R, 1, none⟩ (.int .i64 ((c : Int) + 1))) (.cells #[.int .i64 0, .int .i64 0, .string ⟨#[]⟩, .slice none 0 0] 26)
    rw [show (w.setCell ⟨R, 1, none⟩ (.int .i64 ((c : Int) + 1))).heap.size = w.heap.size by simp] at this
    exact this
  have hRne : w.heap.size ≠ R := by omega
  have hC := rdecode_any s at0 ((w.setCell ⟨R, 1, none⟩ (.int .i64 ((c : Int) + 1))).alloc (.cells #[.int .i64 0, .int .i64 0, .string ⟨#[]⟩, .slice none 0 0] 26)) hs
  rw [hD] at hC
  have HC := Lib.hid hC
  have HS1 := Lib.hid hS1
  have HF1 := Lib.hid hF1
  have HA0 := Lib.hid hA0
  have b1 : decide (60 < (c : Int) + 1) = false := by simp; omega
  have b2 : decide (6 < (d : Int)) = false := by simp; omega
  clear hS hS1 hF1 hA0 hC hD
  have HN := Lib.hid hn
  have HB := Lib.hid hb
  clear hn hb
  go_enter Tryz.func56, Tryz.ntmps56
  go_wp2_with fail
  refine HC.out.mono ?_
  clear HC
  rintro e' w1 ⟨rfl, hb1⟩
  have hA1 := (hb1.block _ (lt_of_heap HA0.out)).trans HA0.out
  have hz1 : w.heap.size < w1.heap.size := lt_of_heap hA1
  have hz1n : w.heap.size ≠ w1.heap.size := by omega
  have hS2 := HS1.out.below hb1
  have hRl := hS2.lt
  have HS2 := Lib.hid hS2
  have HF2 := Lib.hid (HF1.out.trans (Fr.below hb1))
  have HA1 := Lib.hid hA1
  have k0 := heap_cell hA1 0 _ rfl
  have f0 := heap_frozen hA1 0
  have k1 := heap_cell hA1 1 _ rfl
  have f1 := heap_frozen hA1 1
  have k2 := heap_cell hA1 2 _ rfl
  have f2 := heap_frozen hA1 2
  have k3 := heap_cell hA1 3 _ rfl
  have f3 := heap_frozen hA1 3
  have t0 := hS2.c0
  clear hb1 hA1 hS2 HF1 HS1 HA0 r0 r1 q1
  go_wp2_with fail
  refine bodyPost_ret (v := .tuple #[.agg #[.int .i64 0, .int .i64 (n : Int), .string ⟨#[]⟩, .slice none 0 0], .int .i64 b, .int .i64 0]) (by simp [results, Tryz.results56, go_sem, k0, k1, k2, k3, hz1, Nat.lt_succ_of_lt hz1, Nat.ne_of_lt hz1]) rfl ?_
  unfold RefR
  refine ⟨0, n, ⟨#[]⟩, none, 0, 0, by rw [HB.out], ItV.leaf 0 n ⟨#[]⟩ (by decide) (by decide) (wf_nat HN.out), ?_, ?_⟩
  · rw [show ((c + 1 : Nat) : Int) = (c : Int) + 1 by omega]
    exact ((((HS2.out.other hRne _ _).other hRne _ _).other hRne _ _).other hRne _ _).below ((Below.refl _ _).alloc (Nat.le_refl _) _)
  · exact frAlloc (frNew (frNew (frNew (frNew HF2.out (Nat.le_refl _) _ _) (Nat.le_refl _) _ _) (Nat.le_refl _) _ _) (Nat.le_refl _) _ _) _

set_option maxRecDepth 100000 in
set_option maxHeartbeats 2000000 in
theorem rr_great2 (R : Nat) (s : ByteArray) (at0 : Int) (c d : Nat) (w : World) (hS : RdR R s (c : Int) w) (n b : Int) (hs : s.size ≤ 1000000) (hc : c < 60) (hd : d ≤ 6) (hD : hdecR s at0 = (2, n, b, 0)) (hn : 600 < n) :
    Calls Tryz.prog 56 #[.pointer (some ⟨R, 0, none⟩), .int .i64 at0, .int .i64 (d : Int)] w (RefR R s w (.error 40)) := by
  have hl := hS.lt
  have r0 := hS.c0
  have r1 := hS.c1
  have q1 := hS.f1
  have hS1 := (hS.count ((c : Int) + 1)).below ((Below.refl _ _).alloc (Nat.le_refl _) (.cells #[.int .i64 0, .int .i64 0, .string ⟨#[]⟩, .slice none 0 0] 26))
  have hF1 : Fr R w ((w.setCell ⟨R, 1, none⟩ (.int .i64 ((c : Int) + 1))).alloc (.cells #[.int .i64 0, .int .i64 0, .string ⟨#[]⟩, .slice none 0 0] 26)) := frAlloc (Fr.set R 1 w _) _
  have hA0 : ((w.setCell ⟨R, 1, none⟩ (.int .i64 ((c : Int) + 1))).alloc (.cells #[.int .i64 0, .int .i64 0, .string ⟨#[]⟩, .slice none 0 0] 26)).heap[w.heap.size]? = some (.cells #[.int .i64 0, .int .i64 0, .string ⟨#[]⟩, .slice none 0 0] 26 (0, 0)) := by
    have := World.alloc_heap_new (w.setCell ⟨R, 1, none⟩ (.int .i64 ((c : Int) + 1))) (.cells #[.int .i64 0, .int .i64 0, .string ⟨#[]⟩, .slice none 0 0] 26)
    rw [show (w.setCell ⟨R, 1, none⟩ (.int .i64 ((c : Int) + 1))).heap.size = w.heap.size by simp] at this
    exact this
  have hRne : w.heap.size ≠ R := by omega
  have hC := rdecode_any s at0 ((w.setCell ⟨R, 1, none⟩ (.int .i64 ((c : Int) + 1))).alloc (.cells #[.int .i64 0, .int .i64 0, .string ⟨#[]⟩, .slice none 0 0] 26)) hs
  rw [hD] at hC
  have HC := Lib.hid hC
  have HS1 := Lib.hid hS1
  have HF1 := Lib.hid hF1
  have HA0 := Lib.hid hA0
  have b1 : decide (60 < (c : Int) + 1) = false := by simp; omega
  have b2 : decide (6 < (d : Int)) = false := by simp; omega
  clear hS hS1 hF1 hA0 hC hD
  have b3 : decide (600 < n) = true := by simpa using hn
  clear hn
  go_enter Tryz.func56, Tryz.ntmps56
  go_wp2_with fail
  refine HC.out.mono ?_
  clear HC
  rintro e' w1 ⟨rfl, hb1⟩
  have hA1 := (hb1.block _ (lt_of_heap HA0.out)).trans HA0.out
  have hz1 : w.heap.size < w1.heap.size := lt_of_heap hA1
  have hz1n : w.heap.size ≠ w1.heap.size := by omega
  have hS2 := HS1.out.below hb1
  have hRl := hS2.lt
  have HS2 := Lib.hid hS2
  have HF2 := Lib.hid (HF1.out.trans (Fr.below hb1))
  have HA1 := Lib.hid hA1
  have k0 := heap_cell hA1 0 _ rfl
  have f0 := heap_frozen hA1 0
  have k1 := heap_cell hA1 1 _ rfl
  have f1 := heap_frozen hA1 1
  have k2 := heap_cell hA1 2 _ rfl
  have f2 := heap_frozen hA1 2
  have k3 := heap_cell hA1 3 _ rfl
  have f3 := heap_frozen hA1 3
  have t0 := hS2.c0
  clear hb1 hA1 hS2 HF1 HS1 HA0 r0 r1 q1
  go_wp2_with fail
  refine bodyPost_ret (v := .tuple #[.agg #[.int .i64 0, .int .i64 0, .string ⟨#[]⟩, .slice none 0 0], .int .i64 0, .int .i64 40]) (by simp [results, Tryz.results56, go_sem, k0, k1, k2, k3, hz1, Nat.lt_succ_of_lt hz1, Nat.ne_of_lt hz1]) rfl ⟨rfl, ?_⟩
  exact frAlloc (frNew (frNew (frNew (frNew HF2.out (Nat.le_refl _) _ _) (Nat.le_refl _) _ _) (Nat.le_refl _) _ _) (Nat.le_refl _) _ _) _

set_option maxRecDepth 100000 in
set_option maxHeartbeats 2000000 in
theorem rr_short2 (R : Nat) (s : ByteArray) (at0 : Int) (c d : Nat) (w : World) (hS : RdR R s (c : Int) w) (n b : Int) (hs : s.size ≤ 1000000) (hc : c < 60) (hd : d ≤ 6) (hD : hdecR s at0 = (2, n, b, 0)) (hn : n ≤ 600) (hb : b ≤ 1000000) (hK : cutR s b n = (⟨#[]⟩, 11)) :
    Calls Tryz.prog 56 #[.pointer (some ⟨R, 0, none⟩), .int .i64 at0, .int .i64 (d : Int)] w (RefR R s w (.error 11)) := by
  have hl := hS.lt
  have r0 := hS.c0
  have r1 := hS.c1
  have q1 := hS.f1
  have hS1 := (hS.count ((c : Int) + 1)).below ((Below.refl _ _).alloc (Nat.le_refl _) (.cells #[.int .i64 0, .int .i64 0, .string ⟨#[]⟩, .slice none 0 0] 26))
  have hF1 : Fr R w ((w.setCell ⟨R, 1, none⟩ (.int .i64 ((c : Int) + 1))).alloc (.cells #[.int .i64 0, .int .i64 0, .string ⟨#[]⟩, .slice none 0 0] 26)) := frAlloc (Fr.set R 1 w _) _
  have hA0 : ((w.setCell ⟨R, 1, none⟩ (.int .i64 ((c : Int) + 1))).alloc (.cells #[.int .i64 0, .int .i64 0, .string ⟨#[]⟩, .slice none 0 0] 26)).heap[w.heap.size]? = some (.cells #[.int .i64 0, .int .i64 0, .string ⟨#[]⟩, .slice none 0 0] 26 (0, 0)) := by
    have := World.alloc_heap_new (w.setCell ⟨R, 1, none⟩ (.int .i64 ((c : Int) + 1))) (.cells #[.int .i64 0, .int .i64 0, .string ⟨#[]⟩, .slice none 0 0] 26)
    rw [show (w.setCell ⟨R, 1, none⟩ (.int .i64 ((c : Int) + 1))).heap.size = w.heap.size by simp] at this
    exact this
  have hRne : w.heap.size ≠ R := by omega
  have hC := rdecode_any s at0 ((w.setCell ⟨R, 1, none⟩ (.int .i64 ((c : Int) + 1))).alloc (.cells #[.int .i64 0, .int .i64 0, .string ⟨#[]⟩, .slice none 0 0] 26)) hs
  rw [hD] at hC
  have HC := Lib.hid hC
  have HS1 := Lib.hid hS1
  have HF1 := Lib.hid hF1
  have HA0 := Lib.hid hA0
  have b1 : decide (60 < (c : Int) + 1) = false := by simp; omega
  have b2 : decide (6 < (d : Int)) = false := by simp; omega
  clear hS hS1 hF1 hA0 hC hD
  have b3 : decide (600 < n) = false := by simpa using hn
  have HK := Lib.hid hK
  clear hn hK
  go_enter Tryz.func56, Tryz.ntmps56
  go_wp2_with fail
  refine HC.out.mono ?_
  clear HC
  rintro e' w1 ⟨rfl, hb1⟩
  have hA1 := (hb1.block _ (lt_of_heap HA0.out)).trans HA0.out
  have hz1 : w.heap.size < w1.heap.size := lt_of_heap hA1
  have hz1n : w.heap.size ≠ w1.heap.size := by omega
  have hS2 := HS1.out.below hb1
  have hRl := hS2.lt
  have HS2 := Lib.hid hS2
  have HF2 := Lib.hid (HF1.out.trans (Fr.below hb1))
  have HA1 := Lib.hid hA1
  have k0 := heap_cell hA1 0 _ rfl
  have f0 := heap_frozen hA1 0
  have k1 := heap_cell hA1 1 _ rfl
  have f1 := heap_frozen hA1 1
  have k2 := heap_cell hA1 2 _ rfl
  have f2 := heap_frozen hA1 2
  have k3 := heap_cell hA1 3 _ rfl
  have f3 := heap_frozen hA1 3
  have t0 := hS2.c0
  clear hb1 hA1 hS2 HF1 HS1 HA0 r0 r1 q1
  go_wp2_with fail
  refine (refCut_any s b n _ (by omega) (by omega)).mono ?_
  rintro e' w' ⟨rfl, rfl⟩
  rw [HK.out]
  go_wp2_with fail
  refine bodyPost_ret (v := .tuple #[.agg #[.int .i64 0, .int .i64 0, .string ⟨#[]⟩, .slice none 0 0], .int .i64 0, .int .i64 11]) (by simp [results, Tryz.results56, go_sem, k0, k1, k2, k3, hz1, Nat.lt_succ_of_lt hz1, Nat.ne_of_lt hz1]) rfl ⟨rfl, ?_⟩
  exact frAlloc (frNew (frNew (frNew (frNew HF2.out (Nat.le_refl _) _ _) (Nat.le_refl _) _ _) (Nat.le_refl _) _ _) (Nat.le_refl _) _ _) _

set_option maxRecDepth 100000 in
set_option maxHeartbeats 2000000 in
theorem rr_great3 (R : Nat) (s : ByteArray) (at0 : Int) (c d : Nat) (w : World) (hS : RdR R s (c : Int) w) (n b : Int) (hs : s.size ≤ 1000000) (hc : c < 60) (hd : d ≤ 6) (hD : hdecR s at0 = (3, n, b, 0)) (hn : 600 < n) :
    Calls Tryz.prog 56 #[.pointer (some ⟨R, 0, none⟩), .int .i64 at0, .int .i64 (d : Int)] w (RefR R s w (.error 40)) := by
  have hl := hS.lt
  have r0 := hS.c0
  have r1 := hS.c1
  have q1 := hS.f1
  have hS1 := (hS.count ((c : Int) + 1)).below ((Below.refl _ _).alloc (Nat.le_refl _) (.cells #[.int .i64 0, .int .i64 0, .string ⟨#[]⟩, .slice none 0 0] 26))
  have hF1 : Fr R w ((w.setCell ⟨R, 1, none⟩ (.int .i64 ((c : Int) + 1))).alloc (.cells #[.int .i64 0, .int .i64 0, .string ⟨#[]⟩, .slice none 0 0] 26)) := frAlloc (Fr.set R 1 w _) _
  have hA0 : ((w.setCell ⟨R, 1, none⟩ (.int .i64 ((c : Int) + 1))).alloc (.cells #[.int .i64 0, .int .i64 0, .string ⟨#[]⟩, .slice none 0 0] 26)).heap[w.heap.size]? = some (.cells #[.int .i64 0, .int .i64 0, .string ⟨#[]⟩, .slice none 0 0] 26 (0, 0)) := by
    have := World.alloc_heap_new (w.setCell ⟨R, 1, none⟩ (.int .i64 ((c : Int) + 1))) (.cells #[.int .i64 0, .int .i64 0, .string ⟨#[]⟩, .slice none 0 0] 26)
    rw [show (w.setCell ⟨R, 1, none⟩ (.int .i64 ((c : Int) + 1))).heap.size = w.heap.size by simp] at this
    exact this
  have hRne : w.heap.size ≠ R := by omega
  have hC := rdecode_any s at0 ((w.setCell ⟨R, 1, none⟩ (.int .i64 ((c : Int) + 1))).alloc (.cells #[.int .i64 0, .int .i64 0, .string ⟨#[]⟩, .slice none 0 0] 26)) hs
  rw [hD] at hC
  have HC := Lib.hid hC
  have HS1 := Lib.hid hS1
  have HF1 := Lib.hid hF1
  have HA0 := Lib.hid hA0
  have b1 : decide (60 < (c : Int) + 1) = false := by simp; omega
  have b2 : decide (6 < (d : Int)) = false := by simp; omega
  clear hS hS1 hF1 hA0 hC hD
  have b3 : decide (600 < n) = true := by simpa using hn
  clear hn
  go_enter Tryz.func56, Tryz.ntmps56
  go_wp2_with fail
  refine HC.out.mono ?_
  clear HC
  rintro e' w1 ⟨rfl, hb1⟩
  have hA1 := (hb1.block _ (lt_of_heap HA0.out)).trans HA0.out
  have hz1 : w.heap.size < w1.heap.size := lt_of_heap hA1
  have hz1n : w.heap.size ≠ w1.heap.size := by omega
  have hS2 := HS1.out.below hb1
  have hRl := hS2.lt
  have HS2 := Lib.hid hS2
  have HF2 := Lib.hid (HF1.out.trans (Fr.below hb1))
  have HA1 := Lib.hid hA1
  have k0 := heap_cell hA1 0 _ rfl
  have f0 := heap_frozen hA1 0
  have k1 := heap_cell hA1 1 _ rfl
  have f1 := heap_frozen hA1 1
  have k2 := heap_cell hA1 2 _ rfl
  have f2 := heap_frozen hA1 2
  have k3 := heap_cell hA1 3 _ rfl
  have f3 := heap_frozen hA1 3
  have t0 := hS2.c0
  clear hb1 hA1 hS2 HF1 HS1 HA0 r0 r1 q1
  go_wp2_with fail
  refine bodyPost_ret (v := .tuple #[.agg #[.int .i64 0, .int .i64 0, .string ⟨#[]⟩, .slice none 0 0], .int .i64 0, .int .i64 40]) (by simp [results, Tryz.results56, go_sem, k0, k1, k2, k3, hz1, Nat.lt_succ_of_lt hz1, Nat.ne_of_lt hz1]) rfl ⟨rfl, ?_⟩
  exact frAlloc (frNew (frNew (frNew (frNew HF2.out (Nat.le_refl _) _ _) (Nat.le_refl _) _ _) (Nat.le_refl _) _ _) (Nat.le_refl _) _ _) _

set_option maxRecDepth 100000 in
set_option maxHeartbeats 2000000 in
theorem rr_short3 (R : Nat) (s : ByteArray) (at0 : Int) (c d : Nat) (w : World) (hS : RdR R s (c : Int) w) (n b : Int) (hs : s.size ≤ 1000000) (hc : c < 60) (hd : d ≤ 6) (hD : hdecR s at0 = (3, n, b, 0)) (hn : n ≤ 600) (hb : b ≤ 1000000) (hK : cutR s b n = (⟨#[]⟩, 11)) :
    Calls Tryz.prog 56 #[.pointer (some ⟨R, 0, none⟩), .int .i64 at0, .int .i64 (d : Int)] w (RefR R s w (.error 11)) := by
  have hl := hS.lt
  have r0 := hS.c0
  have r1 := hS.c1
  have q1 := hS.f1
  have hS1 := (hS.count ((c : Int) + 1)).below ((Below.refl _ _).alloc (Nat.le_refl _) (.cells #[.int .i64 0, .int .i64 0, .string ⟨#[]⟩, .slice none 0 0] 26))
  have hF1 : Fr R w ((w.setCell ⟨R, 1, none⟩ (.int .i64 ((c : Int) + 1))).alloc (.cells #[.int .i64 0, .int .i64 0, .string ⟨#[]⟩, .slice none 0 0] 26)) := frAlloc (Fr.set R 1 w _) _
  have hA0 : ((w.setCell ⟨R, 1, none⟩ (.int .i64 ((c : Int) + 1))).alloc (.cells #[.int .i64 0, .int .i64 0, .string ⟨#[]⟩, .slice none 0 0] 26)).heap[w.heap.size]? = some (.cells #[.int .i64 0, .int .i64 0, .string ⟨#[]⟩, .slice none 0 0] 26 (0, 0)) := by
    have := World.alloc_heap_new (w.setCell ⟨R, 1, none⟩ (.int .i64 ((c : Int) + 1))) (.cells #[.int .i64 0, .int .i64 0, .string ⟨#[]⟩, .slice none 0 0] 26)
    rw [show (w.setCell ⟨R, 1, none⟩ (.int .i64 ((c : Int) + 1))).heap.size = w.heap.size by simp] at this
    exact this
  have hRne : w.heap.size ≠ R := by omega
  have hC := rdecode_any s at0 ((w.setCell ⟨R, 1, none⟩ (.int .i64 ((c : Int) + 1))).alloc (.cells #[.int .i64 0, .int .i64 0, .string ⟨#[]⟩, .slice none 0 0] 26)) hs
  rw [hD] at hC
  have HC := Lib.hid hC
  have HS1 := Lib.hid hS1
  have HF1 := Lib.hid hF1
  have HA0 := Lib.hid hA0
  have b1 : decide (60 < (c : Int) + 1) = false := by simp; omega
  have b2 : decide (6 < (d : Int)) = false := by simp; omega
  clear hS hS1 hF1 hA0 hC hD
  have b3 : decide (600 < n) = false := by simpa using hn
  have HK := Lib.hid hK
  clear hn hK
  go_enter Tryz.func56, Tryz.ntmps56
  go_wp2_with fail
  refine HC.out.mono ?_
  clear HC
  rintro e' w1 ⟨rfl, hb1⟩
  have hA1 := (hb1.block _ (lt_of_heap HA0.out)).trans HA0.out
  have hz1 : w.heap.size < w1.heap.size := lt_of_heap hA1
  have hz1n : w.heap.size ≠ w1.heap.size := by omega
  have hS2 := HS1.out.below hb1
  have hRl := hS2.lt
  have HS2 := Lib.hid hS2
  have HF2 := Lib.hid (HF1.out.trans (Fr.below hb1))
  have HA1 := Lib.hid hA1
  have k0 := heap_cell hA1 0 _ rfl
  have f0 := heap_frozen hA1 0
  have k1 := heap_cell hA1 1 _ rfl
  have f1 := heap_frozen hA1 1
  have k2 := heap_cell hA1 2 _ rfl
  have f2 := heap_frozen hA1 2
  have k3 := heap_cell hA1 3 _ rfl
  have f3 := heap_frozen hA1 3
  have t0 := hS2.c0
  clear hb1 hA1 hS2 HF1 HS1 HA0 r0 r1 q1
  go_wp2_with fail
  refine (refCut_any s b n _ (by omega) (by omega)).mono ?_
  rintro e' w' ⟨rfl, rfl⟩
  rw [HK.out]
  go_wp2_with fail
  refine bodyPost_ret (v := .tuple #[.agg #[.int .i64 0, .int .i64 0, .string ⟨#[]⟩, .slice none 0 0], .int .i64 0, .int .i64 11]) (by simp [results, Tryz.results56, go_sem, k0, k1, k2, k3, hz1, Nat.lt_succ_of_lt hz1, Nat.ne_of_lt hz1]) rfl ⟨rfl, ?_⟩
  exact frAlloc (frNew (frNew (frNew (frNew HF2.out (Nat.le_refl _) _ _) (Nat.le_refl _) _ _) (Nat.le_refl _) _ _) (Nat.le_refl _) _ _) _

set_option maxRecDepth 100000 in
set_option maxHeartbeats 2000000 in
theorem rr_data (R : Nat) (s : ByteArray) (at0 : Int) (c d : Nat) (w : World) (hS : RdR R s (c : Int) w) (n b : Int) (q : ByteArray) (r : List UInt8) (hs : s.size ≤ 1000000) (hc : c < 60) (hd : d ≤ 6) (hD : hdecR s at0 = (2, n, b, 0)) (hn : n ≤ 600) (hn0 : 0 ≤ n) (hb0 : 0 ≤ b) (hb1 : b ≤ 1000000) (hK : cutR s b n = (q, 0)) (hq : q.size ≤ maxLen) (hb : ((s.size - r.length : Nat) : Int) = b + n) :
    Calls Tryz.prog 56 #[.pointer (some ⟨R, 0, none⟩), .int .i64 at0, .int .i64 (d : Int)] w (RefR R s w (.ok (.mk 2 0 q.data.toList [], r, c + 1))) := by
  have hl := hS.lt
  have r0 := hS.c0
  have r1 := hS.c1
  have q1 := hS.f1
  have hS1 := (hS.count ((c : Int) + 1)).below ((Below.refl _ _).alloc (Nat.le_refl _) (.cells #[.int .i64 0, .int .i64 0, .string ⟨#[]⟩, .slice none 0 0] 26))
  have hF1 : Fr R w ((w.setCell ⟨R, 1, none⟩ (.int .i64 ((c : Int) + 1))).alloc (.cells #[.int .i64 0, .int .i64 0, .string ⟨#[]⟩, .slice none 0 0] 26)) := frAlloc (Fr.set R 1 w _) _
  have hA0 : ((w.setCell ⟨R, 1, none⟩ (.int .i64 ((c : Int) + 1))).alloc (.cells #[.int .i64 0, .int .i64 0, .string ⟨#[]⟩, .slice none 0 0] 26)).heap[w.heap.size]? = some (.cells #[.int .i64 0, .int .i64 0, .string ⟨#[]⟩, .slice none 0 0] 26 (0, 0)) := by
    have := World.alloc_heap_new (w.setCell ⟨R, 1, none⟩ (.int .i64 ((c : Int) + 1))) (.cells #[.int .i64 0, .int .i64 0, .string ⟨#[]⟩, .slice none 0 0] 26)
    rw [show (w.setCell ⟨R, 1, none⟩ (.int .i64 ((c : Int) + 1))).heap.size = w.heap.size by simp] at this
    exact this
  have hRne : w.heap.size ≠ R := by omega
  have hC := rdecode_any s at0 ((w.setCell ⟨R, 1, none⟩ (.int .i64 ((c : Int) + 1))).alloc (.cells #[.int .i64 0, .int .i64 0, .string ⟨#[]⟩, .slice none 0 0] 26)) hs
  rw [hD] at hC
  have HC := Lib.hid hC
  have HS1 := Lib.hid hS1
  have HF1 := Lib.hid hF1
  have HA0 := Lib.hid hA0
  have b1 : decide (60 < (c : Int) + 1) = false := by simp; omega
  have b2 : decide (6 < (d : Int)) = false := by simp; omega
  clear hS hS1 hF1 hA0 hC hD
  have b3 : decide (600 < n) = false := by simpa using hn
  have HK := Lib.hid hK
  have HQ := Lib.hid hq
  have HB := Lib.hid hb
  clear hK hq hb
  go_enter Tryz.func56, Tryz.ntmps56
  go_wp2_with fail
  refine HC.out.mono ?_
  clear HC
  rintro e' w1 ⟨rfl, hb1⟩
  have hA1 := (hb1.block _ (lt_of_heap HA0.out)).trans HA0.out
  have hz1 : w.heap.size < w1.heap.size := lt_of_heap hA1
  have hz1n : w.heap.size ≠ w1.heap.size := by omega
  have hS2 := HS1.out.below hb1
  have hRl := hS2.lt
  have HS2 := Lib.hid hS2
  have HF2 := Lib.hid (HF1.out.trans (Fr.below hb1))
  have HA1 := Lib.hid hA1
  have k0 := heap_cell hA1 0 _ rfl
  have f0 := heap_frozen hA1 0
  have k1 := heap_cell hA1 1 _ rfl
  have f1 := heap_frozen hA1 1
  have k2 := heap_cell hA1 2 _ rfl
  have f2 := heap_frozen hA1 2
  have k3 := heap_cell hA1 3 _ rfl
  have f3 := heap_frozen hA1 3
  have t0 := hS2.c0
  clear hb1 hA1 hS2 HF1 HS1 HA0 r0 r1 q1
  go_wp2_with fail
  refine (refCut_any s b n _ (by omega) (by omega)).mono ?_
  rintro e' w' ⟨rfl, rfl⟩
  rw [HK.out]
  go_wp2_with fail
  refine bodyPost_ret (v := .tuple #[.agg #[.int .i64 2, .int .i64 0, .string q, .slice none 0 0], .int .i64 (b + n), .int .i64 0]) (by simp [results, Tryz.results56, go_sem, k0, k1, k2, k3, hz1, Nat.lt_succ_of_lt hz1, Nat.ne_of_lt hz1]) rfl ?_
  unfold RefR
  refine ⟨2, 0, q, none, 0, 0, by rw [HB.out], ItV.leaf 2 0 q HQ.out (by decide) (by decide), ?_, ?_⟩
  · rw [show ((c + 1 : Nat) : Int) = (c : Int) + 1 by omega]
    exact ((((HS2.out.other hRne _ _).other hRne _ _).other hRne _ _).other hRne _ _).below ((Below.refl _ _).alloc (Nat.le_refl _) _)
  · exact frAlloc (frNew (frNew (frNew (frNew HF2.out (Nat.le_refl _) _ _) (Nat.le_refl _) _ _) (Nat.le_refl _) _ _) (Nat.le_refl _) _ _) _

set_option maxRecDepth 100000 in
set_option maxHeartbeats 2000000 in
theorem rr_text (R : Nat) (s : ByteArray) (at0 : Int) (c d : Nat) (w : World) (hS : RdR R s (c : Int) w) (n b : Int) (q : ByteArray) (r : List UInt8) (hs : s.size ≤ 1000000) (hc : c < 60) (hd : d ≤ 6) (hD : hdecR s at0 = (3, n, b, 0)) (hn : n ≤ 600) (hn0 : 0 ≤ n) (hb0 : 0 ≤ b) (hb1 : b ≤ 1000000) (hK : cutR s b n = (q, 0)) (hq : q.size ≤ maxLen) (hb : ((s.size - r.length : Nat) : Int) = b + n) (ht : txtB q.data.toList = true) :
    Calls Tryz.prog 56 #[.pointer (some ⟨R, 0, none⟩), .int .i64 at0, .int .i64 (d : Int)] w (RefR R s w (.ok (.mk 3 0 q.data.toList [], r, c + 1))) := by
  have hl := hS.lt
  have r0 := hS.c0
  have r1 := hS.c1
  have q1 := hS.f1
  have hS1 := (hS.count ((c : Int) + 1)).below ((Below.refl _ _).alloc (Nat.le_refl _) (.cells #[.int .i64 0, .int .i64 0, .string ⟨#[]⟩, .slice none 0 0] 26))
  have hF1 : Fr R w ((w.setCell ⟨R, 1, none⟩ (.int .i64 ((c : Int) + 1))).alloc (.cells #[.int .i64 0, .int .i64 0, .string ⟨#[]⟩, .slice none 0 0] 26)) := frAlloc (Fr.set R 1 w _) _
  have hA0 : ((w.setCell ⟨R, 1, none⟩ (.int .i64 ((c : Int) + 1))).alloc (.cells #[.int .i64 0, .int .i64 0, .string ⟨#[]⟩, .slice none 0 0] 26)).heap[w.heap.size]? = some (.cells #[.int .i64 0, .int .i64 0, .string ⟨#[]⟩, .slice none 0 0] 26 (0, 0)) := by
    have := World.alloc_heap_new (w.setCell ⟨R, 1, none⟩ (.int .i64 ((c : Int) + 1))) (.cells #[.int .i64 0, .int .i64 0, .string ⟨#[]⟩, .slice none 0 0] 26)
    rw [show (w.setCell ⟨R, 1, none⟩ (.int .i64 ((c : Int) + 1))).heap.size = w.heap.size by simp] at this
    exact this
  have hRne : w.heap.size ≠ R := by omega
  have hC := rdecode_any s at0 ((w.setCell ⟨R, 1, none⟩ (.int .i64 ((c : Int) + 1))).alloc (.cells #[.int .i64 0, .int .i64 0, .string ⟨#[]⟩, .slice none 0 0] 26)) hs
  rw [hD] at hC
  have HC := Lib.hid hC
  have HS1 := Lib.hid hS1
  have HF1 := Lib.hid hF1
  have HA0 := Lib.hid hA0
  have b1 : decide (60 < (c : Int) + 1) = false := by simp; omega
  have b2 : decide (6 < (d : Int)) = false := by simp; omega
  clear hS hS1 hF1 hA0 hC hD
  have b3 : decide (600 < n) = false := by simpa using hn
  have HK := Lib.hid hK
  have HQ := Lib.hid hq
  have HB := Lib.hid hb
  have HT := Lib.hid ht
  clear hK hq hb ht
  go_enter Tryz.func56, Tryz.ntmps56
  go_wp2_with fail
  refine HC.out.mono ?_
  clear HC
  rintro e' w1 ⟨rfl, hb1⟩
  have hA1 := (hb1.block _ (lt_of_heap HA0.out)).trans HA0.out
  have hz1 : w.heap.size < w1.heap.size := lt_of_heap hA1
  have hz1n : w.heap.size ≠ w1.heap.size := by omega
  have hS2 := HS1.out.below hb1
  have hRl := hS2.lt
  have HS2 := Lib.hid hS2
  have HF2 := Lib.hid (HF1.out.trans (Fr.below hb1))
  have HA1 := Lib.hid hA1
  have k0 := heap_cell hA1 0 _ rfl
  have f0 := heap_frozen hA1 0
  have k1 := heap_cell hA1 1 _ rfl
  have f1 := heap_frozen hA1 1
  have k2 := heap_cell hA1 2 _ rfl
  have f2 := heap_frozen hA1 2
  have k3 := heap_cell hA1 3 _ rfl
  have f3 := heap_frozen hA1 3
  have t0 := hS2.c0
  clear hb1 hA1 hS2 HF1 HS1 HA0 r0 r1 q1
  go_wp2_with fail
  refine (refCut_any s b n _ (by omega) (by omega)).mono ?_
  rintro e' w' ⟨rfl, rfl⟩
  rw [HK.out]
  go_wp2_with fail
  refine (refText_any q _ HQ.out).mono ?_
  rintro e' w' ⟨rfl, rfl⟩
  rw [HT.out]
  go_wp2_with fail
  refine bodyPost_ret (v := .tuple #[.agg #[.int .i64 3, .int .i64 0, .string q, .slice none 0 0], .int .i64 (b + n), .int .i64 0]) (by simp [results, Tryz.results56, go_sem, k0, k1, k2, k3, hz1, Nat.lt_succ_of_lt hz1, Nat.ne_of_lt hz1]) rfl ?_
  unfold RefR
  refine ⟨3, 0, q, none, 0, 0, by rw [HB.out], ItV.leaf 3 0 q HQ.out (by decide) (by decide), ?_, ?_⟩
  · rw [show ((c + 1 : Nat) : Int) = (c : Int) + 1 by omega]
    exact ((((HS2.out.other hRne _ _).other hRne _ _).other hRne _ _).other hRne _ _).below ((Below.refl _ _).alloc (Nat.le_refl _) _)
  · exact frAlloc (frNew (frNew (frNew (frNew HF2.out (Nat.le_refl _) _ _) (Nat.le_refl _) _ _) (Nat.le_refl _) _ _) (Nat.le_refl _) _ _) _

set_option maxRecDepth 100000 in
set_option maxHeartbeats 2000000 in
theorem rr_textno (R : Nat) (s : ByteArray) (at0 : Int) (c d : Nat) (w : World) (hS : RdR R s (c : Int) w) (n b : Int) (q : ByteArray) (hs : s.size ≤ 1000000) (hc : c < 60) (hd : d ≤ 6) (hD : hdecR s at0 = (3, n, b, 0)) (hn : n ≤ 600) (hb1 : b ≤ 1000000) (hK : cutR s b n = (q, 0)) (hq : q.size ≤ maxLen) (ht : txtB q.data.toList = false) :
    Calls Tryz.prog 56 #[.pointer (some ⟨R, 0, none⟩), .int .i64 at0, .int .i64 (d : Int)] w (RefR R s w (.error 20)) := by
  have hl := hS.lt
  have r0 := hS.c0
  have r1 := hS.c1
  have q1 := hS.f1
  have hS1 := (hS.count ((c : Int) + 1)).below ((Below.refl _ _).alloc (Nat.le_refl _) (.cells #[.int .i64 0, .int .i64 0, .string ⟨#[]⟩, .slice none 0 0] 26))
  have hF1 : Fr R w ((w.setCell ⟨R, 1, none⟩ (.int .i64 ((c : Int) + 1))).alloc (.cells #[.int .i64 0, .int .i64 0, .string ⟨#[]⟩, .slice none 0 0] 26)) := frAlloc (Fr.set R 1 w _) _
  have hA0 : ((w.setCell ⟨R, 1, none⟩ (.int .i64 ((c : Int) + 1))).alloc (.cells #[.int .i64 0, .int .i64 0, .string ⟨#[]⟩, .slice none 0 0] 26)).heap[w.heap.size]? = some (.cells #[.int .i64 0, .int .i64 0, .string ⟨#[]⟩, .slice none 0 0] 26 (0, 0)) := by
    have := World.alloc_heap_new (w.setCell ⟨R, 1, none⟩ (.int .i64 ((c : Int) + 1))) (.cells #[.int .i64 0, .int .i64 0, .string ⟨#[]⟩, .slice none 0 0] 26)
    rw [show (w.setCell ⟨R, 1, none⟩ (.int .i64 ((c : Int) + 1))).heap.size = w.heap.size by simp] at this
    exact this
  have hRne : w.heap.size ≠ R := by omega
  have hC := rdecode_any s at0 ((w.setCell ⟨R, 1, none⟩ (.int .i64 ((c : Int) + 1))).alloc (.cells #[.int .i64 0, .int .i64 0, .string ⟨#[]⟩, .slice none 0 0] 26)) hs
  rw [hD] at hC
  have HC := Lib.hid hC
  have HS1 := Lib.hid hS1
  have HF1 := Lib.hid hF1
  have HA0 := Lib.hid hA0
  have b1 : decide (60 < (c : Int) + 1) = false := by simp; omega
  have b2 : decide (6 < (d : Int)) = false := by simp; omega
  clear hS hS1 hF1 hA0 hC hD
  have b3 : decide (600 < n) = false := by simpa using hn
  have HK := Lib.hid hK
  have HQ := Lib.hid hq
  have HT := Lib.hid ht
  clear hK hq ht hn
  go_enter Tryz.func56, Tryz.ntmps56
  go_wp2_with fail
  refine HC.out.mono ?_
  clear HC
  rintro e' w1 ⟨rfl, hb1⟩
  have hA1 := (hb1.block _ (lt_of_heap HA0.out)).trans HA0.out
  have hz1 : w.heap.size < w1.heap.size := lt_of_heap hA1
  have hz1n : w.heap.size ≠ w1.heap.size := by omega
  have hS2 := HS1.out.below hb1
  have hRl := hS2.lt
  have HS2 := Lib.hid hS2
  have HF2 := Lib.hid (HF1.out.trans (Fr.below hb1))
  have HA1 := Lib.hid hA1
  have k0 := heap_cell hA1 0 _ rfl
  have f0 := heap_frozen hA1 0
  have k1 := heap_cell hA1 1 _ rfl
  have f1 := heap_frozen hA1 1
  have k2 := heap_cell hA1 2 _ rfl
  have f2 := heap_frozen hA1 2
  have k3 := heap_cell hA1 3 _ rfl
  have f3 := heap_frozen hA1 3
  have t0 := hS2.c0
  clear hb1 hA1 hS2 HF1 HS1 HA0 r0 r1 q1
  go_wp2_with fail
  refine (refCut_any s b n _ (by omega) (by omega)).mono ?_
  rintro e' w' ⟨rfl, rfl⟩
  rw [HK.out]
  go_wp2_with fail
  refine (refText_any q _ HQ.out).mono ?_
  rintro e' w' ⟨rfl, rfl⟩
  rw [HT.out]
  go_wp2_with fail
  refine bodyPost_ret (v := .tuple #[.agg #[.int .i64 0, .int .i64 0, .string ⟨#[]⟩, .slice none 0 0], .int .i64 0, .int .i64 20]) (by simp [results, Tryz.results56, go_sem, k0, k1, k2, k3, hz1, Nat.lt_succ_of_lt hz1, Nat.ne_of_lt hz1]) rfl ⟨rfl, ?_⟩
  exact frAlloc (frNew (frNew (frNew (frNew HF2.out (Nat.le_refl _) _ _) (Nat.le_refl _) _ _) (Nat.le_refl _) _ _) (Nat.le_refl _) _ _) _

end Go.Proofs.YtmbmolgkccjedaaGreatDoor
