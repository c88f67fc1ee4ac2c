/- The document's read of items: by what is read. -/
import Derived.Test.YtljfgchmogdljaaGreatDoorG8
set_option linter.unusedVariables false
set_option linter.unusedSimpArgs false
namespace Go.Proofs.YtljfgchmogdljaaGreatDoor
open Go.RowKit

/-- The document's reader in memory: its text, how many items it began. -/
structure RdR (R : Nat) (s : ByteArray) (c : Int) (W : World) : Prop where
  c0 : W.cell? ⟨R, 0, none⟩ = some (.string s)
  c1 : W.cell? ⟨R, 1, none⟩ = some (.int .i64 c)
  f0 : W.frozen? ⟨R, 0, none⟩ = false
  f1 : W.frozen? ⟨R, 1, none⟩ = false
theorem RdR.lt {R : Nat} {s : ByteArray} {c : Int} {W : World} (h : RdR R s c W) : R < W.heap.size := World.block_lt_of_cell? _ _ h.c0
theorem RdR.heap {R : Nat} {s : ByteArray} {c : Int} {W W' : World} (h : RdR R s c W) (e : W'.heap[R]? = W.heap[R]?) : RdR R s c W' :=
  ⟨(cell_heap (p := ⟨R, 0, none⟩) e).trans h.c0, (cell_heap (p := ⟨R, 1, none⟩) e).trans h.c1, (frozen_heap (p := ⟨R, 0, none⟩) e).trans h.f0, (frozen_heap (p := ⟨R, 1, none⟩) e).trans h.f1⟩
theorem RdR.below {R : Nat} {s : ByteArray} {c : Int} {W W' : World} (h : RdR R s c W) (hb : Below W.heap.size W W') : RdR R s c W' := h.heap (hb.block _ h.lt)
theorem RdR.other {R : Nat} {s : ByteArray} {c : Int} {W : World} (h : RdR R s c W) {b : Nat} (hb : b ≠ R) (o : Nat) (v : Value) : RdR R s c (W.setCell ⟨b, o, none⟩ v) := h.heap (Below.heap_setCell _ _ _ _ (fun e => hb e.symm))
theorem RdR.count {R : Nat} {s : ByteArray} {c : Int} {W : World} (h : RdR R s c W) (x : Int) : RdR R s x (W.setCell ⟨R, 1, none⟩ (.int .i64 x)) := by
  have h0 := h.c0
  have h1 := h.c1
  have g0 := h.f0
  have g1 := h.f1
  constructor <;> simp [go_sem, *]
theorem RdR.of_heap {R : Nat} {s : ByteArray} {c : Int} {t : TypeId} {W : World} (h : W.heap[R]? = some (.cells #[.string s, .int .i64 c] t (0, 0))) : RdR R s c W :=
  ⟨heap_cell h 0 _ rfl, heap_cell h 1 _ rfl, heap_frozen h 0, heap_frozen h 1⟩

/-- What the document's read answers, of what is read. -/
def RefR (R : Nat) (s : ByteArray) (W : World) (t : Except Int (Itm × List UInt8 × Nat)) (e' : Ending) (w' : World) : Prop :=
  match t with
  | .error e => e' = .returned (.tuple #[.agg #[.int .i64 0, .int .i64 0, .string ⟨#[]⟩, .slice none 0 0], .int .i64 0, .int .i64 e]) ∧ Fr R W w'
  | .ok (x, r, c') => ∃ (k nn : Int) (q : ByteArray) (p : Option Addr) (l cap : Nat), e' = .returned (.tuple #[.agg #[.int .i64 k, .int .i64 nn, .string q, .slice p l cap], .int .i64 ((s.size - r.length : Nat) : Int), .int .i64 0]) ∧ ItV (fun b => W.heap.size ≤ b) w' x (.agg #[.int .i64 k, .int .i64 nn, .string q, .slice p l cap]) ∧ RdR R s (c' : Int) w' ∧ Fr R W w'

set_option maxRecDepth 100000 in
set_option maxHeartbeats 2000000 in
theorem rr_full (R : Nat) (s : ByteArray) (at0 : Int) (c d : Nat) (w : World) (hS : RdR R s (c : Int) w) (hc : c ≤ 60) (hd : d ≤ 7) (h : 60 ≤ c ∨ 7 ≤ d) :
    Calls Tryz.prog 30 #[.pointer (some ⟨R, 0, none⟩), .int .i64 at0, .int .i64 (d : Int)] w (RefR R s w (.error 40)) := by
  have hl := hS.lt
  have r0 := hS.c0
  have r1 := hS.c1
  have q1 := hS.f1
  have hS1 := (hS.count ((c : Int) + 1)).below ((Below.refl _ _).alloc (Nat.le_refl _) (.cells #[.int .i64 0, .int .i64 0, .string ⟨#[]⟩, .slice none 0 0] 24))
  have hF1 : Fr R w ((w.setCell ⟨R, 1, none⟩ (.int .i64 ((c : Int) + 1))).alloc (.cells #[.int .i64 0, .int .i64 0, .string ⟨#[]⟩, .slice none 0 0] 24)) := frAlloc (Fr.set R 1 w _) _
  have hA0 : ((w.setCell ⟨R, 1, none⟩ (.int .i64 ((c : Int) + 1))).alloc (.cells #[.int .i64 0, .int .i64 0, .string ⟨#[]⟩, .slice none 0 0] 24)).heap[w.heap.size]? = some (.cells #[.int .i64 0, .int .i64 0, .string ⟨#[]⟩, .slice none 0 0] 24 (0, 0)) := by
    have := World.alloc_heap_new (w.setCell ⟨R, 1, none⟩ (.int .i64 ((c : Int) + 1))) (.cells #[.int .i64 0, .int .i64 0, .string ⟨#[]⟩, .slice none 0 0] 24)
    rw [show (w.setCell ⟨R, 1, none⟩ (.int .i64 ((c : Int) + 1))).heap.size = w.heap.size by simp] at this
    exact this
  have hRne : w.heap.size ≠ R := by omega
  have HF1 := Lib.hid hF1
  have hw : ∃ b1 b2 : Bool, decide (60 < (c : Int) + 1) = b1 ∧ decide (6 < (d : Int)) = b2 ∧ (b1 = true ∨ b1 = false ∧ b2 = true) := ⟨_, _, rfl, rfl, by simp; omega⟩
  obtain ⟨b1, b2, hb1, hb2, hb⟩ := hw
  clear hS hS1 hF1 hA0 h
  rcases hb with rfl | ⟨rfl, rfl⟩
  all_goals
    go_enter Tryz.func30, Tryz.ntmps30
    go_wp2_with fail
    refine bodyPost_ret (v := .tuple #[.agg #[.int .i64 0, .int .i64 0, .string ⟨#[]⟩, .slice none 0 0], .int .i64 0, .int .i64 40]) (by simp [results, Tryz.results30, go_sem]) rfl ⟨rfl, ?_⟩
    exact HF1.out

set_option maxRecDepth 100000 in
set_option maxHeartbeats 2000000 in
theorem rr_err (R : Nat) (s : ByteArray) (at0 : Int) (c d : Nat) (w : World) (hS : RdR R s (c : Int) w) (m n b e : Int) (hs : s.size ≤ 1000000) (hc : c < 60) (hd : d ≤ 6) (hD : hdecR s at0 = (m, n, b, e)) (he : e ≠ 0) :
    Calls Tryz.prog 30 #[.pointer (some ⟨R, 0, none⟩), .int .i64 at0, .int .i64 (d : Int)] w (RefR R s w (.error e)) := by
  have hl := hS.lt
  have r0 := hS.c0
  have r1 := hS.c1
  have q1 := hS.f1
  have hS1 := (hS.count ((c : Int) + 1)).below ((Below.refl _ _).alloc (Nat.le_refl _) (.cells #[.int .i64 0, .int .i64 0, .string ⟨#[]⟩, .slice none 0 0] 24))
  have hF1 : Fr R w ((w.setCell ⟨R, 1, none⟩ (.int .i64 ((c : Int) + 1))).alloc (.cells #[.int .i64 0, .int .i64 0, .string ⟨#[]⟩, .slice none 0 0] 24)) := frAlloc (Fr.set R 1 w _) _
  have hA0 : ((w.setCell ⟨R, 1, none⟩ (.int .i64 ((c : Int) + 1))).alloc (.cells #[.int .i64 0, .int .i64 0, .string ⟨#[]⟩, .slice none 0 0] 24)).heap[w.heap.size]? = some (.cells #[.int .i64 0, .int .i64 0, .string ⟨#[]⟩, .slice none 0 0] 24 (0, 0)) := by
    have := World.alloc_heap_new (w.setCell ⟨R, 1, none⟩ (.int .i64 ((c : Int) + 1))) (.cells #[.int .i64 0, .int .i64 0, .string ⟨#[]⟩, .slice none 0 0] 24)
    rw [show (w.setCell ⟨R, 1, none⟩ (.int .i64 ((c : Int) + 1))).heap.size = w.heap.size by simp] at this
    exact this
  have hRne : w.heap.size ≠ R := by omega
  have hC := rdecode_any s at0 ((w.setCell ⟨R, 1, none⟩ (.int .i64 ((c : Int) + 1))).alloc (.cells #[.int .i64 0, .int .i64 0, .string ⟨#[]⟩, .slice none 0 0] 24)) hs
  rw [hD] at hC
  have HC := Lib.hid hC
  have HS1 := Lib.hid hS1
  have HF1 := Lib.hid hF1
  have HA0 := Lib.hid hA0
  have b1 : decide (60 < (c : Int) + 1) = false := by simp; omega
  have b2 : decide (6 < (d : Int)) = false := by simp; omega
  clear hS hS1 hF1 hA0 hC hD
  have b3 : (e != 0) = true := by simpa using he
  clear he
  go_enter Tryz.func30, Tryz.ntmps30
  go_wp2_with fail
  refine HC.out.mono ?_
  clear HC
  rintro e' w1 ⟨rfl, hb1⟩
  have hA1 := (hb1.block _ (lt_of_heap HA0.out)).trans HA0.out
  have hz1 : w.heap.size < w1.heap.size := lt_of_heap hA1
  have hz1n : w.heap.size ≠ w1.heap.size := by omega
  have hS2 := HS1.out.below hb1
  have hRl := hS2.lt
  have HS2 := Lib.hid hS2
  have HF2 := Lib.hid (HF1.out.trans (Fr.below hb1))
  have HA1 := Lib.hid hA1
  have k0 := heap_cell hA1 0 _ rfl
  have f0 := heap_frozen hA1 0
  have k1 := heap_cell hA1 1 _ rfl
  have f1 := heap_frozen hA1 1
  have k2 := heap_cell hA1 2 _ rfl
  have f2 := heap_frozen hA1 2
  have k3 := heap_cell hA1 3 _ rfl
  have f3 := heap_frozen hA1 3
  have t0 := hS2.c0
  clear hb1 hA1 hS2 HF1 HS1 HA0 r0 r1 q1
  go_wp2_with fail
  refine bodyPost_ret (v := .tuple #[.agg #[.int .i64 0, .int .i64 0, .string ⟨#[]⟩, .slice none 0 0], .int .i64 0, .int .i64 e]) (by simp [results, Tryz.results30, go_sem, k0, k1, k2, k3]) rfl ⟨rfl, ?_⟩
  exact frNew (frNew (frNew (frNew HF2.out (Nat.le_refl _) _ _) (Nat.le_refl _) _ _) (Nat.le_refl _) _ _) (Nat.le_refl _) _ _

set_option maxRecDepth 100000 in
set_option maxHeartbeats 2000000 in
theorem rr_num (R : Nat) (s : ByteArray) (at0 : Int) (c d : Nat) (w : World) (hS : RdR R s (c : Int) w) (n : Nat) (b : Int) (r : List UInt8) (hs : s.size ≤ 1000000) (hc : c < 60) (hd : d ≤ 6) (hD : hdecR s at0 = (0, (n : Int), b, 0)) (hn : n ≤ 281474976710655) (hb : ((s.size - r.length : Nat) : Int) = b) :
    Calls Tryz.prog 30 #[.pointer (some ⟨R, 0, none⟩), .int .i64 at0, .int .i64 (d : Int)] w (RefR R s w (.ok (.mk 0 n [] [], r, c + 1))) := by
  have hl := hS.lt
  have r0 := hS.c0
  have r1 := hS.c1
  have q1 := hS.f1
  have hS1 := (hS.count ((c : Int) + 1)).below ((Below.refl _ _).alloc (Nat.le_refl _) (.cells #[.int .i64 0, .int .i64 0, .string ⟨#[]⟩, .slice none 0 0] 24))
  have hF1 : Fr R w ((w.setCell ⟨R, 1, none⟩ (.int .i64 ((c : Int) + 1))).alloc (.cells #[.int .i64 0, .int .i64 0, .string ⟨#[]⟩, .slice none 0 0] 24)) := frAlloc (Fr.set R 1 w _) _
  have hA0 : ((w.setCell ⟨R, 1, none⟩ (.int .i64 ((c : Int) + 1))).alloc (.cells #[.int .i64 0, .int .i64 0, .string ⟨#[]⟩, .slice none 0 0] 24)).heap[w.heap.size]? = some (.cells #[.int .i64 0, .int .i64 0, .string ⟨#[]⟩, .slice none 0 0] 24 (0, 0)) := by
    have := World.alloc_heap_new (w.setCell ⟨R, 1, none⟩ (.int .i64 ((c : Int) + 1))) (.cells #[.int .i64 0, .int .i64 0, .string ⟨#[]⟩, .slice none 0 0] 24)
    rw [show (w.setCell ⟨R, 1, none⟩ (.int .i64 ((c : Int) + 1))).heap.size = w.heap.size by simp] at this
    exact this
  have hRne : w.heap.size ≠ R := by omega
  have hC := rdecode_any s at0 ((w.setCell ⟨R, 1, none⟩ (.int .i64 ((c : Int) + 1))).alloc (.cells #[.int .i64 0, .int .i64 0, .string ⟨#[]⟩, .slice none 0 0] 24)) hs
  rw [hD] at hC
  have HC := Lib.hid hC
  have HS1 := Lib.hid hS1
  have HF1 := Lib.hid hF1
  have HA0 := Lib.hid hA0
  have b1 : decide (60 < (c : Int) + 1) = false := by simp; omega
  have b2 : decide (6 < (d : Int)) = false := by simp; omega
  clear hS hS1 hF1 hA0 hC hD
  have HN := Lib.hid hn
  have HB := Lib.hid hb
  clear hn hb
  go_enter Tryz.func30, Tryz.ntmps30
  go_wp2_with fail
  refine HC.out.mono ?_
  clear HC
  rintro e' w1 ⟨rfl, hb1⟩
  have hA1 := (hb1.block _ (lt_of_heap HA0.out)).trans HA0.out
  have hz1 : w.heap.size < w1.heap.size := lt_of_heap hA1
  have hz1n : w.heap.size ≠ w1.heap.size := by omega
  have hS2 := HS1.out.below hb1
  have hRl := hS2.lt
  have HS2 := Lib.hid hS2
  have HF2 := Lib.hid (HF1.out.trans (Fr.below hb1))
  have HA1 := Lib.hid hA1
  have k0 := heap_cell hA1 0 _ rfl
  have f0 := heap_frozen hA1 0
  have k1 := heap_cell hA1 1 _ rfl
  have f1 := heap_frozen hA1 1
  have k2 := heap_cell hA1 2 _ rfl
  have f2 := heap_frozen hA1 2
  have k3 := heap_cell hA1 3 _ rfl
  have f3 := heap_frozen hA1 3
  have t0 := hS2.c0
  clear hb1 hA1 hS2 HF1 HS1 HA0 r0 r1 q1
  go_wp2_with fail
  refine bodyPost_ret (v := .tuple #[.agg #[.int .i64 0, .int .i64 (n : Int), .string ⟨#[]⟩, .slice none 0 0], .int .i64 b, .int .i64 0]) (by simp [results, Tryz.results30, go_sem, k0, k1, k2, k3, hz1, Nat.lt_succ_of_lt hz1, Nat.ne_of_lt hz1]) rfl ?_
  unfold RefR
  refine ⟨0, n, ⟨#[]⟩, none, 0, 0, by rw [HB.out], ItV.leaf 0 n ⟨#[]⟩ (by decide) (by decide) (wf_nat HN.out), ?_, ?_⟩
  · rw [show ((c + 1 : Nat) : Int) = (c : Int) + 1 by omega]
    exact ((((HS2.out.other hRne _ _).other hRne _ _).other hRne _ _).other hRne _ _).below ((Below.refl _ _).alloc (Nat.le_refl _) _)
  · exact frAlloc (frNew (frNew (frNew (frNew HF2.out (Nat.le_refl _) _ _) (Nat.le_refl _) _ _) (Nat.le_refl _) _ _) (Nat.le_refl _) _ _) _

set_option maxRecDepth 100000 in
set_option maxHeartbeats 2000000 in
theorem rr_great2 (R : Nat) (s : ByteArray) (at0 : Int) (c d : Nat) (w : World) (hS : RdR R s (c : Int) w) (n b : Int) (hs : s.size ≤ 1000000) (hc : c < 60) (hd : d ≤ 6) (hD : hdecR s at0 = (2, n, b, 0)) (hn : 600 < n) :
    Calls Tryz.prog 30 #[.pointer (some ⟨R, 0, none⟩), .int .i64 at0, .int .i64 (d : Int)] w (RefR R s w (.error 40)) := by
  have hl := hS.lt
  have r0 := hS.c0
  have r1 := hS.c1
  have q1 := hS.f1
  have hS1 := (hS.count ((c : Int) + 1)).below ((Below.refl _ _).alloc (Nat.le_refl _) (.cells #[.int .i64 0, .int .i64 0, .string ⟨#[]⟩, .slice none 0 0] 24))
  have hF1 : Fr R w ((w.setCell ⟨R, 1, none⟩ (.int .i64 ((c : Int) + 1))).alloc (.cells #[.int .i64 0, .int .i64 0, .string ⟨#[]⟩, .slice none 0 0] 24)) := frAlloc (Fr.set R 1 w _) _
  have hA0 : ((w.setCell ⟨R, 1, none⟩ (.int .i64 ((c : Int) + 1))).alloc (.cells #[.int .i64 0, .int .i64 0, .string ⟨#[]⟩, .slice none 0 0] 24)).heap[w.heap.size]? = some (.cells #[.int .i64 0, .int .i64 0, .string ⟨#[]⟩, .slice none 0 0] 24 (0, 0)) := by
    have := World.alloc_heap_new (w.setCell ⟨R, 1, none⟩ (.int .i64 ((c : Int) + 1))) (.cells #[.int .i64 0, .int .i64 0, .string ⟨#[]⟩, .slice none 0 0] 24)
    rw [show (w.setCell ⟨R, 1, none⟩ (.int .i64 ((c : Int) + 1))).heap.size = w.heap.size by simp] at this
    exact this
  have hRne : w.heap.size ≠ R := by omega
  have hC := rdecode_any s at0 ((w.setCell ⟨R, 1, none⟩ (.int .i64 ((c : Int) + 1))).alloc (.cells #[.int .i64 0, .int .i64 0, .string ⟨#[]⟩, .slice none 0 0] 24)) hs
  rw [hD] at hC
  have HC := Lib.hid hC
  have HS1 := Lib.hid hS1
  have HF1 := Lib.hid hF1
  have HA0 := Lib.hid hA0
  have b1 : decide (60 < (c : Int) + 1) = false := by simp; omega
  have b2 : decide (6 < (d : Int)) = false := by simp; omega
  clear hS hS1 hF1 hA0 hC hD
  have b3 : decide (600 < n) = true := by simpa using hn
  clear hn
  go_enter Tryz.func30, Tryz.ntmps30
  go_wp2_with fail
  refine HC.out.mono ?_
  clear HC
  rintro e' w1 ⟨rfl, hb1⟩
  have hA1 := (hb1.block _ (lt_of_heap HA0.out)).trans HA0.out
  have hz1 : w.heap.size < w1.heap.size := lt_of_heap hA1
  have hz1n : w.heap.size ≠ w1.heap.size := by omega
  have hS2 := HS1.out.below hb1
  have hRl := hS2.lt
  have HS2 := Lib.hid hS2
  have HF2 := Lib.hid (HF1.out.trans (Fr.below hb1))
  have HA1 := Lib.hid hA1
  have k0 := heap_cell hA1 0 _ rfl
  have f0 := heap_frozen hA1 0
  have k1 := heap_cell hA1 1 _ rfl
  have f1 := heap_frozen hA1 1
  have k2 := heap_cell hA1 2 _ rfl
  have f2 := heap_frozen hA1 2
  have k3 := heap_cell hA1 3 _ rfl
  have f3 := heap_frozen hA1 3
  have t0 := hS2.c0
  clear hb1 hA1 hS2 HF1 HS1 HA0 r0 r1 q1
  go_wp2_with fail
  refine bodyPost_ret (v := .tuple #[.agg #[.int .i64 0, .int .i64 0, .string ⟨#[]⟩, .slice none 0 0], .int .i64 0, .int .i64 40]) (by simp [results, Tryz.results30, go_sem, k0, k1, k2, k3, hz1, Nat.lt_succ_of_lt hz1, Nat.ne_of_lt hz1]) rfl ⟨rfl, ?_⟩
  exact frAlloc (frNew (frNew (frNew (frNew HF2.out (Nat.le_refl _) _ _) (Nat.le_refl _) _ _) (Nat.le_refl _) _ _) (Nat.le_refl _) _ _) _

set_option maxRecDepth 100000 in
set_option maxHeartbeats 2000000 in
theorem rr_short2 (R : Nat) (s : ByteArray) (at0 : Int) (c d : Nat) (w : World) (hS : RdR R s (c : Int) w) (n b : Int) (hs : s.size ≤ 1000000) (hc : c < 60) (hd : d ≤ 6) (hD : hdecR s at0 = (2, n, b, 0)) (hn : n ≤ 600) (hb : b ≤ 1000000) (hK : cutR s b n = (⟨#[]⟩, 11)) :
    Calls Tryz.prog 30 #[.pointer (some ⟨R, 0, none⟩), .int .i64 at0, .int .i64 (d : Int)] w (RefR R s w (.error 11)) := by
  have hl := hS.lt
  have r0 := hS.c0
  have r1 := hS.c1
  have q1 := hS.f1
  have hS1 := (hS.count ((c : Int) + 1)).below ((Below.refl _ _).alloc (Nat.le_refl _) (.cells #[.int .i64 0, .int .i64 0, .string ⟨#[]⟩, .slice none 0 0] 24))
  have hF1 : Fr R w ((w.setCell ⟨R, 1, none⟩ (.int .i64 ((c : Int) + 1))).alloc (.cells #[.int .i64 0, .int .i64 0, .string ⟨#[]⟩, .slice none 0 0] 24)) := frAlloc (Fr.set R 1 w _) _
  have hA0 : ((w.setCell ⟨R, 1, none⟩ (.int .i64 ((c : Int) + 1))).alloc (.cells #[.int .i64 0, .int .i64 0, .string ⟨#[]⟩, .slice none 0 0] 24)).heap[w.heap.size]? = some (.cells #[.int .i64 0, .int .i64 0, .string ⟨#[]⟩, .slice none 0 0] 24 (0, 0)) := by
    have := World.alloc_heap_new (w.setCell ⟨R, 1, none⟩ (.int .i64 ((c : Int) + 1))) (.cells #[.int .i64 0, .int .i64 0, .string ⟨#[]⟩, .slice none 0 0] 24)
    rw [show (w.setCell ⟨R, 1, none⟩ (.int .i64 ((c : Int) + 1))).heap.size = w.heap.size by simp] at this
    exact this
  have hRne : w.heap.size ≠ R := by omega
  have hC := rdecode_any s at0 ((w.setCell ⟨R, 1, none⟩ (.int .i64 ((c : Int) + 1))).alloc (.cells #[.int .i64 0, .int .i64 0, .string ⟨#[]⟩, .slice none 0 0] 24)) hs
  rw [hD] at hC
  have HC := Lib.hid hC
  have HS1 := Lib.hid hS1
  have HF1 := Lib.hid hF1
  have HA0 := Lib.hid hA0
  have b1 : decide (60 < (c : Int) + 1) = false := by simp; omega
  have b2 : decide (6 < (d : Int)) = false := by simp; omega
  clear hS hS1 hF1 hA0 hC hD
  have b3 : decide (600 < n) = false := by simpa using hn
  have HK := Lib.hid hK
  clear hn hK
  go_enter Tryz.func30, Tryz.ntmps30
  go_wp2_with fail
  refine HC.out.mono ?_
  clear HC
  rintro e' w1 ⟨rfl, hb1⟩
  have hA1 := (hb1.block _ (lt_of_heap HA0.out)).trans HA0.out
  have hz1 : w.heap.size < w1.heap.size := lt_of_heap hA1
  have hz1n : w.heap.size ≠ w1.heap.size := by omega
  have hS2 := HS1.out.below hb1
  have hRl := hS2.lt
  have HS2 := Lib.hid hS2
  have HF2 := Lib.hid (HF1.out.trans (Fr.below hb1))
  have HA1 := Lib.hid hA1
  have k0 := heap_cell hA1 0 _ rfl
  have f0 := heap_frozen hA1 0
  have k1 := heap_cell hA1 1 _ rfl
  have f1 := heap_frozen hA1 1
  have k2 := heap_cell hA1 2 _ rfl
  have f2 := heap_frozen hA1 2
  have k3 := heap_cell hA1 3 _ rfl
  have f3 := heap_frozen hA1 3
  have t0 := hS2.c0
  clear hb1 hA1 hS2 HF1 HS1 HA0 r0 r1 q1
  go_wp2_with fail
  refine (refCut_any s b n _ (by omega) (by omega)).mono ?_
  rintro e' w' ⟨rfl, rfl⟩
  rw [HK.out]
  go_wp2_with fail
  refine bodyPost_ret (v := .tuple #[.agg #[.int .i64 0, .int .i64 0, .string ⟨#[]⟩, .slice none 0 0], .int .i64 0, .int .i64 11]) (by simp [results, Tryz.results30, go_sem, k0, k1, k2, k3, hz1, Nat.lt_succ_of_lt hz1, Nat.ne_of_lt hz1]) rfl ⟨rfl, ?_⟩
  exact frAlloc (frNew (frNew (frNew (frNew HF2.out (Nat.le_refl _) _ _) (Nat.le_refl _) _ _) (Nat.le_refl _) _ _) (Nat.le_refl _) _ _) _

set_option maxRecDepth 100000 in
set_option maxHeartbeats 2000000 in
theorem rr_great3 (R : Nat) (s : ByteArray) (at0 : Int) (c d : Nat) (w : World) (hS : RdR R s (c : Int) w) (n b : Int) (hs : s.size ≤ 1000000) (hc : c < 60) (hd : d ≤ 6) (hD : hdecR s at0 = (3, n, b, 0)) (hn : 600 < n) :
    Calls Tryz.prog 30 #[.pointer (some ⟨R, 0, none⟩), .int .i64 at0, .int .i64 (d : Int)] w (RefR R s w (.error 40)) := by
  have hl := hS.lt
  have r0 := hS.c0
  have r1 := hS.c1
  have q1 := hS.f1
  have hS1 := (hS.count ((c : Int) + 1)).below ((Below.refl _ _).alloc (Nat.le_refl _) (.cells #[.int .i64 0, .int .i64 0, .string ⟨#[]⟩, .slice none 0 0] 24))
  have hF1 : Fr R w ((w.setCell ⟨R, 1, none⟩ (.int .i64 ((c : Int) + 1))).alloc (.cells #[.int .i64 0, .int .i64 0, .string ⟨#[]⟩, .slice none 0 0] 24)) := frAlloc (Fr.set R 1 w _) _
  have hA0 : ((w.setCell ⟨R, 1, none⟩ (.int .i64 ((c : Int) + 1))).alloc (.cells #[.int .i64 0, .int .i64 0, .string ⟨#[]⟩, .slice none 0 0] 24)).heap[w.heap.size]? = some (.cells #[.int .i64 0, .int .i64 0, .string ⟨#[]⟩, .slice none 0 0] 24 (0, 0)) := by
    have := World.alloc_heap_new (w.setCell ⟨R, 1, none⟩ (.int .i64 ((c : Int) + 1))) (.cells #[.int .i64 0, .int .i64 0, .string ⟨#[]⟩, .slice none 0 0] 24)
    rw [show (w.setCell ⟨R, 1, none⟩ (.int .i64 ((c : Int) + 1))).heap.size = w.heap.size by simp] at this
    exact this
  have hRne : w.heap.size ≠ R := by omega
  have hC := rdecode_any s at0 ((w.setCell ⟨R, 1, none⟩ (.int .i64 ((c : Int) + 1))).alloc (.cells #[.int .i64 0, .int .i64 0, .string ⟨#[]⟩, .slice none 0 0] 24)) hs
  rw [hD] at hC
  have HC := Lib.hid hC
  have HS1 := Lib.hid hS1
  have HF1 := Lib.hid hF1
  have HA0 := Lib.hid hA0
  have b1 : decide (60 < (c : Int) + 1) = false := by simp; omega
  have b2 : decide (6 < (d : Int)) = false := by simp; omega
  clear hS hS1 hF1 hA0 hC hD
  have b3 : decide (600 < n) = true := by simpa using hn
  clear hn
  go_enter Tryz.func30, Tryz.ntmps30
  go_wp2_with fail
  refine HC.out.mono ?_
  clear HC
  rintro e' w1 ⟨rfl, hb1⟩
  have hA1 := (hb1.block _ (lt_of_heap HA0.out)).trans HA0.out
  have hz1 : w.heap.size < w1.heap.size := lt_of_heap hA1
  have hz1n : w.heap.size ≠ w1.heap.size := by omega
  have hS2 := HS1.out.below hb1
  have hRl := hS2.lt
  have HS2 := Lib.hid hS2
  have HF2 := Lib.hid (HF1.out.trans (Fr.below hb1))
  have HA1 := Lib.hid hA1
  have k0 := heap_cell hA1 0 _ rfl
  have f0 := heap_frozen hA1 0
  have k1 := heap_cell hA1 1 _ rfl
  have f1 := heap_frozen hA1 1
  have k2 := heap_cell hA1 2 _ rfl
  have f2 := heap_frozen hA1 2
  have k3 := heap_cell hA1 3 _ rfl
  have f3 := heap_frozen hA1 3
  have t0 := hS2.c0
  clear hb1 hA1 hS2 HF1 HS1 HA0 r0 r1 q1
  go_wp2_with fail
  refine bodyPost_ret (v := .tuple #[.agg #[.int .i64 0, .int .i64 0, .string ⟨#[]⟩, .slice none 0 0], .int .i64 0, .int .i64 40]) (by simp [results, Tryz.results30, go_sem, k0, k1, k2, k3, hz1, Nat.lt_succ_of_lt hz1, Nat.ne_of_lt hz1]) rfl ⟨rfl, ?_⟩
  exact frAlloc (frNew (frNew (frNew (frNew HF2.out (Nat.le_refl _) _ _) (Nat.le_refl _) _ _) (Nat.le_refl _) _ _) (Nat.le_refl _) _ _) _

set_option maxRecDepth 100000 in
set_option maxHeartbeats 2000000 in
theorem rr_short3 (R : Nat) (s : ByteArray) (at0 : Int) (c d : Nat) (w : World) (hS : RdR R s (c : Int) w) (n b : Int) (hs : s.size ≤ 1000000) (hc : c < 60) (hd : d ≤ 6) (hD : hdecR s at0 = (3, n, b, 0)) (hn : n ≤ 600) (hb : b ≤ 1000000) (hK : cutR s b n = (⟨#[]⟩, 11)) :
    Calls Tryz.prog 30 #[.pointer (some ⟨R, 0, none⟩), .int .i64 at0, .int .i64 (d : Int)] w (RefR R s w (.error 11)) := by
  have hl := hS.lt
  have r0 := hS.c0
  have r1 := hS.c1
  have q1 := hS.f1
  have hS1 := (hS.count ((c : Int) + 1)).below ((Below.refl _ _).alloc (Nat.le_refl _) (.cells #[.int .i64 0, .int .i64 0, .string ⟨#[]⟩, .slice none 0 0] 24))
  have hF1 : Fr R w ((w.setCell ⟨R, 1, none⟩ (.int .i64 ((c : Int) + 1))).alloc (.cells #[.int .i64 0, .int .i64 0, .string ⟨#[]⟩, .slice none 0 0] 24)) := frAlloc (Fr.set R 1 w _) _
  have hA0 : ((w.setCell ⟨R, 1, none⟩ (.int .i64 ((c : Int) + 1))).alloc (.cells #[.int .i64 0, .int .i64 0, .string ⟨#[]⟩, .slice none 0 0] 24)).heap[w.heap.size]? = some (.cells #[.int .i64 0, .int .i64 0, .string ⟨#[]⟩, .slice none 0 0] 24 (0, 0)) := by
    have := World.alloc_heap_new (w.setCell ⟨R, 1, none⟩ (.int .i64 ((c : Int) + 1))) (.cells #[.int .i64 0, .int .i64 0, .string ⟨#[]⟩, .slice none 0 0] 24)
    rw [show (w.setCell ⟨R, 1, none⟩ (.int .i64 ((c : Int) + 1))).heap.size = w.heap.size by simp] at this
    exact this
  have hRne : w.heap.size ≠ R := by omega
  have hC := rdecode_any s at0 ((w.setCell ⟨R, 1, none⟩ (.int .i64 ((c : Int) + 1))).alloc (.cells #[.int .i64 0, .int .i64 0, .string ⟨#[]⟩, .slice none 0 0] 24)) hs
  rw [hD] at hC
  have HC := Lib.hid hC
  have HS1 := Lib.hid hS1
  have HF1 := Lib.hid hF1
  have HA0 := Lib.hid hA0
  have b1 : decide (60 < (c : Int) + 1) = false := by simp; omega
  have b2 : decide (6 < (d : Int)) = false := by simp; omega
  clear hS hS1 hF1 hA0 hC hD
  have b3 : decide (600 < n) = false := by simpa using hn
  have HK := Lib.hid hK
  clear hn hK
  go_enter Tryz.func30, Tryz.ntmps30
  go_wp2_with fail
  refine HC.out.mono ?_
  clear HC
  rintro e' w1 ⟨rfl, hb1⟩
  have hA1 := (hb1.block _ (lt_of_heap HA0.out)).trans HA0.out
  have hz1 : w.heap.size < w1.heap.size := lt_of_heap hA1
  have hz1n : w.heap.size ≠ w1.heap.size := by omega
  have hS2 := HS1.out.below hb1
  have hRl := hS2.lt
  have HS2 := Lib.hid hS2
  have HF2 := Lib.hid (HF1.out.trans (Fr.below hb1))
  have HA1 := Lib.hid hA1
  have k0 := heap_cell hA1 0 _ rfl
  have f0 := heap_frozen hA1 0
  have k1 := heap_cell hA1 1 _ rfl
  have f1 := heap_frozen hA1 1
  have k2 := heap_cell hA1 2 _ rfl
  have f2 := heap_frozen hA1 2
  have k3 := heap_cell hA1 3 _ rfl
  have f3 := heap_frozen hA1 3
  have t0 := hS2.c0
  clear hb1 hA1 hS2 HF1 HS1 HA0 r0 r1 q1
  go_wp2_with fail
  refine (refCut_any s b n _ (by omega) (by omega)).mono ?_
  rintro e' w' ⟨rfl, rfl⟩
  rw [HK.out]
  go_wp2_with fail
  refine bodyPost_ret (v := .tuple #[.agg #[.int .i64 0, .int .i64 0, .string ⟨#[]⟩, .slice none 0 0], .int .i64 0, .int .i64 11]) (by simp [results, Tryz.results30, go_sem, k0, k1, k2, k3, hz1, Nat.lt_succ_of_lt hz1, Nat.ne_of_lt hz1]) rfl ⟨rfl, ?_⟩
  exact frAlloc (frNew (frNew (frNew (frNew HF2.out (Nat.le_refl _) _ _) (Nat.le_refl _) _ _) (Nat.le_refl _) _ _) (Nat.le_refl _) _ _) _

set_option maxRecDepth 100000 in
set_option maxHeartbeats 2000000 in
theorem rr_data (R : Nat) (s : ByteArray) (at0 : Int) (c d : Nat) (w : World) (hS : RdR R s (c : Int) w) (n b : Int) (q : ByteArray) (r : List UInt8) (hs : s.size ≤ 1000000) (hc : c < 60) (hd : d ≤ 6) (hD : hdecR s at0 = (2, n, b, 0)) (hn : n ≤ 600) (hn0 : 0 ≤ n) (hb0 : 0 ≤ b) (hb1 : b ≤ 1000000) (hK : cutR s b n = (q, 0)) (hq : q.size ≤ maxLen) (hb : ((s.size - r.length : Nat) : Int) = b + n) :
    Calls Tryz.prog 30 #[.pointer (some ⟨R, 0, none⟩), .int .i64 at0, .int .i64 (d : Int)] w (RefR R s w (.ok (.mk 2 0 q.data.toList [], r, c + 1))) := by
  have hl := hS.lt
  have r0 := hS.c0
  have r1 := hS.c1
  have q1 := hS.f1
  have hS1 := (hS.count ((c : Int) + 1)).below ((Below.refl _ _).alloc (Nat.le_refl _) (.cells #[.int .i64 0, .int .i64 0, .string ⟨#[]⟩, .slice none 0 0] 24))
  have hF1 : Fr R w ((w.setCell ⟨R, 1, none⟩ (.int .i64 ((c : Int) + 1))).alloc (.cells #[.int .i64 0, .int .i64 0, .string ⟨#[]⟩, .slice none 0 0] 24)) := frAlloc (Fr.set R 1 w _) _
  have hA0 : ((w.setCell ⟨R, 1, none⟩ (.int .i64 ((c : Int) + 1))).alloc (.cells #[.int .i64 0, .int .i64 0, .string ⟨#[]⟩, .slice none 0 0] 24)).heap[w.heap.size]? = some (.cells #[.int .i64 0, .int .i64 0, .string ⟨#[]⟩, .slice none 0 0] 24 (0, 0)) := by
    have := World.alloc_heap_new (w.setCell ⟨R, 1, none⟩ (.int .i64 ((c : Int) + 1))) (.cells #[.int .i64 0, .int .i64 0, .string ⟨#[]⟩, .slice none 0 0] 24)
    rw [show (w.setCell ⟨R, 1, none⟩ (.int .i64 ((c : Int) + 1))).heap.size = w.heap.size by simp] at this
    exact this
  have hRne : w.heap.size ≠ R := by omega
  have hC := rdecode_any s at0 ((w.setCell ⟨R, 1, none⟩ (.int .i64 ((c : Int) + 1))).alloc (.cells #[.int .i64 0, .int .i64 0, .string ⟨#[]⟩, .slice none 0 0] 24)) hs
  rw [hD] at hC
  have HC := Lib.hid hC
  have HS1 := Lib.hid hS1
  have HF1 := Lib.hid hF1
  have HA0 := Lib.hid hA0
  have b1 : decide (60 < (c : Int) + 1) = false := by simp; omega
  have b2 : decide (6 < (d : Int)) = false := by simp; omega
  clear hS hS1 hF1 hA0 hC hD
  have b3 : decide (600 < n) = false := by simpa using hn
  have HK := Lib.hid hK
  have HQ := Lib.hid hq
  have HB := Lib.hid hb
  clear hK hq hb
  go_enter Tryz.func30, Tryz.ntmps30
  go_wp2_with fail
  refine HC.out.mono ?_
  clear HC
  rintro e' w1 ⟨rfl, hb1⟩
  have hA1 := (hb1.block _ (lt_of_heap HA0.out)).trans HA0.out
  have hz1 : w.heap.size < w1.heap.size := lt_of_heap hA1
  have hz1n : w.heap.size ≠ w1.heap.size := by omega
  have hS2 := HS1.out.below hb1
  have hRl := hS2.lt
  have HS2 := Lib.hid hS2
  have HF2 := Lib.hid (HF1.out.trans (Fr.below hb1))
  have HA1 := Lib.hid hA1
  have k0 := heap_cell hA1 0 _ rfl
  have f0 := heap_frozen hA1 0
  have k1 := heap_cell hA1 1 _ rfl
  have f1 := heap_frozen hA1 1
  have k2 := heap_cell hA1 2 _ rfl
  have f2 := heap_frozen hA1 2
  have k3 := heap_cell hA1 3 _ rfl
  have f3 := heap_frozen hA1 3
  have t0 := hS2.c0
  clear hb1 hA1 hS2 HF1 HS1 HA0 r0 r1 q1
  go_wp2_with fail
  refine (refCut_any s b n _ (by omega) (by omega)).mono ?_
  rintro e' w' ⟨rfl, rfl⟩
  rw [HK.out]
  go_wp2_with fail
  refine bodyPost_ret (v := .tuple #[.agg #[.int .i64 2, .int .i64 0, .string q, .slice none 0 0], .int .i64 (b + n), .int .i64 0]) (by simp [results, Tryz.results30, go_sem, k0, k1, k2, k3, hz1, Nat.lt_succ_of_lt hz1, Nat.ne_of_lt hz1]) rfl ?_
  unfold RefR
  refine ⟨2, 0, q, none, 0, 0, by rw [HB.out], ItV.leaf 2 0 q HQ.out (by decide) (by decide), ?_, ?_⟩
  · rw [show ((c + 1 : Nat) : Int) = (c : Int) + 1 by omega]
    exact ((((HS2.out.other hRne _ _).other hRne _ _).other hRne _ _).other hRne _ _).below ((Below.refl _ _).alloc (Nat.le_refl _) _)
  · exact frAlloc (frNew (frNew (frNew (frNew HF2.out (Nat.le_refl _) _ _) (Nat.le_refl _) _ _) (Nat.le_refl _) _ _) (Nat.le_refl _) _ _) _

set_option maxRecDepth 100000 in
set_option maxHeartbeats 2000000 in
theorem rr_text (R : Nat) (s : ByteArray) (at0 : Int) (c d : Nat) (w : World) (hS : RdR R s (c : Int) w) (n b : Int) (q : ByteArray) (r : List UInt8) (hs : s.size ≤ 1000000) (hc : c < 60) (hd : d ≤ 6) (hD : hdecR s at0 = (3, n, b, 0)) (hn : n ≤ 600) (hn0 : 0 ≤ n) (hb0 : 0 ≤ b) (hb1 : b ≤ 1000000) (hK : cutR s b n = (q, 0)) (hq : q.size ≤ maxLen) (hb : ((s.size - r.length : Nat) : Int) = b + n) (ht : txtB q.data.toList = true) :
    Calls Tryz.prog 30 #[.pointer (some ⟨R, 0, none⟩), .int .i64 at0, .int .i64 (d : Int)] w (RefR R s w (.ok (.mk 3 0 q.data.toList [], r, c + 1))) := by
  have hl := hS.lt
  have r0 := hS.c0
  have r1 := hS.c1
  have q1 := hS.f1
  have hS1 := (hS.count ((c : Int) + 1)).below ((Below.refl _ _).alloc (Nat.le_refl _) (.cells #[.int .i64 0, .int .i64 0, .string ⟨#[]⟩, .slice none 0 0] 24))
  have hF1 : Fr R w ((w.setCell ⟨R, 1, none⟩ (.int .i64 ((c : Int) + 1))).alloc (.cells #[.int .i64 0, .int .i64 0, .string ⟨#[]⟩, .slice none 0 0] 24)) := frAlloc (Fr.set R 1 w _) _
  have hA0 : ((w.setCell ⟨R, 1, none⟩ (.int .i64 ((c : Int) + 1))).alloc (.cells #[.int .i64 0, .int .i64 0, .string ⟨#[]⟩, .slice none 0 0] 24)).heap[w.heap.size]? = some (.cells #[.int .i64 0, .int .i64 0, .string ⟨#[]⟩, .slice none 0 0] 24 (0, 0)) := by
    have := World.alloc_heap_new (w.setCell ⟨R, 1, none⟩ (.int .i64 ((c : Int) + 1))) (.cells #[.int .i64 0, .int .i64 0, .string ⟨#[]⟩, .slice none 0 0] 24)
    rw [show (w.setCell ⟨R, 1, none⟩ (.int .i64 ((c : Int) + 1))).heap.size = w.heap.size by simp] at this
    exact this
  have hRne : w.heap.size ≠ R := by omega
  have hC := rdecode_any s at0 ((w.setCell ⟨R, 1, none⟩ (.int .i64 ((c : Int) + 1))).alloc (.cells #[.int .i64 0, .int .i64 0, .string ⟨#[]⟩, .slice none 0 0] 24)) hs
  rw [hD] at hC
  have HC := Lib.hid hC
  have HS1 := Lib.hid hS1
  have HF1 := Lib.hid hF1
  have HA0 := Lib.hid hA0
  have b1 : decide (60 < (c : Int) + 1) = false := by simp; omega
  have b2 : decide (6 < (d : Int)) = false := by simp; omega
  clear hS hS1 hF1 hA0 hC hD
  have b3 : decide (600 < n) = false := by simpa using hn
  have HK := Lib.hid hK
  have HQ := Lib.hid hq
  have HB := Lib.hid hb
  have HT := Lib.hid ht
  clear hK hq hb ht
  go_enter Tryz.func30, Tryz.ntmps30
  go_wp2_with fail
  refine HC.out.mono ?_
  clear HC
  rintro e' w1 ⟨rfl, hb1⟩
  have hA1 := (hb1.block _ (lt_of_heap HA0.out)).trans HA0.out
  have hz1 : w.heap.size < w1.heap.size := lt_of_heap hA1
  have hz1n : w.heap.size ≠ w1.heap.size := by omega
  have hS2 := HS1.out.below hb1
  have hRl := hS2.lt
  have HS2 := Lib.hid hS2
  have HF2 := Lib.hid (HF1.out.trans (Fr.below hb1))
  have HA1 := Lib.hid hA1
  have k0 := heap_cell hA1 0 _ rfl
  have f0 := heap_frozen hA1 0
  have k1 := heap_cell hA1 1 _ rfl
  have f1 := heap_frozen hA1 1
  have k2 := heap_cell hA1 2 _ rfl
  have f2 := heap_frozen hA1 2
  have k3 := heap_cell hA1 3 _ rfl
  have f3 := heap_frozen hA1 3
  have t0 := hS2.c0
  clear hb1 hA1 hS2 HF1 HS1 HA0 r0 r1 q1
  go_wp2_with fail
  refine (refCut_any s b n _ (by omega) (by omega)).mono ?_
  rintro e' w' ⟨rfl, rfl⟩
  rw [HK.out]
  go_wp2_with fail
  refine (refText_any q _ HQ.out).mono ?_
  rintro e' w' ⟨rfl, rfl⟩
  rw [HT.out]
  go_wp2_with fail
  refine bodyPost_ret (v := .tuple #[.agg #[.int .i64 3, .int .i64 0, .string q, .slice none 0 0], .int .i64 (b + n), .int .i64 0]) (by simp [results, Tryz.results30, go_sem, k0, k1, k2, k3, hz1, Nat.lt_succ_of_lt hz1, Nat.ne_of_lt hz1]) rfl ?_
  unfold RefR
  refine ⟨3, 0, q, none, 0, 0, by rw [HB.out], ItV.leaf 3 0 q HQ.out (by decide) (by decide), ?_, ?_⟩
  · rw [show ((c + 1 : Nat) : Int) = (c : Int) + 1 by omega]
    exact ((((HS2.out.other hRne _ _).other hRne _ _).other hRne _ _).other hRne _ _).below ((Below.refl _ _).alloc (Nat.le_refl _) _)
  · exact frAlloc (frNew (frNew (frNew (frNew HF2.out (Nat.le_refl _) _ _) (Nat.le_refl _) _ _) (Nat.le_refl _) _ _) (Nat.le_refl _) _ _) _

set_option maxRecDepth 100000 in
set_option maxHeartbeats 2000000 in
theorem rr_textno (R : Nat) (s : ByteArray) (at0 : Int) (c d : Nat) (w : World) (hS : RdR R s (c : Int) w) (n b : Int) (q : ByteArray) (hs : s.size ≤ 1000000) (hc : c < 60) (hd : d ≤ 6) (hD : hdecR s at0 = (3, n, b, 0)) (hn : n ≤ 600) (hb1 : b ≤ 1000000) (hK : cutR s b n = (q, 0)) (hq : q.size ≤ maxLen) (ht : txtB q.data.toList = false) :
    Calls Tryz.prog 30 #[.pointer (some ⟨R, 0, none⟩), .int .i64 at0, .int .i64 (d : Int)] w (RefR R s w (.error 20)) := by
  have hl := hS.lt
  have r0 := hS.c0
  have r1 := hS.c1
  have q1 := hS.f1
  have hS1 := (hS.count ((c : Int) + 1)).below ((Below.refl _ _).alloc (Nat.le_refl _) (.cells #[.int .i64 0, .int .i64 0, .string ⟨#[]⟩, .slice none 0 0] 24))
  have hF1 : Fr R w ((w.setCell ⟨R, 1, none⟩ (.int .i64 ((c : Int) + 1))).alloc (.cells #[.int .i64 0, .int .i64 0, .string ⟨#[]⟩, .slice none 0 0] 24)) := frAlloc (Fr.set R 1 w _) _
  have hA0 : ((w.setCell ⟨R, 1, none⟩ (.int .i64 ((c : Int) + 1))).alloc (.cells #[.int .i64 0, .int .i64 0, .string ⟨#[]⟩, .slice none 0 0] 24)).heap[w.heap.size]? = some (.cells #[.int .i64 0, .int .i64 0, .string ⟨#[]⟩, .slice none 0 0] 24 (0, 0)) := by
    have := World.alloc_heap_new (w.setCell ⟨R, 1, none⟩ (.int .i64 ((c : Int) + 1))) (.cells #[.int .i64 0, .int .i64 0, .string ⟨#[]⟩, .slice none 0 0] 24)
    rw [show (w.setCell ⟨R, 1, none⟩ (.int .i64 ((c : Int) + 1))).heap.size = w.heap.size by simp] at this
    exact this
  have hRne : w.heap.size ≠ R := by omega
  have hC := rdecode_any s at0 ((w.setCell ⟨R, 1, none⟩ (.int .i64 ((c : Int) + 1))).alloc (.cells #[.int .i64 0, .int .i64 0, .string ⟨#[]⟩, .slice none 0 0] 24)) hs
  rw [hD] at hC
  have HC := Lib.hid hC
  have HS1 := Lib.hid hS1
  have HF1 := Lib.hid hF1
  have HA0 := Lib.hid hA0
  have b1 : decide (60 < (c : Int) + 1) = false := by simp; omega
  have b2 : decide (6 < (d : Int)) = false := by simp; omega
  clear hS hS1 hF1 hA0 hC hD
  have b3 : decide (600 < n) = false := by simpa using hn
  have HK := Lib.hid hK
  have HQ := Lib.hid hq
  have HT := Lib.hid ht
  clear hK hq ht hn
  go_enter Tryz.func30, Tryz.ntmps30
  go_wp2_with fail
  refine HC.out.mono ?_
  clear HC
  rintro e' w1 ⟨rfl, hb1⟩
  have hA1 := (hb1.block _ (lt_of_heap HA0.out)).trans HA0.out
  have hz1 : w.heap.size < w1.heap.size := lt_of_heap hA1
  have hz1n : w.heap.size ≠ w1.heap.size := by omega
  have hS2 := HS1.out.below hb1
  have hRl := hS2.lt
  have HS2 := Lib.hid hS2
  have HF2 := Lib.hid (HF1.out.trans (Fr.below hb1))
  have HA1 := Lib.hid hA1
  have k0 := heap_cell hA1 0 _ rfl
  have f0 := heap_frozen hA1 0
  have k1 := heap_cell hA1 1 _ rfl
  have f1 := heap_frozen hA1 1
  have k2 := heap_cell hA1 2 _ rfl
  have f2 := heap_frozen hA1 2
  have k3 := heap_cell hA1 3 _ rfl
  have f3 := heap_frozen hA1 3
  have t0 := hS2.c0
  clear hb1 hA1 hS2 HF1 HS1 HA0 r0 r1 q1
  go_wp2_with fail
  refine (refCut_any s b n _ (by omega) (by omega)).mono ?_
  rintro e' w' ⟨rfl, rfl⟩
  rw [HK.out]
  go_wp2_with fail
  refine (refText_any q _ HQ.out).mono ?_
  rintro e' w' ⟨rfl, rfl⟩
  rw [HT.out]
  go_wp2_with fail
  refine bodyPost_ret (v := .tuple #[.agg #[.int .i64 0, .int .i64 0, .string ⟨#[]⟩, .slice none 0 0], .int .i64 0, .int .i64 20]) (by simp [results, Tryz.results30, go_sem, k0, k1, k2, k3, hz1, Nat.lt_succ_of_lt hz1, Nat.ne_of_lt hz1]) rfl ⟨rfl, ?_⟩
  exact frAlloc (frNew (frNew (frNew (frNew HF2.out (Nat.le_refl _) _ _) (Nat.le_refl _) _ _) (Nat.le_refl _) _ _) (Nat.le_refl _) _ _) _

end Go.Proofs.YtljfgchmogdljaaGreatDoor

/- The document's read of a list of items, and of any item. -/
set_option linter.unusedVariables false
set_option linter.unusedSimpArgs false
namespace Go.Proofs.YtljfgchmogdljaaGreatDoor
open Go.RowKit

/-- A list while it is read: the answer's box, the item's, its row. -/
structure LR (R : Nat) (s : ByteArray) (c : Int) (w : World) (B : Nat) (v : Value) (xs : List Itm) (wr : World) : Prop where
  rd : RdR R s c wr
  a0 : wr.heap[w.heap.size]? = some (.cells #[.int .i64 0, .int .i64 0, .string ⟨#[]⟩, .slice none 0 0] 24 (0, 0))
  a1 : wr.heap[B]? = some (.cells #[.int .i64 4, .int .i64 0, .string ⟨#[]⟩, v] 24 (0, 0))
  row : RowM (B + 1) wr v xs
  fr : Fr R w wr

/-- What is read of a list. -/
def lstT (t : Except Int (List Itm × List UInt8 × Nat)) : Except Int (Itm × List UInt8 × Nat) := match t with
  | .error e => .error e
  | .ok (xs, r, c') => .ok (.mk 4 0 [] xs, r, c')

set_option maxRecDepth 100000 in
set_option maxHeartbeats 4000000 in
theorem rr_list (f : Nat) (R : Nat) (s : ByteArray) (at0 : Int) (c d : Nat) (w : World) (hS : RdR R s (c : Int) w) (n i : Nat) (hs : s.size ≤ 1000000) (hc : c < 60) (hd : d ≤ 6) (hD : hdecR s at0 = (4, (n : Int), (i : Int), 0)) (hi : i ≤ s.size) (hn : n ≤ 281474976710655)
    (ih : ∀ (i c : Nat) (W : World), RdR R s (c : Int) W → i ≤ s.size → c ≤ 60 → Calls Tryz.prog 30 #[.pointer (some ⟨R, 0, none⟩), .int .i64 (i : Int), .int .i64 ((d : Int) + 1)] W (RefR R s W (rd f c (s.data.toList.drop i)))) :
    Calls Tryz.prog 30 #[.pointer (some ⟨R, 0, none⟩), .int .i64 at0, .int .i64 (d : Int)] w (RefR R s w (lstT (rdN (rd f) n (c + 1) (s.data.toList.drop i)))) := by
  have hl := hS.lt
  have r0 := hS.c0
  have r1 := hS.c1
  have q1 := hS.f1
  have hS1 := (hS.count ((c : Int) + 1)).below ((Below.refl _ _).alloc (Nat.le_refl _) (.cells #[.int .i64 0, .int .i64 0, .string ⟨#[]⟩, .slice none 0 0] 24))
  have hF1 : Fr R w ((w.setCell ⟨R, 1, none⟩ (.int .i64 ((c : Int) + 1))).alloc (.cells #[.int .i64 0, .int .i64 0, .string ⟨#[]⟩, .slice none 0 0] 24)) := frAlloc (Fr.set R 1 w _) _
  have hA0 : ((w.setCell ⟨R, 1, none⟩ (.int .i64 ((c : Int) + 1))).alloc (.cells #[.int .i64 0, .int .i64 0, .string ⟨#[]⟩, .slice none 0 0] 24)).heap[w.heap.size]? = some (.cells #[.int .i64 0, .int .i64 0, .string ⟨#[]⟩, .slice none 0 0] 24 (0, 0)) := by
    have := World.alloc_heap_new (w.setCell ⟨R, 1, none⟩ (.int .i64 ((c : Int) + 1))) (.cells #[.int .i64 0, .int .i64 0, .string ⟨#[]⟩, .slice none 0 0] 24)
    rw [show (w.setCell ⟨R, 1, none⟩ (.int .i64 ((c : Int) + 1))).heap.size = w.heap.size by simp] at this
    exact this
  have hRne : w.heap.size ≠ R := by omega
  have hC := rdecode_any s at0 ((w.setCell ⟨R, 1, none⟩ (.int .i64 ((c : Int) + 1))).alloc (.cells #[.int .i64 0, .int .i64 0, .string ⟨#[]⟩, .slice none 0 0] 24)) hs
  rw [hD] at hC
  have HC := Lib.hid hC
  have HS1 := Lib.hid hS1
  have HF1 := Lib.hid hF1
  have HA0 := Lib.hid hA0
  have b1 : decide (60 < (c : Int) + 1) = false := by simp; omega
  have b2 : decide (6 < (d : Int)) = false := by simp; omega
  clear hS hS1 hF1 hA0 hC hD
  have IH := Lib.hid ih
  clear ih
  go_enter Tryz.func30, Tryz.ntmps30
  go_wp2_with fail
  refine HC.out.mono ?_
  clear HC
  rintro e' w1 ⟨rfl, hb1⟩
  have hA1 := (hb1.block _ (lt_of_heap HA0.out)).trans HA0.out
  have hz1 : w.heap.size < w1.heap.size := lt_of_heap hA1
  have hz1n : w.heap.size ≠ w1.heap.size := by omega
  have hS2 := HS1.out.below hb1
  have hRl := hS2.lt
  have HS2 := Lib.hid hS2
  have HF2 := Lib.hid (HF1.out.trans (Fr.below hb1))
  have HA1 := Lib.hid hA1
  have k0 := heap_cell hA1 0 _ rfl
  have f0 := heap_frozen hA1 0
  have k1 := heap_cell hA1 1 _ rfl
  have f1 := heap_frozen hA1 1
  have k2 := heap_cell hA1 2 _ rfl
  have f2 := heap_frozen hA1 2
  have k3 := heap_cell hA1 3 _ rfl
  have f3 := heap_frozen hA1 3
  have t0 := hS2.c0
  clear k0 f0 k1 f1 k2 f2 k3 f3 t0
  clear hb1 hA1 hS2 HF1 HS1 HA0 r0 r1 q1
  have hL0 : LR R s ((c : Int) + 1) w w1.heap.size (.slice none 0 0) [] (w1.alloc (.cells #[.int .i64 4, .int .i64 0, .string ⟨#[]⟩, .slice none 0 0] 24)) :=
    ⟨HS2.out.below ((Below.refl _ _).alloc (Nat.le_refl _) _), (Below.heap_alloc _ _ _ hz1).trans HA1.out, World.alloc_heap_new w1 _, RowM.nil _ _, frAlloc HF2.out _⟩
  have HL0 := Lib.hid hL0
  clear hL0 HS2 HA1 HF2
  go_wp2_with fail
  generalize hBB : w1.heap.size = B at *
  generalize w1.alloc (.cells #[.int .i64 4, .int .i64 0, .string ⟨#[]⟩, .slice none 0 0] 24) = w0 at *
  clear hBB
  go_loopw [11, 14] (fun nx ii wr => ∃ (j : Nat) (xs : List Itm) (r : List UInt8) (c' : Nat) (v : Value), j ≤ n ∧ ii = .int .i64 (j : Int) ∧ nx = .int .i64 ((s.size - r.length : Nat) : Int) ∧ rdN (rd f) j (c + 1) (s.data.toList.drop i) = .ok (xs, r, c') ∧ LR R s (c' : Int) w B v xs wr) (fun _ ii _ => n - (intOf ii).toNat)
  case atStart =>
    refine ⟨0, [], s.data.toList.drop i, c + 1, .slice none 0 0, Nat.zero_le _, rfl, by rw [drop_place s hi], rfl, ?_⟩
    exact HL0.out
  case round =>
    obtain ⟨j, xs, r, c', v, hj, rfl, rfl, hrd, hM⟩ := hrel
    obtain ⟨hsf, hc6, hxl, hcc⟩ := rdN_sfx f j (c + 1) _ xs r c' (by omega) hrd
    obtain ⟨hrs, hrl⟩ := sfx_drop hsf
    rw [Array.length_toList] at hrs hrl
    have HRD := Lib.hid hrd
    have hRl := hM.rd.lt
    have HMM := Lib.hid hM
    obtain ⟨pl, hpl⟩ : ∃ pl : Nat, pl = s.size - r.length := ⟨_, rfl⟩
    by_cases hlt : j < n
    · have HN := IH.out (s.size - r.length) c' wr hM.rd (Nat.sub_le _ _) hc6
      rw [show s.data.toList.drop (s.size - r.length) = r from hrs.symm] at HN
      rw [← hpl] at HN ⊢
      have HP := Lib.hid hpl
      clear hsf hrd hrs hrl hM hxl hpl
      cases hr : rd f c' r with
      | error e =>
        have HE := Lib.hid (rdN_err hlt HRD.out hr)
        have b3 : (e != 0) = true := by simpa using rd_err_ne _ _ _ _ hr
        rw [hr] at HN
        have HNN := Lib.hid HN
        clear HN hr
        go_wp2_with fail
        refine HNN.out.mono ?_
        clear HNN
        rintro e' w2 ⟨rfl, hF1⟩
        have hA0 := (hF1.block _ (lt_of_heap HMM.out.a0) (by intro e; cases e; omega)).trans HMM.out.a0
        have hz2 : w.heap.size < w2.heap.size := lt_of_heap hA0
        have k0 := heap_cell hA0 0 _ rfl
        have f0 := heap_frozen hA0 0
        have k1 := heap_cell hA0 1 _ rfl
        have f1 := heap_frozen hA0 1
        have k2 := heap_cell hA0 2 _ rfl
        have f2 := heap_frozen hA0 2
        have k3 := heap_cell hA0 3 _ rfl
        have f3 := heap_frozen hA0 3
        have HF := Lib.hid (HMM.out.fr.trans hF1)
        clear hF1 hA0 HMM
        go_wp2_with fail
        refine bodyPost_ret (v := .tuple #[.agg #[.int .i64 0, .int .i64 0, .string ⟨#[]⟩, .slice none 0 0], .int .i64 0, .int .i64 e]) (by simp [results, Tryz.results30, go_sem, hz2, Nat.lt_succ_of_lt hz2, Nat.ne_of_lt hz2, k0, k1, k2, k3]) rfl ?_
        rw [HE.out]
        exact ⟨rfl, frAlloc (frNew (frNew (frNew (frNew HF.out (Nat.le_refl _) _ _) (Nat.le_refl _) _ _) (Nat.le_refl _) _ _) (Nat.le_refl _) _ _) _⟩
      | ok t =>
        obtain ⟨x, r', c''⟩ := t
        have HE := Lib.hid (rdN_snoc HRD.out hr)
        rw [hr] at HN
        have HNN := Lib.hid HN
        clear HN hr
        go_wp2_with fail
        refine HNN.out.mono ?_
        clear HNN
        rintro e' w2 ⟨k, nn, q, p, m, cap, rfl, hxv, hS1, hF1⟩
        have hA1 := (hF1.block _ (lt_of_heap HMM.out.a1) (by intro e; cases e; omega)).trans HMM.out.a1
        have hA0 := (hF1.block _ (lt_of_heap HMM.out.a0) (by intro e; cases e; omega)).trans HMM.out.a0
        have hz2 : B < w2.heap.size := lt_of_heap hA1
        have hz2n : B ≠ w2.heap.size := by omega
        have x3 := heap_cell hA1 3 _ rfl
        have y3 := heap_frozen hA1 3
        have hB3 : Below w2.heap.size w2 ((w2.alloc (.cells #[.int .i64 k, .int .i64 nn, .string q, .slice p m cap] 24)).alloc (.cells #[.int .i64 k, .int .i64 nn, .string q, .slice p m cap] 24)) := ((Below.refl _ _).alloc (Nat.le_refl _) _).alloc (by simp) _
        have hrow3 := (HMM.out.row.stay (.inr ⟨R, hF1, by omega⟩)).stay (.inl ⟨hB3.os, hB3.tape, hB3.output, hB3.size, fun b hb _ => hB3.block b hb⟩)
        obtain ⟨cs, hown3, hr3⟩ := id hrow3
        have hvn : ∀ g, v.ownBlock = some g → g < wr.heap.size := fun g hg => by obtain ⟨cs', ho', _⟩ := HMM.out.row; exact (ho'.lt g hg).2
        obtain ⟨i0, hi0, hz0, hzs, hzb⟩ := info_parts it_info
        have hxs : xs.length ≤ 60 := by have := cnts_length xs; omega
        have HX3 := Lib.hid (hxv.below hB3)
        have HS3 := Lib.hid (hS1.below hB3)
        have HF3 := Lib.hid ((HMM.out.fr.trans hF1).trans (Fr.below hB3))
        have HA0 := Lib.hid ((hB3.block _ (by omega)).trans hA0)
        have HA1 := Lib.hid ((hB3.block _ hz2).trans hA1)
        have HROW := Lib.hid hrow3
        have HR3 := Lib.hid hr3
        have hsW : wr.heap.size ≤ w2.heap.size := hF1.size
        have hbW : B + 1 ≤ wr.heap.size := by have := lt_of_heap HMM.out.a1; omega
        clear hxv hS1 hF1 hA0 hA1 hB3 hrow3 hr3 HMM HRD
        go_wp2_with (at_builtin; refine wpList_append_new _ rfl _ _ 22 rfl (B + 1) 24 i0 (.agg #[.int .i64 0, .int .i64 0, .string ⟨#[]⟩, .slice none 0 0]) 4 56 Tryz.underlying22 hi0 hz0 hzs hzb rfl (by decide) _ _ _ rfl hown3 ⟨w2.heap.size + 1, 0, none⟩ 1 [.int .i64 k, .int .i64 nn, .string q, .slice p m cap] rfl rfl ?c1 ?c2 ?c3 ?c4 ?c5 ?_)
        case c1 =>
          intro j' u hj'
          rw [base_add]
          rcases j' with _ | _ | _ | _ | j' <;> simp at hj'
          all_goals (subst hj'; go_simp)
        case c2 =>
          intro u hu
          simp only [List.mem_cons, List.not_mem_nil, or_false] at hu
          rcases hu with rfl | rfl | rfl | rfl <;> rfl
        case c3 => unfold maxLen; omega
        case c4 => omega
        case c5 => simp; omega
        intro v' w4 hown4 hg4 hf4
        have hne : ∀ b, b < B + 1 → some b ≠ v.ownBlock := fun b hb e => by have := (hown3.lt b e.symm).1; omega
        have hRowN := HROW.out.append (n := wr.heap.size) hbW hvn (by simp; omega) (ItV.mono HX3.out (fun b _ hb => hb)) hown3 HR3.out (v' := v') hown4 hg4 (fun g hg => by have := hf4 g hg; simpa using this)
        have hA14 := (hg4.block _ (lt_of_heap HA1.out) (hne _ (by omega))).trans HA1.out
        have hA04 := (hg4.block _ (lt_of_heap HA0.out) (hne _ (by omega))).trans HA0.out
        have hS4 := HS3.out.heap (hg4.block R HS3.out.lt (hne _ (by omega)))
        have hF4 := frGrow HF3.out hg4 (fun g hg => by have := (hown3.lt g hg).1; omega)
        obtain ⟨g4, cap4, rfl⟩ := ownsRow_pos hown4 (by omega)
        have x4 := heap_cell hA14 3 _ rfl
        have y4 := heap_frozen hA14 3
        have HM5 : LR R s (c'' : Int) w B (.slice (some ⟨g4, 0, none⟩) (xs.length + 1) cap4) (xs ++ [x]) (w4.setCell ⟨B, 3, none⟩ (.slice (some ⟨g4, 0, none⟩) (xs.length + 1) cap4)) :=
          ⟨hS4.other (b := B) (by omega) 3 _, (Below.heap_setCell _ _ _ _ (by show w.heap.size ≠ B; omega)).trans hA04, heap_set hA14 3 _, hRowN.stay (.inr ⟨B, Fr.set B 3 w4 _, by omega⟩), frNew hF4 (by omega) _ _⟩
        have HM := Lib.hid HM5
        clear HM5 hown4 hg4 hf4 hRowN hA14 hA04 hS4 hF4 hown3 x3 y3 hne hvn
        go_wp2_with fail
        go_roundw
        case rel => exact ⟨j + 1, _, _, _, _, by omega, by go_num, rfl, HE.out, HM.out⟩
        case measure => simp [intOf]; omega
    · obtain rfl : j = n := by omega
      obtain ⟨p, cap, rfl, hpc, hpm, _⟩ := hM.row.list
      have x0 := heap_cell hM.a1 0 _ rfl
      have x1 := heap_cell hM.a1 1 _ rfl
      have x2 := heap_cell hM.a1 2 _ rfl
      have x3 := heap_cell hM.a1 3 _ rfl
      have hzA := lt_of_heap hM.a1
      have k0 := heap_cell hM.a0 0 _ rfl
      have f0 := heap_frozen hM.a0 0
      have k1 := heap_cell hM.a0 1 _ rfl
      have f1 := heap_frozen hM.a0 1
      have k2 := heap_cell hM.a0 2 _ rfl
      have f2 := heap_frozen hM.a0 2
      have k3 := heap_cell hM.a0 3 _ rfl
      have f3 := heap_frozen hM.a0 3
      rw [← hpl]
      have HP := Lib.hid hpl
      clear hsf hrd hrs hrl hM hpl
      go_wp2_with fail
      refine bodyPost_ret (v := .tuple #[.agg #[.int .i64 4, .int .i64 0, .string ⟨#[]⟩, .slice p j cap], .int .i64 (pl : Int), .int .i64 0]) (by simp [results, Tryz.results30, go_sem, k0, k1, k2, k3]) rfl ?_
      rw [HRD.out]
      have e6 : ∀ (W : World) (o : Nat) (v : Value), RowM (B + 1) W (.slice p xs.length cap) xs → RowM (B + 1) (W.setCell ⟨w.heap.size, o, none⟩ v) (.slice p xs.length cap) xs := fun W o v h => h.stay (.inr ⟨w.heap.size, Fr.set w.heap.size o W v, by omega⟩)
      unfold lstT RefR
      refine ⟨4, 0, ⟨#[]⟩, p, j, cap, by rw [HP.out], ?_, ?_, ?_⟩
      · obtain ⟨p', cap', e, _, _, hits⟩ := (e6 _ 3 (.slice p j cap) (e6 _ 2 (.string ⟨#[]⟩) (e6 _ 1 (.int .i64 0) (e6 _ 0 (.int .i64 4) HMM.out.row)))).list
        simp only [Value.slice.injEq] at e
        obtain ⟨rfl, _, rfl⟩ := e
        simp only [ItV]
        exact ⟨p, cap, by rw [hxl], hpc, hpm, by simp, by decide, by decide, ItsV.mono hits (fun b _ hb => by omega)⟩
      · exact (((HMM.out.rd.other hRne _ _).other hRne _ _).other hRne _ _).other hRne _ _
      · exact frNew (frNew (frNew (frNew HMM.out.fr (Nat.le_refl _) _ _) (Nat.le_refl _) _ _) (Nat.le_refl _) _ _) (Nat.le_refl _) _ _


/-- The document's read answers what is read. -/
theorem rread_any : ∀ (f d : Nat), d + f = 7 → ∀ (R : Nat) (s : ByteArray) (i c : Nat) (w : World), RdR R s (c : Int) w → s.size ≤ 1000000 → i ≤ s.size → c ≤ 60 →
    Calls Tryz.prog 30 #[.pointer (some ⟨R, 0, none⟩), .int .i64 (i : Int), .int .i64 (d : Int)] w (RefR R s w (rd f c (s.data.toList.drop i))) := by
  intro f
  induction f with
  | zero =>
    intro d hd R s i c w hS hs hi hc
    exact rr_full R s i c d w hS hc (by omega) (.inr (by omega))
  | succ f ih =>
    intro d hd R s i c w hS hs hi hc
    by_cases h60 : 60 ≤ c
    · have e : rd (f + 1) c (s.data.toList.drop i) = .error 40 := by rw [rd, if_pos h60]
      rw [e]
      exact rr_full R s i c d w hS hc (by omega) (.inl h60)
    rcases hdecR_list s i hi with ⟨e, h1, h2, h3⟩ | ⟨m, n, k, h1, h2, hM, hN, hk⟩
    · rw [rd_herr (by omega) h1]
      exact rr_err R s i c d w hS 0 0 0 e hs (by omega) (by omega) h2 h3
    rw [rd_head (by omega) h1, List.drop_drop]
    have hm : m = 0 ∨ m = 2 ∨ m = 3 ∨ m = 4 := by unfold Maj at hM; omega
    have hcut : n ≤ s.size - (i + k) → cutR s ((i + k : Nat) : Int) (n : Int) = (s.extract (i + k) (i + k + n), 0) := fun h => by
      rw [cutR_ok (by unfold fitsB; omega)]
      rfl
    have hbad : s.size - (i + k) < n → cutR s ((i + k : Nat) : Int) (n : Int) = (⟨#[]⟩, 11) := fun h => cutR_bad (by unfold fitsB; omega)
    have hqs : (s.extract (i + k) (i + k + n)).size ≤ maxLen := by rw [ByteArray.size_extract]; unfold maxLen; omega
    rcases hm with rfl | rfl | rfl | rfl
    · rw [if_pos rfl]
      exact rr_num R s i c d w hS n _ _ hs (by omega) (by omega) h2 hN (by rw [drop_place s hk])
    · rw [if_neg (by omega), if_neg (by omega)]
      unfold dat
      by_cases h6 : 600 < n
      · rw [if_pos h6]
        exact rr_great2 R s i c d w hS n _ hs (by omega) (by omega) h2 (by omega)
      rw [if_neg h6, drop_len_ba]
      by_cases hl : s.size - (i + k) < n
      · rw [if_pos hl]
        exact rr_short2 R s i c d w hS n _ hs (by omega) (by omega) h2 (by omega) (by omega) (hbad hl)
      rw [if_neg hl, if_neg (by omega), ← extract_drop, List.drop_drop]
      exact rr_data R s i c d w hS n _ _ _ hs (by omega) (by omega) h2 (by omega) (by omega) (by omega) (by omega) (hcut (by omega)) hqs (by rw [drop_place s (by omega)]; omega)
    · rw [if_neg (by omega), if_neg (by omega)]
      unfold dat
      by_cases h6 : 600 < n
      · rw [if_pos h6]
        exact rr_great3 R s i c d w hS n _ hs (by omega) (by omega) h2 (by omega)
      rw [if_neg h6, drop_len_ba]
      by_cases hl : s.size - (i + k) < n
      · rw [if_pos hl]
        exact rr_short3 R s i c d w hS n _ hs (by omega) (by omega) h2 (by omega) (by omega) (hbad hl)
      rw [if_neg hl, ← extract_drop, List.drop_drop]
      cases ht : txtB (s.extract (i + k) (i + k + n)).data.toList with
      | true =>
        rw [if_neg (by simp)]
        exact rr_text R s i c d w hS n _ _ _ hs (by omega) (by omega) h2 (by omega) (by omega) (by omega) (by omega) (hcut (by omega)) hqs (by rw [drop_place s (by omega)]; omega) ht
      | false =>
        rw [if_pos ⟨rfl, rfl⟩]
        exact rr_textno R s i c d w hS n _ _ hs (by omega) (by omega) h2 (by omega) (by omega) (hcut (by omega)) hqs ht
    · rw [if_neg (by omega), if_pos rfl]
      have := rr_list f R s i c d w hS n (i + k) hs (by omega) (by omega) h2 hk hN (fun i c W h1 h2 h3 => by
        have := ih (d + 1) (by omega) R s i c W h1 hs h2 h3
        rw [show ((d + 1 : Nat) : Int) = (d : Int) + 1 by omega] at this
        exact this)
      unfold lstT at this
      exact this
end Go.Proofs.YtljfgchmogdljaaGreatDoor

/- Contracts of the document's Decode and Whole of items. -/
set_option linter.unusedVariables false
set_option linter.unusedSimpArgs false
namespace Go.Proofs.YtljfgchmogdljaaGreatDoor
open Go.RowKit

theorem rread_top (R : Nat) (s : ByteArray) (at0 : Int) (w : World) (hS : RdR R s 0 w) (hs : s.size ≤ 1000000) :
    Calls Tryz.prog 30 #[.pointer (some ⟨R, 0, none⟩), .int .i64 at0, .int .i64 1] w (RefR R s w (rdAt s at0)) := by
  unfold rdAt
  by_cases h : at0 < 0 ∨ (s.size : Int) ≤ at0
  · rw [if_pos h]
    exact rr_err R s at0 0 1 w hS 0 0 0 11 hs (by omega) (by omega) (hdecR_out h) (by decide)
  · rw [if_neg h]
    obtain ⟨i, rfl⟩ := Int.eq_ofNat_of_zero_le (show 0 ≤ at0 by omega)
    exact rread_any 6 1 (by omega) R s i 0 w hS hs (by omega) (by omega)

theorem decI_err {s : ByteArray} {at0 e : Int} (h : rdAt s at0 = .error e) : decI s at0 = (.mk 0 0 [] [], 0, e) := by unfold decI; rw [h]
theorem decI_ok {s : ByteArray} {at0 : Int} {x : Itm} {r : List UInt8} {c : Nat} (h : rdAt s at0 = .ok (x, r, c)) : decI s at0 = (x, ((s.size - r.length : Nat) : Int), 0) := by unfold decI; rw [h]

set_option maxRecDepth 100000 in
set_option maxHeartbeats 4000000 in
theorem rdecodeI_any (s : ByteArray) (at0 : Int) (w : World) (hs : s.size ≤ 1000000) :
    Calls Tryz.prog 16 #[.string s, .int .i64 at0] w fun e' w' => ∃ (k nn : Int) (q : ByteArray) (p : Option Addr) (l cap : Nat), e' = .returned (.tuple #[.agg #[.int .i64 k, .int .i64 nn, .string q, .slice p l cap], .int .i64 (decI s at0).2.1, .int .i64 (decI s at0).2.2]) ∧ ItV (fun b => w.heap.size ≤ b) w' (decI s at0).1 (.agg #[.int .i64 k, .int .i64 nn, .string q, .slice p l cap]) ∧ Below w.heap.size w w' := by
  have hB0 : Below w.heap.size w ((w.alloc (.cells #[.int .i64 0, .int .i64 0, .string ⟨#[]⟩, .slice none 0 0] 24)).alloc (.cells #[.string s, .int .i64 0] 59)) := ((Below.refl _ _).alloc (Nat.le_refl _) _).alloc (by simp) _
  have hR : ((w.alloc (.cells #[.int .i64 0, .int .i64 0, .string ⟨#[]⟩, .slice none 0 0] 24)).alloc (.cells #[.string s, .int .i64 0] 59)).heap[w.heap.size + 1]? = some (.cells #[.string s, .int .i64 0] 59 (0, 0)) := by
    have := World.alloc_heap_new (w.alloc (.cells #[.int .i64 0, .int .i64 0, .string ⟨#[]⟩, .slice none 0 0] 24)) (.cells #[.string s, .int .i64 0] 59)
    rw [show (w.alloc (.cells #[.int .i64 0, .int .i64 0, .string ⟨#[]⟩, .slice none 0 0] 24)).heap.size = w.heap.size + 1 by simp] at this
    exact this
  have hZ : ((w.alloc (.cells #[.int .i64 0, .int .i64 0, .string ⟨#[]⟩, .slice none 0 0] 24)).alloc (.cells #[.string s, .int .i64 0] 59)).heap[w.heap.size]? = some (.cells #[.int .i64 0, .int .i64 0, .string ⟨#[]⟩, .slice none 0 0] 24 (0, 0)) := (Below.heap_alloc _ _ _ (by simp)).trans (World.alloc_heap_new w _)
  have HC := Lib.hid (rread_top (w.heap.size + 1) s at0 _ (RdR.of_heap hR) hs)
  have hW0 : ((w.alloc (.cells #[.int .i64 0, .int .i64 0, .string ⟨#[]⟩, .slice none 0 0] 24)).alloc (.cells #[.string s, .int .i64 0] 59)).heap.size = w.heap.size + 1 + 1 := by simp
  have HB0 := Lib.hid hB0
  have HZ := Lib.hid hZ
  have hE : ∃ t, rdAt s at0 = t := ⟨_, rfl⟩
  obtain ⟨t, hE⟩ := hE
  rw [hE] at HC
  clear hB0 hR hZ
  cases t with
  | error e =>
    rw [decI_err hE]
    clear hE
    go_enter Tryz.func16, Tryz.ntmps16
    go_wp2_with fail
    refine HC.out.mono ?_
    clear HC
    rintro e' w1 ⟨rfl, hF1⟩
    have hB1 := HB0.out.trans ((hF1.toBelow (by omega)).mono (by omega))
    have hZ1 := (hF1.block _ (lt_of_heap HZ.out) (by simp)).trans HZ.out
    have hz1 : w.heap.size < w1.heap.size := lt_of_heap hZ1
    have k0 := heap_cell hZ1 0 _ rfl
    have f0 := heap_frozen hZ1 0
    have k1 := heap_cell hZ1 1 _ rfl
    have f1 := heap_frozen hZ1 1
    have k2 := heap_cell hZ1 2 _ rfl
    have f2 := heap_frozen hZ1 2
    have k3 := heap_cell hZ1 3 _ rfl
    have f3 := heap_frozen hZ1 3
    have HB1 := Lib.hid hB1
    clear hB1 hZ1 hF1 HB0 HZ hW0
    go_wp2_with fail
    refine bodyPost_ret (v := .tuple #[.agg #[.int .i64 0, .int .i64 0, .string ⟨#[]⟩, .slice none 0 0], .int .i64 0, .int .i64 e]) (by simp [results, Tryz.results16, go_sem, k0, k1, k2, k3]) rfl ⟨0, 0, ⟨#[]⟩, none, 0, 0, rfl, ItV.zero, ?_⟩
    exact ((((HB1.out.setCell (by simp) _).setCell (by simp) _).setCell (by simp) _).setCell (by simp) _)
  | ok t =>
    obtain ⟨x, r, c'⟩ := t
    rw [decI_ok hE]
    clear hE
    go_enter Tryz.func16, Tryz.ntmps16
    go_wp2_with fail
    refine HC.out.mono ?_
    clear HC
    rintro e' w1 ⟨k, nn, q, p, l, cap, rfl, hx, hS1, hF1⟩
    have hB1 := HB0.out.trans ((hF1.toBelow (by omega)).mono (by omega))
    have hZ1 := (hF1.block _ (lt_of_heap HZ.out) (by simp)).trans HZ.out
    have hz1 : w.heap.size < w1.heap.size := lt_of_heap hZ1
    have hx1 : ItV (fun b => w.heap.size + 1 + 1 ≤ b) w1 x (.agg #[.int .i64 k, .int .i64 nn, .string q, .slice p l cap]) := by rw [hW0] at hx; exact hx
    have HX := Lib.hid hx1
    have k0 := heap_cell hZ1 0 _ rfl
    have f0 := heap_frozen hZ1 0
    have k1 := heap_cell hZ1 1 _ rfl
    have f1 := heap_frozen hZ1 1
    have k2 := heap_cell hZ1 2 _ rfl
    have f2 := heap_frozen hZ1 2
    have k3 := heap_cell hZ1 3 _ rfl
    have f3 := heap_frozen hZ1 3
    have HB1 := Lib.hid hB1
    clear hB1 hZ1 hF1 HB0 HZ hW0 hx hx1 hS1
    go_wp2_with fail
    refine bodyPost_ret (v := .tuple #[.agg #[.int .i64 k, .int .i64 nn, .string q, .slice p l cap], .int .i64 ((s.size - r.length : Nat) : Int), .int .i64 0]) (by simp [results, Tryz.results16, go_sem, k0, k1, k2, k3]) rfl ⟨k, nn, q, p, l, cap, rfl, ?_, ?_⟩
    · refine ItV.keep (fun a v hb e => ⟨?_, by omega⟩) x _ HX.out
      have hne : a.block ≠ w.heap.size := by omega
      exact ((cell_heap (Below.heap_setCell _ _ _ _ hne)).trans ((cell_heap (Below.heap_setCell _ _ _ _ hne)).trans ((cell_heap (Below.heap_setCell _ _ _ _ hne)).trans ((cell_heap (Below.heap_setCell _ _ _ _ hne)).trans e))))
    · exact ((((HB1.out.setCell (by simp) _).setCell (by simp) _).setCell (by simp) _).setCell (by simp) _)

/-- The whole, by what is decoded. -/
theorem wholeI_dec (s : ByteArray) : wholeI s = if (decI s 0).2.2 = 0 ∧ (decI s 0).2.1 ≠ (s.size : Int) then (.mk 0 0 [] [], 20) else ((decI s 0).1, (decI s 0).2.2) := by
  have hne := @rdAt_err_ne s 0
  have hok := @rdAt_ok s 0
  unfold wholeI decI
  cases h : rdAt s 0 with
  | error e => simp only; rw [if_neg (fun h' => hne h h'.1)]
  | ok t =>
    obtain ⟨x, r, c⟩ := t
    obtain ⟨i, hi0, hi1, hrl, _⟩ := hok h
    simp only
    by_cases h0 : r.length = 0
    · rw [if_pos h0, if_neg (by omega)]
    · rw [if_neg h0, if_pos ⟨trivial, by omega⟩]
theorem decI_bad (s : ByteArray) (at0 : Int) (h : (decI s at0).2.2 ≠ 0) : (decI s at0).1 = .mk 0 0 [] [] ∧ (decI s at0).2.1 = 0 := by
  unfold decI at h ⊢
  cases hr : rdAt s at0 with
  | error e => exact ⟨rfl, rfl⟩
  | ok t => obtain ⟨x, r, c⟩ := t; rw [hr] at h; exact absurd rfl h

set_option maxRecDepth 100000 in
set_option maxHeartbeats 4000000 in
theorem rwholeI_any (s : ByteArray) (w : World) (hs : s.size ≤ 1000000) :
    Calls Tryz.prog 18 #[.string s] w fun e' w' => ∃ (k nn : Int) (q : ByteArray) (p : Option Addr) (l cap : Nat), e' = .returned (.tuple #[.agg #[.int .i64 k, .int .i64 nn, .string q, .slice p l cap], .int .i64 (wholeI s).2]) ∧ ItV (fun b => w.heap.size ≤ b) w' (wholeI s).1 (.agg #[.int .i64 k, .int .i64 nn, .string q, .slice p l cap]) ∧ Below w.heap.size w w' := by
  have hB0 : Below w.heap.size w (w.alloc (.cells #[.int .i64 0, .int .i64 0, .string ⟨#[]⟩, .slice none 0 0] 24)) := (Below.refl _ _).alloc (Nat.le_refl _) _
  have hZ : (w.alloc (.cells #[.int .i64 0, .int .i64 0, .string ⟨#[]⟩, .slice none 0 0] 24)).heap[w.heap.size]? = some (.cells #[.int .i64 0, .int .i64 0, .string ⟨#[]⟩, .slice none 0 0] 24 (0, 0)) := World.alloc_heap_new w _
  have HC := Lib.hid (rdecodeI_any s 0 (w.alloc (.cells #[.int .i64 0, .int .i64 0, .string ⟨#[]⟩, .slice none 0 0] 24)) hs)
  have hW0 : (w.alloc (.cells #[.int .i64 0, .int .i64 0, .string ⟨#[]⟩, .slice none 0 0] 24)).heap.size = w.heap.size + 1 := by simp
  have HB0 := Lib.hid hB0
  have HZ := Lib.hid hZ
  clear hB0 hZ
  rw [wholeI_dec]
  generalize decI s 0 = t at *
  obtain ⟨x, b, e⟩ := t
  simp only at HC ⊢
  have hw : (e == 0) = true ∧ (b != (s.size : Int)) = true ∧ (e = 0 ∧ b ≠ (s.size : Int)) ∨ (e == 0) = true ∧ (b != (s.size : Int)) = false ∧ ¬ (e = 0 ∧ b ≠ (s.size : Int)) ∨ (e == 0) = false ∧ ¬ (e = 0 ∧ b ≠ (s.size : Int)) := by
    by_cases h1 : e = 0 <;> by_cases h2 : b = (s.size : Int) <;> simp [h1, h2]
  rcases hw with ⟨b1, b2, h⟩ | ⟨b1, b2, h⟩ | ⟨b1, h⟩
  · rw [if_pos h]
    clear h
    go_enter Tryz.func18, Tryz.ntmps18
    go_wp2_with fail
    refine HC.out.mono ?_
    clear HC
    rintro e' w1 ⟨k, nn, q, p, l, cap, rfl, hx, hb1⟩
    have hB1 := HB0.out.trans (hb1.mono (by omega))
    have hZ1 := (hb1.block _ (lt_of_heap HZ.out)).trans HZ.out
    have hz1 : w.heap.size < w1.heap.size := lt_of_heap hZ1
    have k0 := heap_cell hZ1 0 _ rfl
    have f0 := heap_frozen hZ1 0
    have k1 := heap_cell hZ1 1 _ rfl
    have f1 := heap_frozen hZ1 1
    have k2 := heap_cell hZ1 2 _ rfl
    have f2 := heap_frozen hZ1 2
    have k3 := heap_cell hZ1 3 _ rfl
    have f3 := heap_frozen hZ1 3
    have HB1 := Lib.hid hB1
    clear hB1 hZ1 hb1 HB0 HZ hW0 hx
    go_wp2_with fail
    refine bodyPost_ret (v := .tuple #[.agg #[.int .i64 0, .int .i64 0, .string ⟨#[]⟩, .slice none 0 0], .int .i64 20]) (by simp [results, Tryz.results18, go_sem, hz1, Nat.lt_succ_of_lt hz1, Nat.ne_of_lt hz1, k0, k1, k2, k3]) rfl ⟨0, 0, ⟨#[]⟩, none, 0, 0, rfl, ItV.zero, ?_⟩
    exact ((((HB1.out.setCell (by simp) _).setCell (by simp) _).setCell (by simp) _).setCell (by simp) _).alloc (by simp; omega) _
  · rw [if_neg h]
    clear h
    go_enter Tryz.func18, Tryz.ntmps18
    go_wp2_with fail
    refine HC.out.mono ?_
    clear HC
    rintro e' w1 ⟨k, nn, q, p, l, cap, rfl, hx, hb1⟩
    have hB1 := HB0.out.trans (hb1.mono (by omega))
    have hZ1 := (hb1.block _ (lt_of_heap HZ.out)).trans HZ.out
    have hz1 : w.heap.size < w1.heap.size := lt_of_heap hZ1
    have hx1 : ItV (fun b => w.heap.size + 1 ≤ b) w1 x (.agg #[.int .i64 k, .int .i64 nn, .string q, .slice p l cap]) := by rw [hW0] at hx; exact hx
    have HX := Lib.hid hx1
    have k0 := heap_cell hZ1 0 _ rfl
    have f0 := heap_frozen hZ1 0
    have k1 := heap_cell hZ1 1 _ rfl
    have f1 := heap_frozen hZ1 1
    have k2 := heap_cell hZ1 2 _ rfl
    have f2 := heap_frozen hZ1 2
    have k3 := heap_cell hZ1 3 _ rfl
    have f3 := heap_frozen hZ1 3
    have HB1 := Lib.hid hB1
    clear hB1 hZ1 hb1 HB0 HZ hW0 hx hx1
    go_wp2_with fail
    refine bodyPost_ret (v := .tuple #[.agg #[.int .i64 k, .int .i64 nn, .string q, .slice p l cap], .int .i64 e]) (by simp [results, Tryz.results18, go_sem, hz1, Nat.lt_succ_of_lt hz1, Nat.ne_of_lt hz1, k0, k1, k2, k3]) rfl ⟨k, nn, q, p, l, cap, rfl, ?_, ?_⟩
    · refine ItV.below ?_ ((Below.refl _ _).alloc (Nat.le_refl _) _)
      refine ItV.keep (fun a v hb e => ⟨?_, by omega⟩) x _ HX.out
      have hne : a.block ≠ w.heap.size := by omega
      exact ((cell_heap (Below.heap_setCell _ _ _ _ hne)).trans ((cell_heap (Below.heap_setCell _ _ _ _ hne)).trans ((cell_heap (Below.heap_setCell _ _ _ _ hne)).trans ((cell_heap (Below.heap_setCell _ _ _ _ hne)).trans e))))
    · exact ((((HB1.out.setCell (by simp) _).setCell (by simp) _).setCell (by simp) _).setCell (by simp) _).alloc (by simp; omega) _
  · rw [if_neg h]
    clear h
    go_enter Tryz.func18, Tryz.ntmps18
    go_wp2_with fail
    refine HC.out.mono ?_
    clear HC
    rintro e' w1 ⟨k, nn, q, p, l, cap, rfl, hx, hb1⟩
    have hB1 := HB0.out.trans (hb1.mono (by omega))
    have hZ1 := (hb1.block _ (lt_of_heap HZ.out)).trans HZ.out
    have hz1 : w.heap.size < w1.heap.size := lt_of_heap hZ1
    have hx1 : ItV (fun b => w.heap.size + 1 ≤ b) w1 x (.agg #[.int .i64 k, .int .i64 nn, .string q, .slice p l cap]) := by rw [hW0] at hx; exact hx
    have HX := Lib.hid hx1
    have k0 := heap_cell hZ1 0 _ rfl
    have f0 := heap_frozen hZ1 0
    have k1 := heap_cell hZ1 1 _ rfl
    have f1 := heap_frozen hZ1 1
    have k2 := heap_cell hZ1 2 _ rfl
    have f2 := heap_frozen hZ1 2
    have k3 := heap_cell hZ1 3 _ rfl
    have f3 := heap_frozen hZ1 3
    have HB1 := Lib.hid hB1
    clear hB1 hZ1 hb1 HB0 HZ hW0 hx hx1
    go_wp2_with fail
    refine bodyPost_ret (v := .tuple #[.agg #[.int .i64 k, .int .i64 nn, .string q, .slice p l cap], .int .i64 e]) (by simp [results, Tryz.results18, go_sem, hz1, Nat.lt_succ_of_lt hz1, Nat.ne_of_lt hz1, k0, k1, k2, k3]) rfl ⟨k, nn, q, p, l, cap, rfl, ?_, ?_⟩
    · refine ItV.below ?_ ((Below.refl _ _).alloc (Nat.le_refl _) _)
      refine ItV.keep (fun a v hb e => ⟨?_, by omega⟩) x _ HX.out
      have hne : a.block ≠ w.heap.size := by omega
      exact ((cell_heap (Below.heap_setCell _ _ _ _ hne)).trans ((cell_heap (Below.heap_setCell _ _ _ _ hne)).trans ((cell_heap (Below.heap_setCell _ _ _ _ hne)).trans ((cell_heap (Below.heap_setCell _ _ _ _ hne)).trans e))))
    · exact ((((HB1.out.setCell (by simp) _).setCell (by simp) _).setCell (by simp) _).setCell (by simp) _).alloc (by simp; omega) _
end Go.Proofs.YtljfgchmogdljaaGreatDoor
