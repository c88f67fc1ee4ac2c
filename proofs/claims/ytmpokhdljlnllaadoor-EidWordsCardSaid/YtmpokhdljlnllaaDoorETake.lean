/- Contracts of a parser's upTo and of what takes the parts of each scheme, of package eid. -/
import Derived.Test.YtmpokhdljlnllaaDoorEHome
set_option linter.unusedVariables false
set_option linter.unusedSimpArgs false
namespace Go.Proofs.YtmpokhdljlnllaaDoor
open Go.RowKit

abbrev Fr (R : Nat) (W W' : World) : Prop := W.grownBy W' (some R)
theorem Fr.below {R : Nat} {W W' : World} (hb : Below W.heap.size W W') : Fr R W W' := ⟨hb.os, hb.tape, hb.output, hb.size, fun k hk _ => hb.block k hk⟩
theorem Fr.set (R o : Nat) (W : World) (v : Value) : Fr R W (W.setCell ⟨R, o, none⟩ v) := ⟨rfl, rfl, rfl, by simp, fun k _ hk => Below.heap_setCell _ _ _ k (fun e => hk (by rw [e]))⟩
theorem Fr.trans {R : Nat} {A B C : World} (h : Fr R A B) (k : Fr R B C) : Fr R A C :=
  ⟨k.os.trans h.os, k.tape.trans h.tape, k.output.trans h.output, Nat.le_trans h.size k.size, fun i hi hne => (k.block i (Nat.lt_of_lt_of_le hi h.size) hne).trans (h.block i hi hne)⟩
theorem Fr.refl (R : Nat) (W : World) : Fr R W W := Fr.below (Below.refl _ _)
theorem Fr.toBelow {R : Nat} {W W' : World} (h : Fr R W W') (hR : R ≤ W.heap.size) : Below R W W' := ⟨h.os, h.tape, h.output, h.size, fun k hk => by
  by_cases hl : k < W.heap.size
  · exact h.block k hl (by intro e; cases e; omega)
  · omega⟩

theorem cell_heap {W W' : World} {p : Addr} (e : W'.heap[p.block]? = W.heap[p.block]?) : W'.cell? p = W.cell? p := by unfold World.cell?; rw [e]
theorem frozen_heap {W W' : World} {p : Addr} (e : W'.heap[p.block]? = W.heap[p.block]?) : W'.frozen? p = W.frozen? p := by unfold World.frozen?; rw [e]
theorem frCell {R : Nat} {W W' : World} {p : Addr} (h : Fr R W W') (hne : p.block ≠ R) (hl : p.block < W.heap.size) : W'.cell? p = W.cell? p := cell_heap (h.block _ hl (fun e => hne (by cases e; rfl)))
theorem frFrozen {R : Nat} {W W' : World} {p : Addr} (h : Fr R W W') (hne : p.block ≠ R) (hl : p.block < W.heap.size) : W'.frozen? p = W.frozen? p := frozen_heap (h.block _ hl (fun e => hne (by cases e; rfl)))
/-- A store into a block that is new. -/
theorem frNew {R : Nat} {w A : World} (h : Fr R w A) {b : Nat} (hb : w.heap.size ≤ b) (o : Nat) (v : Value) : Fr R w (A.setCell ⟨b, o, none⟩ v) :=
  ⟨h.os, h.tape, h.output, by have := h.size; simpa using this, fun k hk hne => (Below.heap_setCell _ _ _ k (by show k ≠ b; omega)).trans (h.block k hk hne)⟩
theorem frAlloc {R : Nat} {w A : World} (h : Fr R w A) (o : Obj) : Fr R w (A.alloc o) := h.trans (Fr.below ((Below.refl _ _).alloc (Nat.le_refl _) _))

/-- A parser lies at R: its name, and what is left. -/
structure Par (R : Nat) (k : Int) (nd sv : ByteArray) (a b : Int) (l : ByteArray) (W : World) : Prop where
  c0 : W.cell? ⟨R, 0, none⟩ = some (.int .i64 k)
  c1 : W.cell? ⟨R, 1, none⟩ = some (.string nd)
  c2 : W.cell? ⟨R, 2, none⟩ = some (.string sv)
  c3 : W.cell? ⟨R, 3, none⟩ = some (.int .i64 a)
  c4 : W.cell? ⟨R, 4, none⟩ = some (.int .i64 b)
  c5 : W.cell? ⟨R, 5, none⟩ = some (.string l)
  f0 : W.frozen? ⟨R, 0, none⟩ = false
  f1 : W.frozen? ⟨R, 1, none⟩ = false
  f2 : W.frozen? ⟨R, 2, none⟩ = false
  f3 : W.frozen? ⟨R, 3, none⟩ = false
  f4 : W.frozen? ⟨R, 4, none⟩ = false
  f5 : W.frozen? ⟨R, 5, none⟩ = false
theorem Par.below {R : Nat} {k : Int} {nd sv : ByteArray} {a b : Int} {l : ByteArray} {W W' : World} (h : Par R k nd sv a b l W) (hb : Below W.heap.size W W') : Par R k nd sv a b l W' := by
  have c : ∀ {p : Addr} {v : Value}, W.cell? p = some v → W'.cell? p = some v := fun e => (hb.cell (World.block_lt_of_cell? _ _ e)).trans e
  have f : ∀ {p : Addr} {v : Value}, W.cell? p = some v → W.frozen? p = false → W'.frozen? p = false := fun e z => (hb.frozen (World.block_lt_of_cell? _ _ e)).trans z
  exact ⟨c h.c0, c h.c1, c h.c2, c h.c3, c h.c4, c h.c5, f h.c0 h.f0, f h.c1 h.f1, f h.c2 h.f2, f h.c3 h.f3, f h.c4 h.f4, f h.c5 h.f5⟩
theorem Par.setNd {R : Nat} {k : Int} {nd sv : ByteArray} {a b : Int} {l : ByteArray} {W : World} (h : Par R k nd sv a b l W) (x : ByteArray) : Par R k x sv a b l (W.setCell ⟨R, 1, none⟩ (.string x)) :=
  ⟨(by have := h.c0; go_simp), World.cell?_setCell_same' _ _ _ (by rw [h.c1]; rfl), (by have := h.c2; go_simp), (by have := h.c3; go_simp), (by have := h.c4; go_simp), (by have := h.c5; go_simp), (by rw [World.frozen?_setCell]; exact h.f0), (by rw [World.frozen?_setCell]; exact h.f1), (by rw [World.frozen?_setCell]; exact h.f2), (by rw [World.frozen?_setCell]; exact h.f3), (by rw [World.frozen?_setCell]; exact h.f4), (by rw [World.frozen?_setCell]; exact h.f5)⟩
theorem Par.setSv {R : Nat} {k : Int} {nd sv : ByteArray} {a b : Int} {l : ByteArray} {W : World} (h : Par R k nd sv a b l W) (x : ByteArray) : Par R k nd x a b l (W.setCell ⟨R, 2, none⟩ (.string x)) :=
  ⟨(by have := h.c0; go_simp), (by have := h.c1; go_simp), World.cell?_setCell_same' _ _ _ (by rw [h.c2]; rfl), (by have := h.c3; go_simp), (by have := h.c4; go_simp), (by have := h.c5; go_simp), (by rw [World.frozen?_setCell]; exact h.f0), (by rw [World.frozen?_setCell]; exact h.f1), (by rw [World.frozen?_setCell]; exact h.f2), (by rw [World.frozen?_setCell]; exact h.f3), (by rw [World.frozen?_setCell]; exact h.f4), (by rw [World.frozen?_setCell]; exact h.f5)⟩
theorem Par.setA {R : Nat} {k : Int} {nd sv : ByteArray} {a b : Int} {l : ByteArray} {W : World} (h : Par R k nd sv a b l W) (x : Int) : Par R k nd sv x b l (W.setCell ⟨R, 3, none⟩ (.int .i64 x)) :=
  ⟨(by have := h.c0; go_simp), (by have := h.c1; go_simp), (by have := h.c2; go_simp), World.cell?_setCell_same' _ _ _ (by rw [h.c3]; rfl), (by have := h.c4; go_simp), (by have := h.c5; go_simp), (by rw [World.frozen?_setCell]; exact h.f0), (by rw [World.frozen?_setCell]; exact h.f1), (by rw [World.frozen?_setCell]; exact h.f2), (by rw [World.frozen?_setCell]; exact h.f3), (by rw [World.frozen?_setCell]; exact h.f4), (by rw [World.frozen?_setCell]; exact h.f5)⟩
theorem Par.setB {R : Nat} {k : Int} {nd sv : ByteArray} {a b : Int} {l : ByteArray} {W : World} (h : Par R k nd sv a b l W) (x : Int) : Par R k nd sv a x l (W.setCell ⟨R, 4, none⟩ (.int .i64 x)) :=
  ⟨(by have := h.c0; go_simp), (by have := h.c1; go_simp), (by have := h.c2; go_simp), (by have := h.c3; go_simp), World.cell?_setCell_same' _ _ _ (by rw [h.c4]; rfl), (by have := h.c5; go_simp), (by rw [World.frozen?_setCell]; exact h.f0), (by rw [World.frozen?_setCell]; exact h.f1), (by rw [World.frozen?_setCell]; exact h.f2), (by rw [World.frozen?_setCell]; exact h.f3), (by rw [World.frozen?_setCell]; exact h.f4), (by rw [World.frozen?_setCell]; exact h.f5)⟩
theorem Par.setL {R : Nat} {k : Int} {nd sv : ByteArray} {a b : Int} {l : ByteArray} {W : World} (h : Par R k nd sv a b l W) (x : ByteArray) : Par R k nd sv a b x (W.setCell ⟨R, 5, none⟩ (.string x)) :=
  ⟨(by have := h.c0; go_simp), (by have := h.c1; go_simp), (by have := h.c2; go_simp), (by have := h.c3; go_simp), (by have := h.c4; go_simp), World.cell?_setCell_same' _ _ _ (by rw [h.c5]; rfl), (by rw [World.frozen?_setCell]; exact h.f0), (by rw [World.frozen?_setCell]; exact h.f1), (by rw [World.frozen?_setCell]; exact h.f2), (by rw [World.frozen?_setCell]; exact h.f3), (by rw [World.frozen?_setCell]; exact h.f4), (by rw [World.frozen?_setCell]; exact h.f5)⟩

/-- The library's variables, where block R is written. -/
def EnvB (R : Nat) (w : World) : Prop := ∃ w0 : World, EnvN w0 ∧ w0.heap.size ≤ R ∧ Below w0.heap.size w0 w
theorem EnvB.ok {R : Nat} {w : World} (h : EnvB R w) : EnvN w := by
  obtain ⟨w0, hE, _, hb⟩ := h
  exact hE.below hb
theorem EnvB.fr {R : Nat} {w w' : World} (h : EnvB R w) (hf : Fr R w w') : EnvB R w' := by
  obtain ⟨w0, hE, hR, hb⟩ := h
  refine ⟨w0, hE, hR, hb.trans ⟨hf.os, hf.tape, hf.output, hf.size, fun j hj => hf.block j (Nat.lt_of_lt_of_le hj hb.size) (fun e => by cases e; omega)⟩⟩

/-- What stands ahead of a mark, and behind it. -/
def cutA (s m : ByteArray) : ByteArray := ⟨(Lib.cut s.data.toList m.data.toList).1.toArray⟩
def cutB (s m : ByteArray) : ByteArray := ⟨(Lib.cut s.data.toList m.data.toList).2.1.toArray⟩
theorem cutB_size (s m : ByteArray) : (cutB s m).size ≤ s.size := by
  unfold cutB Lib.cut
  show (List.toArray _).size ≤ _
  split
  · simp
  · simp
theorem cutA_size (s m : ByteArray) : (cutA s m).size ≤ s.size := by
  unfold cutA Lib.cut
  show (List.toArray _).size ≤ _
  split
  · simp; omega
  · simp

set_option maxRecDepth 100000 in
set_option maxHeartbeats 2000000 in
theorem upTo_any (R : Nat) (k : Int) (nd sv : ByteArray) (a b : Int) (l m : ByteArray) (w : World) (hE : EnvB R w) (hP : Par R k nd sv a b l w) (hl : l.size ≤ 4000000000) :
    Calls Tryd.prog 53 #[.pointer (some ⟨R, 0, none⟩), .string m] w fun e w' => e = .returned (.string (cutA l m)) ∧ Par R k nd sv a b (cutB l m) w' ∧ Fr R w w' := by
  have HC := Lib.hid (cutS_any l m w hE.ok hl)
  have HP := Lib.hid hP
  have c5 := hP.c5
  change Hid (Calls _ _ _ _ fun e w' => e = .returned (.tuple #[.string (cutA l m), .string (cutB l m), .bool (Lib.cut l.data.toList m.data.toList).2.2]) ∧ Below w.heap.size w w') at HC
  generalize (Lib.cut l.data.toList m.data.toList).2.2 = fnd at HC
  generalize cutA l m = ca at *
  generalize cutB l m = cb at *
  clear hE hP
  go_enter Tryd.func53, Tryd.ntmps53
  go_wp2_with fail
  refine HC.out.mono ?_
  rintro e w1 ⟨rfl, hb1⟩
  have HP1 := Lib.hid (HP.out.below hb1)
  have HF1 := Lib.hid (Fr.below (R := R) hb1)
  have d5 := HP1.out.c5
  have e5 := HP1.out.f5
  clear hb1 HC HP c5
  go_wp2
  go_ret
  exact ⟨rfl, HP1.out.setL cb, HF1.out.trans (Fr.set R 5 _ _)⟩

set_option maxHeartbeats 1000000 in
theorem takeNone_any (R : Nat) (w : World) :
    Calls Tryd.prog 41 #[.pointer (some ⟨R, 0, none⟩)] w fun e w' => (∃ v, e = .returned v) ∧ w' = w := by
  go_enter Tryd.func41, Tryd.ntmps41
  go_wp2
  go_end0
  exact ⟨⟨_, rfl⟩, rfl⟩

set_option maxRecDepth 100000 in
set_option maxHeartbeats 4000000 in
theorem takeDtn_any (R : Nat) (k : Int) (nd sv : ByteArray) (a b : Int) (l : ByteArray) (w : World) (hE : EnvB R w) (hP : Par R k nd sv a b l w) (hl : l.size ≤ 4000000000) :
    Calls Tryd.prog 44 #[.pointer (some ⟨R, 0, none⟩)] w fun e w' => (∃ v, e = .returned v) ∧ (∃ l', Par R k (cutA (cutB l ⟨#[47, 47]⟩) ⟨#[47]⟩) (cutB (cutB l ⟨#[47, 47]⟩) ⟨#[47]⟩) a b l' w') ∧ Fr R w w' := by
  have H1 := Lib.hid (upTo_any R k nd sv a b l ⟨#[47, 47]⟩ w hE hP hl)
  have hl2 := Nat.le_trans (cutB_size l ⟨#[47, 47]⟩) hl
  generalize cutB l ⟨#[47, 47]⟩ = l1 at *
  generalize cutA l ⟨#[47, 47]⟩ = x1 at *
  have H2 := Lib.hid (fun (W : World) (hE : EnvB R W) (hP : Par R k nd sv a b l1 W) => upTo_any R k nd sv a b l1 ⟨#[47]⟩ W hE hP hl2)
  generalize cutB l1 ⟨#[47]⟩ = l2 at *
  generalize cutA l1 ⟨#[47]⟩ = x2 at *
  have HE := Lib.hid hE
  clear hE hP hl hl2
  go_enter Tryd.func44, Tryd.ntmps44
  go_wp2_with fail
  refine H1.out.mono ?_
  rintro e w1 ⟨rfl, hP1, hF1⟩
  have H3 := Lib.hid (H2.out w1 (HE.out.fr hF1) hP1)
  have HF1 := Lib.hid hF1
  clear hP1 hF1 H1 H2 HE
  go_wp2_with fail
  refine H3.out.mono ?_
  rintro e w2 ⟨rfl, hP2, hF2⟩
  have HF2 := Lib.hid (HF1.out.trans hF2)
  have HP2 := Lib.hid ((hP2.setNd x2).setSv l2)
  have c1 := hP2.c1
  have g1 := hP2.f1
  have c2 := hP2.c2
  have g2 := hP2.f2
  have c5 := hP2.c5
  clear hP2 hF2 HF1 H3
  go_wp2_with fail
  go_end0
  exact ⟨⟨_, rfl⟩, ⟨_, HP2.out⟩, (HF2.out.trans (Fr.set R 1 _ _)).trans (Fr.set R 2 _ _)⟩

set_option maxRecDepth 100000 in
set_option maxHeartbeats 4000000 in
theorem takeIpn_any (R : Nat) (k : Int) (nd sv : ByteArray) (a b : Int) (l : ByteArray) (w : World) (hE : EnvB R w) (hP : Par R k nd sv a b l w) (hl : l.size ≤ 4000000000) :
    Calls Tryd.prog 47 #[.pointer (some ⟨R, 0, none⟩)] w fun e w' => (∃ v, e = .returned v) ∧ (∃ l', Par R k nd sv (numP (cutA l ⟨#[46]⟩).data.toList) (numP (cutB l ⟨#[46]⟩).data.toList) l' w') ∧ Fr R w w' := by
  have H1 := Lib.hid (upTo_any R k nd sv a b l ⟨#[46]⟩ w hE hP hl)
  have hlA := Nat.le_trans (cutA_size l ⟨#[46]⟩) hl
  have hlB := Nat.le_trans (cutB_size l ⟨#[46]⟩) hl
  generalize cutB l ⟨#[46]⟩ = l1 at *
  generalize cutA l ⟨#[46]⟩ = x1 at *
  have H2 := Lib.hid (fun (W : World) (hE : EnvB R W) => enumber_any x1 W hE.ok hlA)
  have H3 := Lib.hid (fun (W : World) (hE : EnvB R W) => enumber_any l1 W hE.ok hlB)
  generalize numP x1.data.toList = n1 at *
  generalize numP l1.data.toList = n2 at *
  have HE := Lib.hid hE
  clear hE hP hl hlA hlB
  go_enter Tryd.func47, Tryd.ntmps47
  go_wp2_with fail
  refine H1.out.mono ?_
  rintro e w1 ⟨rfl, hP1, hF1⟩
  have H2a := Lib.hid (H2.out w1 (HE.out.fr hF1))
  have HF1 := Lib.hid hF1
  have HP1 := Lib.hid hP1
  clear hP1 hF1 H1 H2
  go_wp2_with fail
  refine H2a.out.mono ?_
  rintro e w2 ⟨rfl, hb2⟩
  have HF2 := Lib.hid ((HF1.out.trans (Fr.below hb2)).trans (Fr.set R 3 _ (.int .i64 n1)))
  have hP2 := HP1.out.below hb2
  have HP2 := Lib.hid (hP2.setA n1)
  have c3 := hP2.c3
  have g3 := hP2.f3
  have H3a := Lib.hid (H3.out _ (HE.out.fr HF2.out))
  have c5 := hP2.c5
  clear hP2 hb2 HF1 HP1 H2a H3
  go_wp2_with fail
  refine H3a.out.mono ?_
  rintro e w3 ⟨rfl, hb3⟩
  have HF3 := Lib.hid ((HF2.out.trans (Fr.below hb3)).trans (Fr.set R 4 _ (.int .i64 n2)))
  have hP3 := HP2.out.below hb3
  have HP3 := Lib.hid (hP3.setB n2)
  have c4 := hP3.c4
  have g4 := hP3.f4
  clear hP3 hb3 HF2 HP2 H3a c3 g3 c5
  go_wp2_with fail
  go_end0
  exact ⟨⟨_, rfl⟩, ⟨_, HP3.out⟩, HF3.out⟩
end Go.Proofs.YtmpokhdljlnllaaDoor
