/- Contracts of the text that a reader of package item embeds: wrong, ahead, cut. -/
import Derived.Test.YtmbmolgkccjedaaGreatDoorILay
import Derived.Test.YtmbmolgkccjedaaGreatDoorNumsCut
set_option linter.unusedVariables false
set_option linter.unusedSimpArgs false
namespace Go.Proofs.YtmbmolgkccjedaaGreatDoor
open Go.RowKit

/-- A reader in memory: its text, its place, how many items it began, how deep the next one stands. -/
structure RdS (R : Nat) (s : ByteArray) (at0 c d : Int) (W : World) : Prop where
  c0 : W.cell? ⟨R, 0, none⟩ = some (.string s)
  c1 : W.cell? ⟨R, 1, none⟩ = some (.int .i64 at0)
  c2 : W.cell? ⟨R, 2, none⟩ = some (.int .i64 c)
  c3 : W.cell? ⟨R, 3, none⟩ = some (.int .i64 d)
  f0 : W.frozen? ⟨R, 0, none⟩ = false
  f1 : W.frozen? ⟨R, 1, none⟩ = false
  f2 : W.frozen? ⟨R, 2, none⟩ = false
  f3 : W.frozen? ⟨R, 3, none⟩ = false
theorem RdS.lt {R : Nat} {s : ByteArray} {at0 c d : Int} {W : World} (h : RdS R s at0 c d W) : R < W.heap.size := World.block_lt_of_cell? _ _ h.c0
theorem RdS.below {R : Nat} {s : ByteArray} {at0 c d : Int} {W W' : World} (h : RdS R s at0 c d W) (hb : Below W.heap.size W W') : RdS R s at0 c d W' := by
  have hl := h.lt
  exact ⟨(hb.cell (p := ⟨R, 0, none⟩) hl).trans h.c0, (hb.cell (p := ⟨R, 1, none⟩) hl).trans h.c1, (hb.cell (p := ⟨R, 2, none⟩) hl).trans h.c2, (hb.cell (p := ⟨R, 3, none⟩) hl).trans h.c3, (hb.frozen (p := ⟨R, 0, none⟩) hl).trans h.f0, (hb.frozen (p := ⟨R, 1, none⟩) hl).trans h.f1, (hb.frozen (p := ⟨R, 2, none⟩) hl).trans h.f2, (hb.frozen (p := ⟨R, 3, none⟩) hl).trans h.f3⟩
theorem RdS.at {R : Nat} {s : ByteArray} {at0 c d : Int} {W : World} (h : RdS R s at0 c d W) (x : Int) : RdS R s x c d (W.setCell ⟨R, 1, none⟩ (.int .i64 x)) := by
  have h0 := h.c0
  have h1 := h.c1
  have h2 := h.c2
  have h3 := h.c3
  have g0 := h.f0
  have g1 := h.f1
  have g2 := h.f2
  have g3 := h.f3
  constructor <;> simp [go_sem, *]
theorem RdS.count {R : Nat} {s : ByteArray} {at0 c d : Int} {W : World} (h : RdS R s at0 c d W) (x : Int) : RdS R s at0 x d (W.setCell ⟨R, 2, none⟩ (.int .i64 x)) := by
  have h0 := h.c0
  have h1 := h.c1
  have h2 := h.c2
  have h3 := h.c3
  have g0 := h.f0
  have g1 := h.f1
  have g2 := h.f2
  have g3 := h.f3
  constructor <;> simp [go_sem, *]
theorem RdS.deep {R : Nat} {s : ByteArray} {at0 c d : Int} {W : World} (h : RdS R s at0 c d W) (x : Int) : RdS R s at0 c x (W.setCell ⟨R, 3, none⟩ (.int .i64 x)) := by
  have h0 := h.c0
  have h1 := h.c1
  have h2 := h.c2
  have h3 := h.c3
  have g0 := h.f0
  have g1 := h.f1
  have g2 := h.f2
  have g3 := h.f3
  constructor <;> simp [go_sem, *]

/-- All blocks but R stay. -/
abbrev Fr (R : Nat) (W W' : World) : Prop := W.grownBy W' (some R)
theorem Fr.below {R : Nat} {W W' : World} (hb : Below W.heap.size W W') : Fr R W W' := ⟨hb.os, hb.tape, hb.output, hb.size, fun k hk _ => hb.block k hk⟩
theorem Fr.set (R o : Nat) (W : World) (v : Value) : Fr R W (W.setCell ⟨R, o, none⟩ v) := ⟨rfl, rfl, rfl, by simp, fun k _ hk => Below.heap_setCell _ _ _ k (fun e => hk (by rw [e]))⟩
theorem Fr.trans {R : Nat} {A B C : World} (h : Fr R A B) (k : Fr R B C) : Fr R A C :=
  ⟨k.os.trans h.os, k.tape.trans h.tape, k.output.trans h.output, Nat.le_trans h.size k.size, fun i hi hne => (k.block i (Nat.lt_of_lt_of_le hi h.size) hne).trans (h.block i hi hne)⟩
theorem Fr.refl (R : Nat) (W : World) : Fr R W W := Fr.below (Below.refl _ _)
theorem Fr.toBelow {R : Nat} {W W' : World} (h : Fr R W W') (hR : R ≤ W.heap.size) : Below R W W' := ⟨h.os, h.tape, h.output, h.size, fun k hk => by
  by_cases hl : k < W.heap.size
  · exact h.block k hl (by intro e; cases e; omega)
  · omega⟩

theorem cell_heap {W W' : World} {p : Addr} (e : W'.heap[p.block]? = W.heap[p.block]?) : W'.cell? p = W.cell? p := by unfold World.cell?; rw [e]
theorem frozen_heap {W W' : World} {p : Addr} (e : W'.heap[p.block]? = W.heap[p.block]?) : W'.frozen? p = W.frozen? p := by unfold World.frozen?; rw [e]
theorem frCell {R : Nat} {W W' : World} {p : Addr} (h : Fr R W W') (hne : p.block ≠ R) (hl : p.block < W.heap.size) : W'.cell? p = W.cell? p := cell_heap (h.block _ hl (fun e => hne (by cases e; rfl)))
theorem frFrozen {R : Nat} {W W' : World} {p : Addr} (h : Fr R W W') (hne : p.block ≠ R) (hl : p.block < W.heap.size) : W'.frozen? p = W.frozen? p := frozen_heap (h.block _ hl (fun e => hne (by cases e; rfl)))
theorem RdS.heap {R : Nat} {s : ByteArray} {at0 c d : Int} {W W' : World} (h : RdS R s at0 c d W) (e : W'.heap[R]? = W.heap[R]?) : RdS R s at0 c d W' :=
  ⟨(cell_heap (p := ⟨R, 0, none⟩) e).trans h.c0, (cell_heap (p := ⟨R, 1, none⟩) e).trans h.c1, (cell_heap (p := ⟨R, 2, none⟩) e).trans h.c2, (cell_heap (p := ⟨R, 3, none⟩) e).trans h.c3, (frozen_heap (p := ⟨R, 0, none⟩) e).trans h.f0, (frozen_heap (p := ⟨R, 1, none⟩) e).trans h.f1, (frozen_heap (p := ⟨R, 2, none⟩) e).trans h.f2, (frozen_heap (p := ⟨R, 3, none⟩) e).trans h.f3⟩
theorem RdS.other {R : Nat} {s : ByteArray} {at0 c d : Int} {W : World} (h : RdS R s at0 c d W) {b : Nat} (hb : b ≠ R) (o : Nat) (v : Value) : RdS R s at0 c d (W.setCell ⟨b, o, none⟩ v) := h.heap (Below.heap_setCell _ _ _ _ (fun e => hb e.symm))
/-- A store into a block that is new. -/
theorem frNew {R : Nat} {w A : World} (h : Fr R w A) {b : Nat} (hb : w.heap.size ≤ b) (o : Nat) (v : Value) : Fr R w (A.setCell ⟨b, o, none⟩ v) :=
  ⟨h.os, h.tape, h.output, by have := h.size; simpa using this, fun k hk hne => (Below.heap_setCell _ _ _ k (by show k ≠ b; omega)).trans (h.block k hk hne)⟩
theorem frAlloc {R : Nat} {w A : World} (h : Fr R w A) (o : Obj) : Fr R w (A.alloc o) := h.trans (Fr.below ((Below.refl _ _).alloc (Nat.le_refl _) _))

/-- A fault of the number e, at a place. -/
def placedV (p e : Int) : Value := .iface 247 (.agg #[.int .i64 p, .iface 106 (.agg #[.int .i64 e])])
theorem placedV_wrong (p e : Int) : Wrong e (placedV p e) := .inr ⟨p, rfl⟩

set_option maxHeartbeats 400000 in
theorem wrong_any (R : Nat) (s : ByteArray) (at0 c d e : Int) (w : World) (hS : RdS R s at0 c d w) :
    Calls Tryz.prog 138 #[.pointer (some ⟨R, 0, none⟩), .int .i64 e] w fun e' w' => e' = .returned (placedV at0 e) ∧ w = w' := by
  have h1 := hS.c1
  unfold placedV
  go_enter Tryz.func138, Tryz.ntmps138
  go_wp2
  go_ret
  exact ⟨rfl, rfl⟩

set_option maxRecDepth 100000 in
set_option maxHeartbeats 2000000 in
theorem ahead_any (R : Nat) (s : ByteArray) (at0 c d m n b e : Int) (w : World) (hH : HeadOK w) (hS : RdS R s at0 c d w) (hs : s.size ≤ 1000000) (hD : hdecR s at0 = (m, n, b, e)) :
    Calls Tryz.prog 139 #[.pointer (some ⟨R, 0, none⟩)] w fun e' w' => if e = 0 then e' = .returned (.tuple #[.int .i64 m, .int .i64 n, .nilIface]) ∧ RdS R s b c d w' ∧ Fr R w w' else e' = .returned (.tuple #[.int .i64 0, .int .i64 0, placedV at0 e]) ∧ Fr R w w' := by
  have h0 := hS.c0
  have h1 := hS.c1
  have hl := hS.lt
  have HD := Lib.hid hD
  have HS := Lib.hid hS
  have HH := Lib.hid hH
  clear hD hS hH
  go_enter Tryz.func139, Tryz.ntmps139
  go_wp2_with fail
  go_region_held3 (fun w' => w'.cell? ⟨R, 0, none⟩ = some (.string s) ∧ w'.cell? ⟨R, 1, none⟩ = some (.int .i64 at0))
    (first
      | exact ⟨h0, h1⟩
      | exact ⟨(hb1.cell (p := ⟨R, 0, none⟩) (by simp <;> omega)).trans (by simpa using h0), (hb1.cell (p := ⟨R, 1, none⟩) (by simp <;> omega)).trans (by simpa using h1)⟩
      | go_keep)
    (first
      | (go_at_call 153; refine (hdecode_any _ _ _ (HH.out.below ((Below.refl _ _).drew)) hs).mono ?_; rintro e w1 ⟨rfl, hb1⟩; rw [HD.out]))
  have hW1 : Below w.heap.size w w1 := (Below.refl w.heap.size w).drew.trans (hb1.mono (by simp))
  have hS1 := HS.out.below hW1
  have c1 := hS1.c1
  have g1 := hS1.f1
  have HF := Lib.hid (Fr.below (R := R) hW1)
  have HS1 := Lib.hid hS1
  clear hb1 hW1 hS1 h0 h1
  by_cases he : e = 0
  · subst he
    go_wp2_with fail
    go_ret3
    exact ⟨rfl, HS1.out.at b, HF.out.trans (Fr.set R 1 _ _)⟩
  · have b1 : (e != 0) = true := by simpa using he
    have HE := Lib.hid he
    clear he
    go_wp2_with fail
    refine (wrong_any R s at0 c d e _ HS1.out).mono ?_
    rintro e' w' ⟨rfl, rfl⟩
    go_wp2_with fail
    go_ret3
    exact ⟨rfl, HF.out⟩

set_option maxRecDepth 100000 in
set_option maxHeartbeats 2000000 in
theorem tcut_any (R : Nat) (s : ByteArray) (at0 c d n : Int) (q : ByteArray) (e : Int) (w : World) (hH : HeadOK w) (hS : RdS R s at0 c d w) (hs : s.size ≤ 1000000) (hD : cutR s at0 n = (q, e)) (ha : at0 ≤ 1000000) (ha0 : 0 ≤ at0) (hn0 : 0 ≤ n) (hn : n ≤ 600) :
    Calls Tryz.prog 179 #[.pointer (some ⟨R, 0, none⟩), .int .i64 n] w fun e' w' => if e = 0 then e' = .returned (.tuple #[.string q, .nilIface]) ∧ RdS R s (at0 + n) c d w' ∧ Fr R w w' else e' = .returned (.tuple #[.string ⟨#[]⟩, placedV at0 e]) ∧ Fr R w w' := by
  have h0 := hS.c0
  have h1 := hS.c1
  have hl := hS.lt
  have HD := Lib.hid hD
  have HS := Lib.hid hS
  have HH := Lib.hid hH
  clear hD hS hH
  obtain ⟨a0, a1, a2, b0, b1, b2, b3, hN, _⟩ := HH.out
  have HN := Lib.hid hN
  clear hN
  go_enter Tryz.func179, Tryz.ntmps179
  go_wp2_with fail
  go_region_held3 (fun w' => w'.cell? ⟨R, 0, none⟩ = some (.string s) ∧ w'.cell? ⟨R, 1, none⟩ = some (.int .i64 at0))
    (first
      | exact ⟨h0, h1⟩
      | exact ⟨(hb1.cell (p := ⟨R, 0, none⟩) (by simp <;> omega)).trans (by simpa using h0), (hb1.cell (p := ⟨R, 1, none⟩) (by simp <;> omega)).trans (by simpa using h1)⟩
      | go_keep)
    (first
      | (go_at_call 195; refine (cut_any a0 a1 a2 _ _ _ _ (HN.out.below ((Below.refl _ _).drew)) (by omega)).mono ?_; rintro e w1 ⟨rfl, hb1⟩; rw [HD.out]))
  have hW1 : Below w.heap.size w w1 := (Below.refl w.heap.size w).drew.trans (hb1.mono (by simp))
  have hS1 := HS.out.below hW1
  have c1 := hS1.c1
  have g1 := hS1.f1
  have HF := Lib.hid (Fr.below (R := R) hW1)
  have HS1 := Lib.hid hS1
  clear hb1 hW1 hS1 h0 h1
  by_cases he : e = 0
  · subst he
    go_wp2_with fail
    go_ret2
    exact ⟨rfl, HS1.out.at _, HF.out.trans (Fr.set R 1 _ _)⟩
  · have b1 : (e != 0) = true := by simpa using he
    have HE := Lib.hid he
    clear he
    go_wp2_with fail
    refine (wrong_any R s at0 c d e _ HS1.out).mono ?_
    rintro e' w' ⟨rfl, rfl⟩
    go_wp2_with fail
    go_ret2
    exact ⟨rfl, HF.out⟩

set_option maxHeartbeats 400000 in
theorem ibadi_any (tv : TypeId) (v : Value) (w : World) :
    Calls Tryz.prog 137 #[.iface tv v] w fun e w' => e = .returned (.agg #[.int .i64 0, .int .i64 0, .string ⟨#[]⟩, .slice none 0 0, .iface tv v]) ∧ Below w.heap.size w w' := by
  go_enter Tryz.func137, Tryz.ntmps137
  go_wp2
  refine bodyPost_ret (v := .agg #[.int .i64 0, .int .i64 0, .string ⟨#[]⟩, .slice none 0 0, .iface tv v]) (by simp [results, Tryz.results137, go_sem]) rfl ⟨rfl, ?_⟩
  exact (Below.refl _ _).alloc (Nat.le_refl _) _

set_option maxHeartbeats 400000 in
theorem ibadp_any (tv : TypeId) (v : Value) (w : World) :
    Calls Tryz.prog 115 #[.iface tv v] w fun e w' => e = .returned (.agg #[.int .i64 0, .int .i64 0, .string ⟨#[]⟩, .slice none 0 0, .int .i64 0, .iface tv v]) ∧ Below w.heap.size w w' := by
  go_enter Tryz.func115, Tryz.ntmps115
  go_wp2
  refine bodyPost_ret (v := .agg #[.int .i64 0, .int .i64 0, .string ⟨#[]⟩, .slice none 0 0, .int .i64 0, .iface tv v]) (by simp [results, Tryz.results115, go_sem]) rfl ⟨rfl, ?_⟩
  exact (Below.refl _ _).alloc (Nat.le_refl _) _

set_option maxHeartbeats 1000000 in
theorem igoodi_any (k n : Int) (s : ByteArray) (p : Option Addr) (m cap : Nat) (w : World) :
    Calls Tryz.prog 178 #[.agg #[.int .i64 k, .int .i64 n, .string s, .slice p m cap]] w fun e w' => e = .returned (.agg #[.int .i64 k, .int .i64 n, .string s, .slice p m cap, .nilIface]) ∧ Below w.heap.size w w' := by
  go_enter Tryz.func178, Tryz.ntmps178
  go_wp2
  refine bodyPost_ret (v := .agg #[.int .i64 k, .int .i64 n, .string s, .slice p m cap, .nilIface]) (by simp [results, Tryz.results178, go_sem]) rfl ⟨rfl, ?_⟩
  exact ((Below.refl _ _).alloc (Nat.le_refl _) _).alloc (by simp) _

set_option maxHeartbeats 1000000 in
theorem igoodp_any (k n : Int) (s : ByteArray) (p : Option Addr) (m cap : Nat) (b : Int) (w : World) :
    Calls Tryz.prog 116 #[.agg #[.int .i64 k, .int .i64 n, .string s, .slice p m cap, .int .i64 b]] w fun e w' => e = .returned (.agg #[.int .i64 k, .int .i64 n, .string s, .slice p m cap, .int .i64 b, .nilIface]) ∧ Below w.heap.size w w' := by
  go_enter Tryz.func116, Tryz.ntmps116
  go_wp2
  refine bodyPost_ret (v := .agg #[.int .i64 k, .int .i64 n, .string s, .slice p m cap, .int .i64 b, .nilIface]) (by simp [results, Tryz.results116, go_sem]) rfl ⟨rfl, ?_⟩
  exact ((Below.refl _ _).alloc (Nat.le_refl _) _).alloc (by simp) _
end Go.Proofs.YtmbmolgkccjedaaGreatDoor
