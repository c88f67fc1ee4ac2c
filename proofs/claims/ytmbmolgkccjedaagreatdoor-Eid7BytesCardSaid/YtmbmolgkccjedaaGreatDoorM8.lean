/- Contracts of what the schemes of package eid keep and are laid of. -/
import Derived.Test.YtmbmolgkccjedaaGreatDoorM7
import Derived.Deep.RegionHeld3
import Derived.Deep.DeepFit
import Derived.BigQuiet
import Derived.Deep.QuietTactic
import Derived.Deep.RegionWith
import Derived.RegionTactic
set_option linter.unusedVariables false
set_option linter.unusedSimpArgs false
namespace Go.Proofs.YtmbmolgkccjedaaGreatDoor
open Go.RowKit

theorem cell_al {X : World} {o : Obj} {p : Addr} {v : Value} (e : X.cell? p = some v) : (X.alloc o).cell? p = some v := (((Below.refl _ _).alloc (Nat.le_refl _) o).cell (World.block_lt_of_cell? _ _ e)).trans e
theorem cellIn {X Y : World} {p : Addr} {v : Value} (h : Hid (Below X.heap.size X Y)) (e : X.cell? p = some v) : Y.cell? p = some v := (h.out.cell (World.block_lt_of_cell? _ _ e)).trans e
theorem heldIn {X Y : World} {p q : Addr} {v u : Value} (h : Hid (Below X.heap.size X Y)) (e : X.cell? p = some v ∧ X.cell? q = some u) : Y.cell? p = some v ∧ Y.cell? q = some u := ⟨cellIn h e.1, cellIn h e.2⟩
theorem held_alloc {X : World} {o : Obj} {p q : Addr} {v u : Value} (e : X.cell? p = some v ∧ X.cell? q = some u) : (X.alloc o).cell? p = some v ∧ (X.alloc o).cell? q = some u := ⟨cell_al e.1, cell_al e.2⟩
theorem cell_drew_l {X : World} {p : Addr} {v : Value} (e : X.cell? p = some v) : X.drew.cell? p = some v := e
theorem belowIn {w X Y : World} (h : Hid (Below X.heap.size X Y)) (e : Below w.heap.size w X) : Below w.heap.size w Y := e.trans (h.out.mono e.size)
theorem below_alloc_l {w X : World} {o : Obj} (e : Below w.heap.size w X) : Below w.heap.size w (X.alloc o) := e.alloc e.size o
theorem below_drew_l {w X : World} (e : Below w.heap.size w X) : Below w.heap.size w X.drew := e.drew

/-- The bytes of a node, and of a service. -/
def ndOk (s : ByteArray) : Bool := s.data.toList.all (plnB [45, 46])
def svOk (s : ByteArray) : Bool := s.data.toList.all (plnB [45, 46, 47])
theorem plain2_any (b cap : Nat) (s : ByteArray) (w : World) (h0 : w.cell? ⟨b, 0, none⟩ = some (.int .i32 45)) (h1 : w.cell? ⟨b, 1, none⟩ = some (.int .i32 46)) :
    Calls Tryz.prog 94 #[.string s, .slice (some ⟨b, 0, none⟩) 2 cap] w fun e w' => e = .returned (.bool (ndOk s)) ∧ Below w.heap.size w w' :=
  plain_any b 2 cap [45, 46] s w rfl (by decide) (by decide) (World.block_lt_of_cell? _ _ h0) (fun j hj => by
    match j, hj with
    | 0, _ => exact h0
    | 1, _ => exact h1)
theorem plain3_any (b cap : Nat) (s : ByteArray) (w : World) (h0 : w.cell? ⟨b, 0, none⟩ = some (.int .i32 45)) (h1 : w.cell? ⟨b, 1, none⟩ = some (.int .i32 46)) (h2 : w.cell? ⟨b, 2, none⟩ = some (.int .i32 47)) :
    Calls Tryz.prog 94 #[.string s, .slice (some ⟨b, 0, none⟩) 3 cap] w fun e w' => e = .returned (.bool (svOk s)) ∧ Below w.heap.size w w' :=
  plain_any b 3 cap [45, 46, 47] s w rfl (by decide) (by decide) (World.block_lt_of_cell? _ _ h0) (fun j hj => by
    match j, hj with
    | 0, _ => exact h0
    | 1, _ => exact h1
    | 2, _ => exact h2)
theorem must2_any (b cap : Nat) (x y : Bool) (t : ByteArray) (w : World) (h0 : w.cell? ⟨b, 0, none⟩ = some (.bool x)) (h1 : w.cell? ⟨b, 1, none⟩ = some (.bool y)) :
    Calls Tryz.prog 93 #[.string t, .slice (some ⟨b, 0, none⟩) 2 cap] w fun e w' => e = .returned (.agg #[.string t, .bool (x && y)]) ∧ Below w.heap.size w w' := by
  have := must_any b 2 cap [x, y] t w rfl (by decide) (World.block_lt_of_cell? _ _ h0) (fun j hj => by
    match j, hj with
    | 0, _ => exact h0
    | 1, _ => exact h1)
  rw [show (!hasF [x, y]) = (x && y) by cases x <;> cases y <;> rfl] at this
  exact this
theorem must3_any (b cap : Nat) (x y z : Bool) (t : ByteArray) (w : World) (h0 : w.cell? ⟨b, 0, none⟩ = some (.bool x)) (h1 : w.cell? ⟨b, 1, none⟩ = some (.bool y)) (h2 : w.cell? ⟨b, 2, none⟩ = some (.bool z)) :
    Calls Tryz.prog 93 #[.string t, .slice (some ⟨b, 0, none⟩) 3 cap] w fun e w' => e = .returned (.agg #[.string t, .bool (x && y && z)]) ∧ Below w.heap.size w w' := by
  have := must_any b 3 cap [x, y, z] t w rfl (by decide) (World.block_lt_of_cell? _ _ h0) (fun j hj => by
    match j, hj with
    | 0, _ => exact h0
    | 1, _ => exact h1
    | 2, _ => exact h2)
  rw [show (!hasF [x, y, z]) = (x && y && z) by cases x <;> cases y <;> cases z <;> rfl] at this
  exact this

/-- A name's value. -/
def nmV (k : Int) (nd sv : ByteArray) (a b : Int) : Value := .agg #[.int .i64 k, .string nd, .string sv, .int .i64 a, .int .i64 b]

set_option maxHeartbeats 1000000 in
theorem bareNone_any (k : Int) (nd sv : ByteArray) (a b : Int) (w : World) :
    Calls Tryz.prog 57 #[nmV k nd sv a b] w fun e w' => e = .returned (nmV 0 ⟨#[]⟩ ⟨#[]⟩ 0 0) ∧ Below w.heap.size w w' := by
  unfold nmV
  go_enter Tryz.func57, Tryz.ntmps57
  go_wp2
  refine bodyPost_ret (v := .agg #[.int .i64 0, .string ⟨#[]⟩, .string ⟨#[]⟩, .int .i64 0, .int .i64 0]) (by simp [results, Tryz.results57, go_sem]) rfl ⟨rfl, ?_⟩
  exact ((Below.refl w.heap.size w).alloc (Nat.le_refl _) _).alloc (by simp) _

set_option maxHeartbeats 1000000 in
theorem bareDtn_any (k : Int) (nd sv : ByteArray) (a b : Int) (w : World) :
    Calls Tryz.prog 60 #[nmV k nd sv a b] w fun e w' => e = .returned (nmV 1 nd sv 0 0) ∧ Below w.heap.size w w' := by
  unfold nmV
  go_enter Tryz.func60, Tryz.ntmps60
  go_wp2
  refine bodyPost_ret (v := .agg #[.int .i64 1, .string nd, .string sv, .int .i64 0, .int .i64 0]) (by simp [results, Tryz.results60, go_sem]) rfl ⟨rfl, ?_⟩
  exact ((Below.refl w.heap.size w).alloc (Nat.le_refl _) _).alloc (by simp) _

set_option maxHeartbeats 1000000 in
theorem bareIpn_any (k : Int) (nd sv : ByteArray) (a b : Int) (w : World) :
    Calls Tryz.prog 63 #[nmV k nd sv a b] w fun e w' => e = .returned (nmV 2 ⟨#[]⟩ ⟨#[]⟩ a b) ∧ Below w.heap.size w w' := by
  unfold nmV
  go_enter Tryz.func63, Tryz.ntmps63
  go_wp2
  refine bodyPost_ret (v := .agg #[.int .i64 2, .string ⟨#[]⟩, .string ⟨#[]⟩, .int .i64 a, .int .i64 b]) (by simp [results, Tryz.results63, go_sem]) rfl ⟨rfl, ?_⟩
  exact ((Below.refl w.heap.size w).alloc (Nat.le_refl _) _).alloc (by simp) _

theorem pts1 {n : Nat} (s0 : ByteArray) (b0 : Bool) (w1 : World) (hn : n ≤ w1.heap.size) : Pts n [(s0, b0)] (.func (.func 118) #[] #[.pointer (some ⟨w1.heap.size + 1, 0, none⟩)]) ((w1.alloc (.cells #[.string s0, .bool b0] 74)).alloc (.cells #[.slice (some ⟨w1.heap.size, 0, none⟩) 1 1] 180)) := by
  refine ⟨w1.heap.size, w1.heap.size + 1, rfl, hn, by simp; omega, by go_simp, ⟨fun j x e => ?_, fun j x e => ?_⟩⟩
  all_goals
    match j, e with
    | 0, e => obtain rfl := Option.some.inj e; go_simp
theorem pts3 {n : Nat} (s0 s1 s2 : ByteArray) (b0 b1 b2 : Bool) (w1 : World) (hn : n ≤ w1.heap.size) : Pts n [(s0, b0), (s1, b1), (s2, b2)] (.func (.func 118) #[] #[.pointer (some ⟨w1.heap.size + 1, 0, none⟩)]) ((w1.alloc (.cells #[.string s0, .bool b0, .string s1, .bool b1, .string s2, .bool b2] 74)).alloc (.cells #[.slice (some ⟨w1.heap.size, 0, none⟩) 3 3] 180)) := by
  refine ⟨w1.heap.size, w1.heap.size + 1, rfl, hn, by simp; omega, by go_simp, ⟨fun j x e => ?_, fun j x e => ?_⟩⟩
  all_goals
    match j, e with
    | 0, e => obtain rfl := Option.some.inj e; go_simp
    | 1, e => obtain rfl := Option.some.inj e; go_simp
    | 2, e => obtain rfl := Option.some.inj e; go_simp
theorem pts4 {n : Nat} (s0 s1 s2 s3 : ByteArray) (b0 b1 b2 b3 : Bool) (w1 : World) (hn : n ≤ w1.heap.size) : Pts n [(s0, b0), (s1, b1), (s2, b2), (s3, b3)] (.func (.func 118) #[] #[.pointer (some ⟨w1.heap.size + 1, 0, none⟩)]) ((w1.alloc (.cells #[.string s0, .bool b0, .string s1, .bool b1, .string s2, .bool b2, .string s3, .bool b3] 74)).alloc (.cells #[.slice (some ⟨w1.heap.size, 0, none⟩) 4 4] 180)) := by
  refine ⟨w1.heap.size, w1.heap.size + 1, rfl, hn, by simp; omega, by go_simp, ⟨fun j x e => ?_, fun j x e => ?_⟩⟩
  all_goals
    match j, e with
    | 0, e => obtain rfl := Option.some.inj e; go_simp
    | 1, e => obtain rfl := Option.some.inj e; go_simp
    | 2, e => obtain rfl := Option.some.inj e; go_simp
    | 3, e => obtain rfl := Option.some.inj e; go_simp

set_option maxHeartbeats 1000000 in
theorem noneParts_any (k : Int) (nd sv : ByteArray) (a b : Int) (w : World) :
    Calls Tryz.prog 58 #[nmV k nd sv a b] w fun e w' => (∃ v, e = .returned v ∧ Pts w.heap.size [(⟨#[110, 111, 110, 101]⟩, true)] v w') ∧ Below w.heap.size w w' := by
  unfold nmV
  go_enter Tryz.func58, Tryz.ntmps58
  go_wp2_with fail
  refine (must_nil _ _).mono ?_
  rintro e w1 ⟨rfl, hb1⟩
  have HB := Lib.hid (((Below.refl w.heap.size w).alloc (Nat.le_refl _) _).trans (hb1.mono (by simp)))
  clear hb1
  go_wp2_with fail
  refine (each_any _ _ _).mono ?_
  rintro e w2 ⟨rfl, rfl⟩
  go_wp2
  go_ret
  exact ⟨⟨_, rfl, pts1 _ _ w1 HB.out.size⟩, (HB.out.alloc HB.out.size _).alloc (by have := HB.out.size; simp; omega) _⟩

/-- May a text be a node, and a service? -/
def ndR (s : ByteArray) : Bool := !s.toList.isEmpty && decide ((s.size : Int) ≤ 20) && ndOk s
def svR (s : ByteArray) : Bool := decide ((s.size : Int) ≤ 20) && svOk s
/-- May a number stand ahead of the dot, and behind it? -/
def aR (a : Int) : Bool := decide (1 ≤ a) && decide (a ≤ 999999999)
def bR (b : Int) : Bool := decide (0 ≤ b) && decide (b ≤ 999999999)
end Go.Proofs.YtmbmolgkccjedaaGreatDoor

/- Contract of dtnParts of package eid. -/
set_option linter.unusedVariables false
set_option linter.unusedSimpArgs false
namespace Go.Proofs.YtmbmolgkccjedaaGreatDoor
open Go.RowKit

set_option maxRecDepth 100000 in
set_option maxHeartbeats 4000000 in
theorem dtnParts_any (k : Int) (nd sv : ByteArray) (a b : Int) (w : World) :
    Calls Tryz.prog 61 #[nmV k nd sv a b] w fun e w' => (∃ v, e = .returned v ∧ Pts w.heap.size [(⟨#[47, 47]⟩, true), (nd, ndR nd), (⟨#[47]⟩, true), (sv, svR sv)] v w') ∧ Below w.heap.size w w' := by
  unfold nmV
  go_enter Tryz.func61, Tryz.ntmps61
  go_wp2_with fail
  go_region_held3 (fun w' => w'.cell? ⟨w.heap.size, 1, none⟩ = some (.string nd) ∧ w'.cell? ⟨w.heap.size, 2, none⟩ = some (.string sv))
    (first
      | (apply heldIn <;> assumption)
      | (apply held_alloc; assumption)
      | (refine ⟨?_, ?_⟩ <;> go_simp <;> done)
      | go_keep)
    (first
      | ((go_at_call 93; go_fit (must_nil _ _); rintro e w1 ⟨rfl, hb⟩; have HB := Lib.hid hb; clear hb))
      | ((go_at_call 93; go_fit (must3_any _ _ (!nd.toList.isEmpty) (decide ((nd.size : Int) ≤ 20)) (ndOk nd) _ _ (by repeat (first | (go_simp; done) | (apply cellIn (by assumption)) | apply cell_al | apply cell_drew_l)) (by repeat (first | (go_simp; done) | (apply cellIn (by assumption)) | apply cell_al | apply cell_drew_l)) (by repeat (first | (go_simp; done) | (apply cellIn (by assumption)) | apply cell_al | apply cell_drew_l))); rintro e w1 ⟨rfl, hb⟩; have HB := Lib.hid hb; clear hb))
      | ((go_at_call 93; go_fit (must2_any _ _ (decide ((sv.size : Int) ≤ 20)) (svOk sv) _ _ (by repeat (first | (go_simp; done) | (apply cellIn (by assumption)) | apply cell_al | apply cell_drew_l)) (by repeat (first | (go_simp; done) | (apply cellIn (by assumption)) | apply cell_al | apply cell_drew_l))); rintro e w1 ⟨rfl, hb⟩; have HB := Lib.hid hb; clear hb))
      | ((go_at_call 94; go_fit (plain2_any _ _ _ _ (by repeat (first | (go_simp; done) | (apply cellIn (by assumption)) | apply cell_al | apply cell_drew_l)) (by repeat (first | (go_simp; done) | (apply cellIn (by assumption)) | apply cell_al | apply cell_drew_l))); rintro e w1 ⟨rfl, hb⟩; have HB := Lib.hid hb; clear hb))
      | ((go_at_call 94; go_fit (plain3_any _ _ _ _ (by repeat (first | (go_simp; done) | (apply cellIn (by assumption)) | apply cell_al | apply cell_drew_l)) (by repeat (first | (go_simp; done) | (apply cellIn (by assumption)) | apply cell_al | apply cell_drew_l)) (by repeat (first | (go_simp; done) | (apply cellIn (by assumption)) | apply cell_al | apply cell_drew_l))); rintro e w1 ⟨rfl, hb⟩; have HB := Lib.hid hb; clear hb))
      | ((go_at_call 92; go_fit (each_any _ _ _); rintro e w1 ⟨rfl, rfl⟩)))
  all_goals
    have HBB := Lib.hid (show Below w.heap.size w w1 by repeat (first | exact Below.refl _ _ | apply below_alloc_l | apply below_drew_l | apply belowIn (by assumption)))
    go_wp2
    go_ret
    exact ⟨⟨_, rfl, pts4 _ _ _ _ _ _ _ _ w1 HBB.out.size⟩, below_alloc_l (below_alloc_l HBB.out)⟩
end Go.Proofs.YtmbmolgkccjedaaGreatDoor

/- Contract of ipnParts of package eid. -/
set_option linter.unusedVariables false
set_option linter.unusedSimpArgs false
namespace Go.Proofs.YtmbmolgkccjedaaGreatDoor
open Go.RowKit

set_option maxRecDepth 100000 in
set_option maxHeartbeats 4000000 in
theorem ipnParts_any (k : Int) (nd sv : ByteArray) (a b : Int) (w : World) (hE : EnvN w) (ha0 : -9223372036854775808 ≤ a) (ha1 : a ≤ 9223372036854775807) (hb0 : -9223372036854775808 ≤ b) (hb1 : b ≤ 9223372036854775807) :
    Calls Tryz.prog 64 #[nmV k nd sv a b] w fun e w' => (∃ v, e = .returned v ∧ Pts w.heap.size [(⟨(Lib.itoa a).toArray⟩, aR a), (⟨#[46]⟩, true), (⟨(Lib.itoa b).toArray⟩, bR b)] v w') ∧ Below w.heap.size w w' := by
  unfold nmV
  have HE := Lib.hid hE
  have HA := Lib.hid (And.intro ha0 ha1)
  have HBb := Lib.hid (And.intro hb0 hb1)
  clear hE ha0 ha1 hb0 hb1
  go_enter Tryz.func64, Tryz.ntmps64
  go_wp2_with fail
  go_region_held3 (fun w' => w'.cell? ⟨w.heap.size, 3, none⟩ = some (.int .i64 a) ∧ w'.cell? ⟨w.heap.size, 4, none⟩ = some (.int .i64 b))
    (first
      | (apply heldIn <;> assumption)
      | (apply held_alloc; assumption)
      | (refine ⟨?_, ?_⟩ <;> go_simp <;> done)
      | go_keep)
    (first
      | ((go_at_call 96; go_fit (itoa_any a _ (HE.out.below (by repeat (first | exact Below.refl _ _ | apply below_alloc_l | apply below_drew_l | apply belowIn (by assumption)))) HA.out.1 HA.out.2); rintro e w1 ⟨rfl, hb⟩; have HB := Lib.hid hb; clear hb))
      | ((go_at_call 96; go_fit (itoa_any b _ (HE.out.below (by repeat (first | exact Below.refl _ _ | apply below_alloc_l | apply below_drew_l | apply belowIn (by assumption)))) HBb.out.1 HBb.out.2); rintro e w1 ⟨rfl, hb⟩; have HB := Lib.hid hb; clear hb))
      | ((go_at_call 93; go_fit (must_nil _ _); rintro e w1 ⟨rfl, hb⟩; have HB := Lib.hid hb; clear hb))
      | ((go_at_call 93; go_fit (must2_any _ _ (decide (1 ≤ a)) (decide (a ≤ 999999999)) ⟨(Lib.itoa a).toArray⟩ _ (by repeat (first | (go_simp; done) | (apply cellIn (by assumption)) | apply cell_al | apply cell_drew_l)) (by repeat (first | (go_simp; done) | (apply cellIn (by assumption)) | apply cell_al | apply cell_drew_l))); rintro e w1 ⟨rfl, hb⟩; have HB := Lib.hid hb; clear hb))
      | ((go_at_call 93; go_fit (must2_any _ _ (decide (0 ≤ b)) (decide (b ≤ 999999999)) ⟨(Lib.itoa b).toArray⟩ _ (by repeat (first | (go_simp; done) | (apply cellIn (by assumption)) | apply cell_al | apply cell_drew_l)) (by repeat (first | (go_simp; done) | (apply cellIn (by assumption)) | apply cell_al | apply cell_drew_l))); rintro e w1 ⟨rfl, hb⟩; have HB := Lib.hid hb; clear hb))
      | ((go_at_call 92; go_fit (each_any _ _ _); rintro e w1 ⟨rfl, rfl⟩)))
  all_goals
    have HBB := Lib.hid (show Below w.heap.size w w1 by repeat (first | exact Below.refl _ _ | apply below_alloc_l | apply below_drew_l | apply belowIn (by assumption)))
    go_wp2
    go_ret
    exact ⟨⟨_, rfl, pts3 _ _ _ _ _ _ w1 HBB.out.size⟩, below_alloc_l (below_alloc_l HBB.out)⟩
end Go.Proofs.YtmbmolgkccjedaaGreatDoor

/- Contracts of tell of package eid, at its three types: the answer, or nothing and the error's number. -/
set_option linter.unusedVariables false
set_option linter.unusedSimpArgs false
namespace Go.Proofs.YtmbmolgkccjedaaGreatDoor
open Go.RowKit

set_option maxHeartbeats 1000000 in
theorem tellH_ok (s t : ByteArray) (w : World) :
    Calls Tryz.prog 133 #[.agg #[.string s, .string t], .bool true] w fun e w' => e = .returned (.tuple #[.agg #[.string s, .string t], .int .i64 0]) ∧ Below w.heap.size w w' := by
  go_enter Tryz.func133, Tryz.ntmps133
  go_wp2
  refine bodyPost_ret (v := .tuple #[.agg #[.string s, .string t], .int .i64 0]) (by simp [results, Tryz.results133, go_sem]) rfl ⟨rfl, ?_⟩
  exact below_alloc_l (below_alloc_l (Below.refl _ _))
set_option maxHeartbeats 1000000 in
theorem tellH_bad (s t : ByteArray) (w : World) :
    Calls Tryz.prog 133 #[.agg #[.string s, .string t], .bool false] w fun e w' => e = .returned (.tuple #[.agg #[.string ⟨#[]⟩, .string ⟨#[]⟩], .int .i64 60]) ∧ Below w.heap.size w w' := by
  go_enter Tryz.func133, Tryz.ntmps133
  go_wp2
  refine bodyPost_ret (v := .tuple #[.agg #[.string ⟨#[]⟩, .string ⟨#[]⟩], .int .i64 60]) (by simp [results, Tryz.results133, go_sem]) rfl ⟨rfl, ?_⟩
  exact below_alloc_l (below_alloc_l (below_alloc_l (Below.refl _ _)))

set_option maxHeartbeats 1000000 in
theorem tellN_ok (k : Int) (nd sv : ByteArray) (a b : Int) (w : World) :
    Calls Tryz.prog 135 #[nmV k nd sv a b, .bool true] w fun e w' => e = .returned (.tuple #[nmV k nd sv a b, .int .i64 0]) ∧ Below w.heap.size w w' := by
  unfold nmV
  go_enter Tryz.func135, Tryz.ntmps135
  go_wp2
  refine bodyPost_ret (v := .tuple #[.agg #[.int .i64 k, .string nd, .string sv, .int .i64 a, .int .i64 b], .int .i64 0]) (by simp [results, Tryz.results135, go_sem]) rfl ⟨rfl, ?_⟩
  exact below_alloc_l (below_alloc_l (Below.refl _ _))
set_option maxHeartbeats 1000000 in
theorem tellN_bad (k : Int) (nd sv : ByteArray) (a b : Int) (w : World) :
    Calls Tryz.prog 135 #[nmV k nd sv a b, .bool false] w fun e w' => e = .returned (.tuple #[nmV 0 ⟨#[]⟩ ⟨#[]⟩ 0 0, .int .i64 60]) ∧ Below w.heap.size w w' := by
  unfold nmV
  go_enter Tryz.func135, Tryz.ntmps135
  go_wp2
  refine bodyPost_ret (v := .tuple #[.agg #[.int .i64 0, .string ⟨#[]⟩, .string ⟨#[]⟩, .int .i64 0, .int .i64 0], .int .i64 60]) (by simp [results, Tryz.results135, go_sem]) rfl ⟨rfl, ?_⟩
  exact below_alloc_l (below_alloc_l (below_alloc_l (Below.refl _ _)))

/-- The scheme that halves may have. -/
def schK (s t : ByteArray) : Int := if s.toList = [105, 112, 110] then 2 else if t.toList = [110, 111, 110, 101] then 0 else 1
set_option maxHeartbeats 1000000 in
theorem schemeOf_any (s t : ByteArray) (w : World) :
    Calls Tryz.prog 151 #[.agg #[.string s, .string t]] w fun e w' => e = .returned (.int .i64 (schK s t)) ∧ Below w.heap.size w w' := by
  unfold schK
  by_cases h1 : s.toList = [105, 112, 110]
  · rw [if_pos h1]
    have b1 : (s.toList == [105, 112, 110]) = true := by simpa using h1
    clear h1
    go_enter Tryz.func151, Tryz.ntmps151
    go_wp2
    go_ret
    exact ⟨rfl, below_alloc_l (Below.refl _ _)⟩
  · have b1 : (s.toList == [105, 112, 110]) = false := by simpa using h1
    rw [if_neg h1]
    clear h1
    by_cases h2 : t.toList = [110, 111, 110, 101]
    · rw [if_pos h2]
      have b2 : (t.toList == [110, 111, 110, 101]) = true := by simpa using h2
      clear h2
      go_enter Tryz.func151, Tryz.ntmps151
      go_wp2
      go_ret
      exact ⟨rfl, below_alloc_l (Below.refl _ _)⟩
    · rw [if_neg h2]
      have b2 : (t.toList == [110, 111, 110, 101]) = false := by simpa using h2
      clear h2
      go_enter Tryz.func151, Tryz.ntmps151
      go_wp2
      go_ret
      exact ⟨rfl, below_alloc_l (Below.refl _ _)⟩
end Go.Proofs.YtmbmolgkccjedaaGreatDoor
