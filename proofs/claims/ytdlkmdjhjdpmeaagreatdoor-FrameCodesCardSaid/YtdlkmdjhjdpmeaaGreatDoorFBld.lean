/- Writing into a strings.Builder, from the shelf's contract by way of what is laid for strings.Join. -/
import Derived.Test.YtdlkmdjhjdpmeaaGreatDoorFShelf
import Derived.Test.YtdlkmdjhjdpmeaaGreatDoorOnly
import Derived.Shelf.Strings.BuilderK
import Derived.Lib.Strings
set_option linter.unusedVariables false
set_option linter.unusedSimpArgs false
namespace Go.Proofs.YtdlkmdjhjdpmeaaGreatDoor
open Go.RowKit Go.Shelf

theorem wlays : Go.Proofs.Lays.n166 Tryz.prog shl_lays156_ren := {
  mixed := shl_lays156.mixed
  f166 := shl_lays156.f166
  f240 := shl_lays156.f240
  f276 := shl_lays156.f276
  t0 := shl_lays156.t0
  a0 := shl_lays156.a0
  z0 := shl_lays156.z0
  v0 := shl_lays156.v0
  t3 := shl_lays156.t3
  a3 := shl_lays156.a3
  z3 := shl_lays156.z3
  v3 := shl_lays156.v3
  t4 := shl_lays156.t4
  a4 := shl_lays156.a4
  z4 := shl_lays156.z4
  v4 := shl_lays156.v4
  t9 := shl_lays156.t9
  a9 := shl_lays156.a9
  z9 := shl_lays156.z9
  v9 := shl_lays156.v9
  t20 := shl_lays156.t20
  a20 := shl_lays156.a20
  z20 := shl_lays156.z20
  v20 := shl_lays156.v20
  t37 := shl_lays156.t37
  a37 := shl_lays156.a37
  z37 := shl_lays156.z37
  v37 := shl_lays156.v37
  t70 := shl_lays156.t70
  a70 := shl_lays156.a70
  z70 := shl_lays156.z70
  v70 := shl_lays156.v70
  t72 := shl_lays156.t72
  a72 := shl_lays156.a72
  z72 := shl_lays156.z72
  v72 := shl_lays156.v72
  t75 := shl_lays156.t75
  a75 := shl_lays156.a75
  z75 := shl_lays156.z75
  v75 := shl_lays156.v75
  t164 := shl_lays156.t164
  a164 := shl_lays156.a164
  z164 := shl_lays156.z164
  v164 := shl_lays156.v164 }

/-- A builder that holds bytes. -/
def IsBld (D : Nat) (l : List UInt8) (w : World) : Prop := Lib.IsBuilderF 75 5 D D (Lib.byteCells l) w

theorem wstr_any (D : Nat) (l : List UInt8) (s : ByteArray) (w : World) (h : IsBld D l w) (hlen : l.length + s.size ≤ 140737488355328) :
    Calls Tryz.prog 39 #[.pointer (some ⟨D, 0, none⟩), .string s] w fun e w' => e = .returned (.tuple #[.int .i64 s.size, .nilIface]) ∧ IsBld D (l ++ s.data.toList) w' ∧ Below D w w' ∧ Lib.OthersKept 5 (some D) w w' := by
  have hD : D ≤ w.heap.size := by
    rcases h with ⟨_, v, hb, _⟩ | ⟨_, v, hb, _⟩
    all_goals exact Nat.le_of_lt (Array.getElem?_eq_some_iff.1 hb).1
  refine (Any.Builder_WriteString_k wlays shl_Builder_Extra_156 D D (Lib.byteCells l) s w h (by rw [show (Lib.byteCells l).length = l.length by simp [Lib.byteCells]]; exact hlen) hD).mono ?_
  rintro e w' ⟨rfl, h2, h3, h4⟩
  refine ⟨rfl, .inr ?_, h3, h4⟩
  have e : Lib.byteCells (l ++ s.data.toList) = Lib.byteCells l ++ Lib.strCells s := by simp [Lib.byteCells, Lib.strCells]
  rw [e]
  exact h2

theorem bstr_any (D : Nat) (l : List UInt8) (w : World) (h : IsBld D l w) :
    Calls Tryz.prog 42 #[.pointer (some ⟨D, 0, none⟩)] w fun e w' => e = .returned (.string ⟨l.toArray⟩) ∧ Below D w w' := by
  have hD : D ≤ w.heap.size := by
    rcases h with ⟨_, v, hb, _⟩ | ⟨_, v, hb, _⟩
    all_goals exact Nat.le_of_lt (Array.getElem?_eq_some_iff.1 hb).1
  exact (shl_Builder_String_any_f D D l w h hD).mono fun e w' h => ⟨h.1, h.2.2⟩

theorem IsBld.at_ {D : Nat} {l : List UInt8} {w : World} (h : IsBld D l w) : ∃ cs, w.heap[D]? = some (.cells cs 75 (0, 0)) := by
  rcases h with ⟨_, v, hb, _⟩ | ⟨_, v, hb, _⟩
  all_goals exact ⟨_, hb⟩

/-- A new builder. -/
theorem bld_new (w : World) : IsBld w.heap.size [] (w.alloc (.cells #[.pointer none, .slice none 0 0] 75)) := by
  refine .inl (Lib.BuilderAtF.of ⟨Nat.le_refl _, .slice none 0 0, heap_alloc_new w _, World.ownsRow_nil _ _ _ _, ?_⟩)
  simp [Value.ownBlock]

/-- What is no builder, and no row of bytes, may be written. -/
theorem IsBld.only {D : Nat} {l : List UInt8} {w w' : World} {F : Nat} {cs : Array Value} {t : TypeId} (h : IsBld D l w) (hF : w.heap[F]? = some (.cells cs t (0, 0))) (ht : t ≠ 5) (hD : D ≠ F) (ho : Only F F w w') : IsBld D l w' := by
  have hg : w.grownBy w' (some F) := ⟨ho.os, ho.tape, ho.output, ho.size, fun k hk hne => ho.block k hk (fun e => hne (by rw [e])) (fun e => hne (by rw [e]))⟩
  have k : ∀ {p : Value}, Lib.BuilderAtF 75 5 D D p (Lib.byteCells l) w → Lib.BuilderAtF 75 5 D D p (Lib.byteCells l) w' := by
    rintro p ⟨hB, v, hb, hown, hne⟩
    refine ⟨hB, v, (ho.block D (Array.getElem?_eq_some_iff.1 hb).1 hD hD).trans hb, hown.kept hg ?_, hne⟩
    rcases hown.2 with ⟨rfl, _⟩ | ⟨g, cap, cur, fz, rfl, _, hgg, _⟩
    · exact .inl rfl
    · refine .inr (fun e => ht ?_)
      obtain rfl : g = F := by simpa [Value.ownBlock] using e
      rw [hF] at hgg
      cases hgg
      rfl
  exact h.imp k k
theorem IsBld.below {D : Nat} {l : List UInt8} {w w' : World} (h : IsBld D l w) (hb : Below w.heap.size w w') : IsBld D l w' := by
  have hg : w.grownBy w' none := ⟨hb.os, hb.tape, hb.output, hb.size, fun k hk _ => hb.block k hk⟩
  have k : ∀ {p : Value}, Lib.BuilderAtF 75 5 D D p (Lib.byteCells l) w → Lib.BuilderAtF 75 5 D D p (Lib.byteCells l) w' := by
    rintro p ⟨hB, v, hb', hown, hne⟩
    refine ⟨hB, v, (hb.block D (Array.getElem?_eq_some_iff.1 hb').1).trans hb', hown.kept hg ?_, hne⟩
    cases e : v.ownBlock with
    | none => exact .inl rfl
    | some g => exact .inr (by simp)
  exact h.imp k k
end Go.Proofs.YtdlkmdjhjdpmeaaGreatDoor
