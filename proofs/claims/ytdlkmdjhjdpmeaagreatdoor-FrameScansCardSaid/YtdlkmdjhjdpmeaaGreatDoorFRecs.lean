/- records of package frame's scanner, as an iterator that goes on in its text. -/
import Derived.Test.YtdlkmdjhjdpmeaaGreatDoorFNext
import Derived.Test.YtdlkmdjhjdpmeaaGreatDoorStLaw
import Derived.WalkKit
import Derived.Scope
import Derived.IntWalk
set_option linter.unusedVariables false
set_option linter.unusedSimpArgs false
namespace Go.Proofs.YtdlkmdjhjdpmeaaGreatDoor
open Go.RowKit Go.Shelf

attribute [local go_sem] Oper.semAt_some

/-- A scanner's state between two records: the place; its framer's table; the box with its pointer. -/
def ItS (X Bx nn : Nat) (s : ByteArray) (m : Int) (W : World) : Prop := ∃ tv, Blk W X 66 #[.string s, .int .i64 m, tv] ∧ TabV X W tv ∧ FrN nn W ∧ Boxed W Bx 91 (.pointer (some ⟨X, 0, none⟩))
/-- What comes behind some records. -/
def NxR (s : ByteArray) (pre : List Rc) (x : Rc) : Prop := ∃ n, SoFar s pre n ∧ (decO s n = some x ∨ (x = zeroRc ∧ decO s n = none))
def EnR (pre : List Rc) : Prop := ∃ q, pre = q ++ [zeroRc]
def KpS (X Bx nn : Nat) (s : ByteArray) (W W' : World) : Prop := ∀ m, ItS X Bx nn s m W → ItS X Bx nn s m W'
theorem kpS_t {X Bx nn : Nat} {s : ByteArray} {A B C : World} (h : KpS X Bx nn s A B) (k : KpS X Bx nn s B C) : KpS X Bx nn s A C := fun m hm => k m (h m hm)
/-- A scanner's state where it was left. -/
def SpR (X Bx nn : Nat) (s : ByteArray) (pre : List Rc) (W : World) : Prop := ∃ q x n, pre = q ++ [x] ∧ SoFar s q n ∧ ((decO s n = some x ∧ ItS X Bx nn s (n + 14 + (x.data.size : Int)) W) ∨ (x = zeroRc ∧ decO s n = none ∧ ItS X Bx nn s n W))
/-- Where a scanner is, in memory. -/
def leftS (X : Nat) (s : ByteArray) (W : World) : Nat := match W.cell? ⟨X, 1, none⟩ with
  | some (.int _ m) => s.size - m.toNat
  | _ => 0
theorem leftS_of {X Bx nn : Nat} {s : ByteArray} {m : Int} {W : World} (h : ItS X Bx nn s m W) : leftS X s W = s.size - m.toNat := by
  obtain ⟨tv, h, _⟩ := h
  have c : W.cell? ⟨X, 1, none⟩ = some (.int .i64 m) := h.cell 1
  unfold leftS
  rw [c]

set_option maxRecDepth 100000 in
set_option maxHeartbeats 2000000 in
theorem recs1_in (X Bx nn l : Nat) (n : Nat) (s : ByteArray) (hs : s.size ≤ 1000000) (hn : 3 ≤ n) (hX : nn ≤ X) (hB : Bx ≠ X) (J Jx : List Rc → World → Prop)
    (hJ : ∀ pre A B, J pre A → Only X X A B → J pre B) (hE : ∀ pre A, EnR pre → ¬ J pre A)
    (hY : ∀ pre x A, J pre A → NxR s pre x → YieldAt Fence.wide (n - 1) Tryz.prog l #[.agg #[.int .i64 x.op, .int .i64 x.id, .string x.data]] A fun e B => (e = .returned (.bool true) ∧ J (pre ++ [x]) B ∧ KpS X Bx nn s A B) ∨ (e = .returned (.bool false) ∧ Jx (pre ++ [x]) B ∧ KpS X Bx nn s A B))
    (W : World) (hI : ItS X Bx nn s 0 W) (h0 : J [] W) :
    CallsIn Fence.wide n Tryz.prog 49 #[.func (.yield l) #[] #[], .pointer (some ⟨Bx, 0, none⟩)] W fun e B => (∃ v, e = .returned v) ∧ ((∃ xs, False ∧ J xs B) ∨ (∃ pre, SpR X Bx nn s pre B ∧ Jx pre B)) := by
  refine callsIn_of_wp Tryz.func49 rfl trivial ?_ rfl
  simp only [Tryz.ntmps49, List.size_toArray, List.length_cons, List.length_nil, Nat.reduceAdd, Nat.reduceSub, Array.replicate_succ, Array.replicate_zero, List.push_toArray, List.append_toArray, List.nil_append, List.cons_append]
  gi_wp2
  gi_loopw [3] (fun _ wr => ∃ pre k, SoFar s pre k ∧ J pre wr ∧ ItS X Bx nn s (k : Int) wr) (fun _ wr => leftS X s wr)
  case atStart => exact ⟨[], 0, SoFar.nil s, h0, hI⟩
  case round =>
    obtain ⟨pre, k, hso, hj, hit⟩ := hrel
    have hlt := leftS_of hit
    have HIT := Lib.hid hit
    have HLT := Lib.hid hlt
    obtain ⟨tv, hx, ht, hf, hcx⟩ := hit
    have hc := hcx.cell
    have hcx1 : ∀ w1, Only X X wr w1 → Boxed w1 Bx 91 (.pointer (some ⟨X, 0, none⟩)) := fun w1 ho => (ho.block Bx hcx.lt hB hB).trans hcx
    have HCX := Lib.hid hcx1
    clear hcx hcx1
    have HX := Lib.hid hx
    have HT := Lib.hid ht
    clear hx ht hI h0 hlt
    gi_wp2_with fail
    refine ⟨trivial, fun _ => by omega, ?_⟩
    refine (callsIn_wide.2 (next_any X nn s (k : Int) tv _ hf hX HX.out HT.out hs)).mono ?_
    rintro e w1 ⟨tv', ho1, ht1, ⟨r, hd, rfl, hx1⟩ | ⟨hd, rfl, hx1⟩⟩
    · have hj1 := hJ pre _ _ hj ho1
      have hit1 : ItS X Bx nn s ((k : Int) + 14 + (r.data.size : Int)) w1 := ⟨tv', hx1, ht1, hf.only ho1 hX hX, HCX.out _ ho1⟩
      obtain ⟨fn, tmps, assign, body, hy, hR⟩ := hY pre r w1 hj1 ⟨k, hso, .inl hd⟩
      obtain ⟨op, id, data⟩ := r
      have HLT1 := Lib.hid (leftS_of hit1)
      have HSO := Lib.hid (hso.snoc (decO_some.1 hd))
      have HSP := Lib.hid (show SoFar s pre k ∧ decO s k = some ⟨op, id, data⟩ from ⟨hso, hd⟩)
      have HSZ := Lib.hid (decO_some.1 hd).size
      clear hd hso hx1 ht1 HT HX hf hc hj
      dsimp only [rcV] at hy ⊢
      gi_wp2
      refine ⟨fun _ => by omega, ?_⟩
      refine hR.mono ?_
      rintro e W3 (⟨rfl, hJ3, hk3⟩ | ⟨rfl, hJx3, hk3⟩)
      · have hit3 := hk3 _ hit1
        have HL3 := Lib.hid (leftS_of hit3)
        gi_wp2
        go_roundw
        case rel => exact ⟨pre ++ [⟨op, id, data⟩], k + 14 + data.size, HSO.out, hJ3, hit3⟩
        case measure =>
          rw [HL3.out, HLT.out]
          have := HSZ.out
          omega
      · gi_wp2
        go_end0
        exact ⟨⟨_, rfl⟩, .inr ⟨pre ++ [⟨op, id, data⟩], ⟨pre, _, k, rfl, HSP.out.1, .inl ⟨HSP.out.2, hk3 _ hit1⟩⟩, hJx3⟩⟩
    · have hj1 := hJ pre _ _ hj ho1
      have hit1 : ItS X Bx nn s (k : Int) w1 := ⟨tv', hx1, ht1, hf.only ho1 hX hX, HCX.out _ ho1⟩
      obtain ⟨fn, tmps, assign, body, hy, hR⟩ := hY pre zeroRc w1 hj1 ⟨k, hso, .inr ⟨rfl, hd⟩⟩
      have HSP := Lib.hid (show SoFar s pre k ∧ decO s k = none from ⟨hso, hd⟩)
      simp only [rcV, zeroRc] at hy ⊢
      clear hd hso hx1 ht1 HT HX hf hc hj
      gi_wp2
      refine ⟨fun _ => by omega, ?_⟩
      refine hR.mono ?_
      rintro e W3 (⟨rfl, hJ3, hk3⟩ | ⟨rfl, hJx3, hk3⟩)
      · exact absurd hJ3 (hE _ _ ⟨pre, rfl⟩)
      · gi_wp2
        go_end0
        exact ⟨⟨_, rfl⟩, .inr ⟨pre ++ [zeroRc], ⟨pre, _, k, rfl, HSP.out.1, .inr ⟨rfl, HSP.out.2, hk3 _ hit1⟩⟩, hJx3⟩⟩

set_option maxHeartbeats 1000000 in
theorem recs_in (F : Fence) (n : Nat) (hf : F.fn 34) (hro : F.round = none) (X : Nat) (w : World) :
    CallsIn F n Tryz.prog 34 #[.pointer (some ⟨X, 0, none⟩)] w fun e w' => e = .returned (.func (.func 49) #[] #[.pointer (some ⟨w.heap.size, 0, none⟩)]) ∧ w' = w.alloc (.cells #[.pointer (some ⟨X, 0, none⟩)] 91) := by
  have hmf : ∀ (fn : Fn) (first cap : Array Value) (w : World), (Instr.makeFunc fn first cap).run Tryz.prog w = .ok (.func fn first cap) w := fun _ _ _ _ => rfl
  refine callsIn_of_wp Tryz.func34 rfl hf ?_ hro
  simp only [Tryz.ntmps34, List.size_toArray, List.length_cons, List.length_nil, Nat.reduceAdd, Nat.reduceSub, Array.replicate_succ, Array.replicate_zero, List.push_toArray, List.append_toArray, List.nil_append, List.cons_append]
  gi_wp2
  go_ret
  exact ⟨rfl, rfl⟩

theorem recs_stops (X Bx nn n : Nat) (s : ByteArray) (hs : s.size ≤ 1000000) (hn : 3 ≤ n) (hX : nn ≤ X) (hB : Bx ≠ X) (w : World) (hXl : X < w.heap.size) (hI : ItS X Bx nn s 0 w) :
    SeqSt Fence.wide n Tryz.prog 49 #[.pointer (some ⟨Bx, 0, none⟩)] (fun x : Rc => #[rcV x]) (KpS X Bx nn s) (Only X X) (NxR s) EnR (fun _ _ => False) (SpR X Bx nn s) w := fun l J Jx W hW hJ hE hY h0 => by
  have hI' : ItS X Bx nn s 0 W := by
    obtain ⟨tv, h1, h2, h3, h4⟩ := hI
    exact ⟨tv, h1.here hW, h2.below hW, h3.below hW, (hW.block Bx h4.lt).trans h4⟩
  exact recs1_in X Bx nn l n s hs hn hX hB J Jx hJ hE hY W hI' h0
end Go.Proofs.YtdlkmdjhjdpmeaaGreatDoor
