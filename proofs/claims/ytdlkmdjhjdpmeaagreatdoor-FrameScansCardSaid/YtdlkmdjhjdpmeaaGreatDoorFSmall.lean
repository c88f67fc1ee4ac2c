/- Small functions of package frame: which records are right, answers, numbers' bytes, pieces joined. -/
import Derived.Test.YtdlkmdjhjdpmeaaGreatDoorFPure
import Derived.Test.YtdlkmdjhjdpmeaaGreatDoorFBld
import Derived.Test.YtdlkmdjhjdpmeaaGreatDoorCLaid
import Derived.Test.YtdlkmdjhjdpmeaaGreatDoorBlk
import Derived.Lib.Join
set_option linter.unusedVariables false
set_option linter.unusedSimpArgs false
namespace Go.Proofs.YtdlkmdjhjdpmeaaGreatDoor
open Go.RowKit

/-- All that package frame starts from: the sentinels of packages nums and crc, crc's table of kinds. -/
def FrOK (w : World) : Prop := (∃ a0 a1 a2, Env a0 a1 a2 w) ∧ CrcOK w
theorem FrOK.below {w w' : World} (h : FrOK w) (hb : Below w.heap.size w w') : FrOK w' := by
  obtain ⟨⟨a0, a1, a2, hE⟩, hC⟩ := h
  exact ⟨⟨a0, a1, a2, hE.below hb⟩, hC.below hb⟩
theorem FrOK.alloc {w : World} (h : FrOK w) (o : Obj) : FrOK (w.alloc o) := h.below ((Below.refl _ _).alloc (Nat.le_refl _) _)

/-- So it was at a world of n blocks, and nothing below is changed since. -/
def FrN (n : Nat) (w : World) : Prop := ∃ w0 : World, w0.heap.size = n ∧ FrOK w0 ∧ Below n w0 w
theorem FrN.ok {n : Nat} {w : World} (h : FrN n w) : FrOK w := by
  obtain ⟨w0, rfl, h1, h2⟩ := h
  exact h1.below h2
theorem FrN.start {w : World} (h : FrOK w) : FrN w.heap.size w := ⟨w, rfl, h, Below.refl _ _⟩
theorem FrN.le {n : Nat} {w : World} (h : FrN n w) : n ≤ w.heap.size := by
  obtain ⟨w0, rfl, _, h2⟩ := h
  exact h2.size
theorem FrN.only {n a b : Nat} {w w' : World} (h : FrN n w) (ho : Only a b w w') (ha : n ≤ a) (hb : n ≤ b) : FrN n w' := by
  have hl := h.le
  obtain ⟨w0, rfl, h1, h2⟩ := h
  exact ⟨w0, rfl, h1, ho.toBelow h2 ha hb hl⟩
theorem FrN.below {n : Nat} {w w' : World} (h : FrN n w) (hb : Below w.heap.size w w') : FrN n w' := by
  have hl := h.le
  obtain ⟨w0, rfl, h1, h2⟩ := h
  exact ⟨w0, rfl, h1, h2.trans (hb.mono hl)⟩

/-- A record as a value; its cells. -/
def rcV (r : Rc) : Value := .agg #[.int .i64 r.op, .int .i64 r.id, .string r.data]
def rcC (r : Rc) : Array Value := #[.int .i64 r.op, .int .i64 r.id, .string r.data]

theorem fright_of (op id : Int) (data : ByteArray) (b1 b2 b3 b4 : Bool) (w : World) (hs : data.size ≤ 9223372036854775807) (h1 : decide (1 ≤ op) = b1) (h2 : decide (op ≤ 9) = b2) (h3 : rightB id = b3) (h4 : decide ((data.size : Int) ≤ 2000) = b4) :
    Calls Tryz.prog 17 #[.agg #[.int .i64 op, .int .i64 id, .string data]] w fun e w' => e = .returned (.bool (b1 && b2 && b3 && b4)) ∧ Below w.heap.size w w' := by
  have hr : ∀ W, Calls Tryz.prog 32 #[.int .i64 id] W fun e w' => e = .returned (.bool b3) ∧ W = w' := fun W => by rw [← h3]; exact right_any id W
  have HR := Lib.hid hr
  clear hr h3
  cases b1 <;> cases b2 <;> cases b3 <;> cases b4
  all_goals
    go_enter Tryz.func17, Tryz.ntmps17
    go_wp2_with (go_at_call 32; refine (HR.out _).mono ?_; rintro e w' ⟨rfl, rfl⟩)
    go_ret
    exact ⟨rfl, (Below.refl _ _).alloc (Nat.le_refl _) _⟩

theorem fright_any (r : Rc) (w : World) (hs : r.data.size ≤ 9223372036854775807) :
    Calls Tryz.prog 17 #[.agg #[.int .i64 r.op, .int .i64 r.id, .string r.data]] w fun e w' => e = .returned (.bool (rcB r)) ∧ Below w.heap.size w w' :=
  fright_of r.op r.id r.data _ _ _ _ w hs rfl rfl rfl (by simp; omega)

theorem fwrong_any (r : Rc) (w : World) (hs : r.data.size ≤ 9223372036854775807) :
    Calls Tryz.prog 37 #[.agg #[.int .i64 r.op, .int .i64 r.id, .string r.data]] w fun e w' => e = .returned (.bool (!rcB r)) ∧ Below w.heap.size w w' := by
  obtain ⟨b, hb⟩ : ∃ b, rcB r = b := ⟨_, rfl⟩
  have h := fun W => fright_any r W hs
  rw [hb] at h ⊢
  have H := Lib.hid h
  clear h
  obtain ⟨op, id, data⟩ := r
  cases b
  all_goals
    go_enter Tryz.func37, Tryz.ntmps37
    go_wp2_with fail
    refine (H.out _).mono ?_
    rintro e w1 ⟨rfl, hb1⟩
    go_wp2
    go_ret
    exact ⟨rfl, ((Below.refl _ _).alloc (Nat.le_refl _) _).trans (hb1.mono (by simp))⟩

theorem fwrong_t {r : Rc} (h : rcB r = false) (w : World) (hs : r.data.size ≤ 9223372036854775807) :
    Calls Tryz.prog 37 #[.agg #[.int .i64 r.op, .int .i64 r.id, .string r.data]] w fun e w' => e = .returned (.bool true) ∧ Below w.heap.size w w' :=
  (fwrong_any r w hs).mono fun e w' ⟨h1, h2⟩ => ⟨by rw [h1, h]; rfl, h2⟩
theorem fwrong_f {r : Rc} (h : rcB r = true) (w : World) (hs : r.data.size ≤ 9223372036854775807) :
    Calls Tryz.prog 37 #[.agg #[.int .i64 r.op, .int .i64 r.id, .string r.data]] w fun e w' => e = .returned (.bool false) ∧ Below w.heap.size w w' :=
  (fwrong_any r w hs).mono fun e w' ⟨h1, h2⟩ => ⟨by rw [h1, h]; rfl, h2⟩

theorem fnone_any (w : World) :
    Calls Tryz.prog 35 #[] w fun e w' => e = .returned (.agg #[.int .i64 0, .int .i64 0, .string ⟨#[]⟩]) ∧ w.alloc (.cells #[.int .i64 0, .int .i64 0, .string ⟨#[]⟩] 23) = w' := by
  go_enter Tryz.func35, Tryz.ntmps35
  go_wp2
  exact bodyPost_ret (v := .agg #[.int .i64 0, .int .i64 0, .string ⟨#[]⟩]) (by simp [results, Tryz.results35, go_sem]) rfl ⟨rfl, rfl⟩

theorem fbads_any (w : World) :
    Calls Tryz.prog 38 #[] w fun e w' => e = .returned (.agg #[.string ⟨#[]⟩, .int .i64 170]) ∧ Below w.heap.size w w' := by
  go_enter Tryz.func38, Tryz.ntmps38
  go_wp2
  exact bodyPost_ret (v := .agg #[.string ⟨#[]⟩, .int .i64 170]) (by simp [results, Tryz.results38, go_sem]) rfl ⟨rfl, (Below.refl _ _).alloc (Nat.le_refl _) _⟩

theorem fgoods_any (s : ByteArray) (w : World) :
    Calls Tryz.prog 41 #[.string s] w fun e w' => e = .returned (.agg #[.string s, .int .i64 0]) ∧ Below w.heap.size w w' := by
  go_enter Tryz.func41, Tryz.ntmps41
  go_wp2
  exact bodyPost_ret (v := .agg #[.string s, .int .i64 0]) (by simp [results, Tryz.results41, go_sem]) rfl ⟨rfl, (Below.refl _ _).alloc (Nat.le_refl _) _⟩

theorem fbadp_any (w : World) :
    Calls Tryz.prog 47 #[] w fun e w' => e = .returned (.agg #[.int .i64 0, .int .i64 0, .string ⟨#[]⟩, .int .i64 0, .int .i64 170]) ∧ Below w.heap.size w w' := by
  go_enter Tryz.func47, Tryz.ntmps47
  go_wp2
  exact bodyPost_ret (v := .agg #[.int .i64 0, .int .i64 0, .string ⟨#[]⟩, .int .i64 0, .int .i64 170]) (by simp [results, Tryz.results47, go_sem]) rfl ⟨rfl, (Below.refl _ _).alloc (Nat.le_refl _) _⟩

theorem fgoodp_any (op id : Int) (data : ByteArray) (n : Int) (w : World) :
    Calls Tryz.prog 48 #[.agg #[.int .i64 op, .int .i64 id, .string data, .int .i64 n]] w fun e w' => e = .returned (.agg #[.int .i64 op, .int .i64 id, .string data, .int .i64 n, .int .i64 0]) ∧ Below w.heap.size w w' := by
  go_enter Tryz.func48, Tryz.ntmps48
  go_wp2
  exact bodyPost_ret (v := .agg #[.int .i64 op, .int .i64 id, .string data, .int .i64 n, .int .i64 0]) (by simp [results, Tryz.results48, go_sem]) rfl ⟨rfl, ((Below.refl _ _).alloc (Nat.le_refl _) _).alloc (by simp) _⟩

theorem ftells_any (s : ByteArray) (n : Int) (w : World) (h : n = 0 ∨ (n = 170 ∧ s = ⟨#[]⟩)) :
    Calls Tryz.prog 24 #[.agg #[.string s, .int .i64 n]] w fun e w' => e = .returned (.tuple #[.string s, .int .i64 n]) ∧ Below w.heap.size w w' := by
  rcases h with rfl | ⟨rfl, rfl⟩
  · go_enter Tryz.func24, Tryz.ntmps24
    go_wp2
    go_ret2
    exact ⟨rfl, (Below.refl _ _).alloc (Nat.le_refl _) _⟩
  · go_enter Tryz.func24, Tryz.ntmps24
    go_wp2
    go_quiet (fail)
    go_wp2
    go_ret2
    exact ⟨rfl, cdrewN ((Below.refl _ _).alloc (Nat.le_refl _) _) _⟩

theorem ftellp_ok (op id : Int) (data : ByteArray) (n : Int) (w : World) :
    Calls Tryz.prog 28 #[.agg #[.int .i64 op, .int .i64 id, .string data, .int .i64 n, .int .i64 0]] w fun e w' => e = .returned (.tuple #[.agg #[.int .i64 op, .int .i64 id, .string data, .int .i64 n], .int .i64 0]) ∧ Below w.heap.size w w' := by
  go_enter Tryz.func28, Tryz.ntmps28
  go_wp2
  exact bodyPost_ret (v := .tuple #[.agg #[.int .i64 op, .int .i64 id, .string data, .int .i64 n], .int .i64 0]) (by simp [results, Tryz.results28, go_sem]) rfl ⟨rfl, ((Below.refl _ _).alloc (Nat.le_refl _) _).alloc (by simp) _⟩

theorem ftellp_bad (w : World) :
    Calls Tryz.prog 28 #[.agg #[.int .i64 0, .int .i64 0, .string ⟨#[]⟩, .int .i64 0, .int .i64 170]] w fun e w' => e = .returned (.tuple #[.agg #[.int .i64 0, .int .i64 0, .string ⟨#[]⟩, .int .i64 0], .int .i64 170]) ∧ Below w.heap.size w w' := by
  go_enter Tryz.func28, Tryz.ntmps28
  go_wp2
  go_region
  go_wp2
  exact bodyPost_ret (v := .tuple #[.agg #[.int .i64 0, .int .i64 0, .string ⟨#[]⟩, .int .i64 0], .int .i64 170]) (by simp [results, Tryz.results28, go_sem]) rfl ⟨rfl, ((((Below.refl _ _).alloc (Nat.le_refl _) _).alloc (by simp) _).alloc (by simp; omega) _).drew⟩

theorem fnbytes_any (n k : Int) (w : World) (hE : FrOK w) :
    Calls Tryz.prog 53 #[.int .i64 n, .int .i64 k] w fun e w' => e = .returned (.string (bytesR n k).1) ∧ Below w.heap.size w w' := by
  obtain ⟨⟨a0, a1, a2, hE⟩, _⟩ := hE
  go_enter Tryz.func53, Tryz.ntmps53
  go_wp2_with fail
  refine (bytes_any a0 a1 a2 n k _ hE).mono ?_
  rintro e w1 ⟨rfl, hb1⟩
  go_wp2
  go_ret
  exact ⟨rfl, hb1⟩

theorem join_flat (xs : List (List UInt8)) : Lib.join xs [] = xs.flatten := by
  cases xs with
  | nil => rfl
  | cons x r => rw [Lib.join_cons]; simp [Lib.joinTail]

theorem fjoined_any (bk c : Nat) (xs : List ByteArray) (w : World) (hcells : ∀ (j : Nat) x, xs[j]? = some x → w.cell? ⟨bk, j, none⟩ = some (.string x)) (hbk : bk < w.heap.size) (hN : xs.length ≤ 140737488355328) (hcap : xs.length ≤ c) (hlen : ((xs.map (·.data.toList)).flatten).length ≤ 140737488355328) :
    Calls Tryz.prog 52 #[.slice (some ⟨bk, 0, none⟩) xs.length c] w fun e w' => e = .returned (.string ⟨((xs.map (·.data.toList)).flatten).toArray⟩) ∧ Below w.heap.size w w' := by
  have h := shl_strings_Join bk 0 c xs ⟨#[]⟩ w (fun j x e => by rw [Nat.zero_add]; exact hcells j x e) hbk hN hcap (by rw [show (ByteArray.mk #[]).data.toList = [] from rfl, join_flat]; exact hlen)
  rw [show (ByteArray.mk #[]).data.toList = [] from rfl, join_flat] at h
  have H := Lib.hid h
  clear h hcells hlen hN hcap
  go_enter Tryz.func52, Tryz.ntmps52
  go_wp2_with fail
  refine H.out.mono ?_
  rintro e w1 ⟨rfl, hb1⟩
  go_wp2
  go_ret
  exact ⟨rfl, hb1⟩
end Go.Proofs.YtdlkmdjhjdpmeaaGreatDoor
