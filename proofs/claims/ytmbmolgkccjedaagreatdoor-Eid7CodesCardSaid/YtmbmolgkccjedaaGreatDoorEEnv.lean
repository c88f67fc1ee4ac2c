/- What package eid starts from: what the library's variables hold that strconv and strings read; strconv.Itoa, number, strings.Cut, strings.Clone by the shelf's contracts. -/
import Derived.Test.YtmbmolgkccjedaaGreatDoorM6
import Derived.Test.YtmbmolgkccjedaaGreatDoorEShelf
import Derived.Lib.AppendIntMem
import Derived.Lib.AtoiErrMem
import Derived.Lib.AtoiAllCases
import Derived.WalkSmall
set_option linter.unusedVariables false
set_option linter.unusedSimpArgs false
namespace Go.Proofs.YtmbmolgkccjedaaGreatDoor
open Go.RowKit

/-- What the library's variables hold. -/
structure EnvN (w : World) : Prop where
  m : ∃ m : Int, w.cell? ⟨7, 0, none⟩ = some (.int .i64 m)
  t : Lib.TabIs Tryz.prog w "internal/strconv.uint64pow10" .u64 Lib.pow10Tab
  s : ∃ (tp : TypeId) (p : Value), w.var? Tryz.prog "strconv.ErrSyntax" = some #[.iface tp p]
  r : ∃ (tp : TypeId) (p : Value), w.var? Tryz.prog "strconv.ErrRange" = some #[.iface tp p]

theorem var_on {P : Program} {w w' : World} {n : String} {cs : Array Value} (hb : Below w.heap.size w w') (h : w.var? P n = some cs) : w'.var? P n = some cs := by
  unfold World.var? at h ⊢
  cases hg : P.globalNamed n with
  | none => rw [hg] at h; cases h
  | some g =>
    rw [hg] at h
    simp only [Option.bind_some] at h ⊢
    have hlt : g < w.heap.size := by
      rcases Nat.lt_or_ge g w.heap.size with hl | hl
      · exact hl
      · rw [Array.getElem?_eq_none hl] at h; cases h
    rw [hb.block g hlt]
    exact h
theorem EnvN.below {w w' : World} (h : EnvN w) (hb : Below w.heap.size w w') : EnvN w' := by
  obtain ⟨m, hm⟩ := h.m
  obtain ⟨ts, ps, hs⟩ := h.s
  obtain ⟨tr, pr, hr⟩ := h.r
  exact ⟨⟨m, (hb.cell (World.block_lt_of_cell? _ _ hm)).trans hm⟩, var_on hb h.t, ⟨ts, ps, var_on hb hs⟩, ⟨tr, pr, var_on hb hr⟩⟩

theorem cutS_any (s sep : ByteArray) (w : World) (hE : EnvN w) (hs : s.size ≤ 4000000000) :
    Calls Tryz.prog 121 #[.string s, .string sep] w fun e w' => e = .returned (.tuple #[.string ⟨(Lib.cut s.data.toList sep.data.toList).1.toArray⟩, .string ⟨(Lib.cut s.data.toList sep.data.toList).2.1.toArray⟩, .bool (Lib.cut s.data.toList sep.data.toList).2.2]) ∧ Below w.heap.size w w' := by
  obtain ⟨m, hm⟩ := hE.m
  refine (shl_strings_Cut s sep m w (by omega) hm).mono ?_
  rintro e w' ⟨rfl, n, rfl⟩
  exact ⟨rfl, below_drewN (Below.refl _ _) _⟩
theorem itoa_any (n : Int) (w : World) (hE : EnvN w) (h0 : -9223372036854775808 ≤ n) (h1 : n ≤ 9223372036854775807) :
    Calls Tryz.prog 96 #[.int .i64 n] w fun e w' => e = .returned (.string ⟨(Lib.itoa n).toArray⟩) ∧ Below w.heap.size w w' := by
  refine (shl_strconv_Itoa n h0 h1 w hE.t).mono ?_
  rintro e w' ⟨rfl, k, os, rfl⟩
  exact ⟨rfl, Lib.below_grow _ _ (Nat.le_refl _) _ _⟩

/-- A number of digits; 0 if there is none. -/
def numPE (l : List UInt8) : Int := match Lib.atoiAll l with
  | .ok v => v
  | _ => 0
theorem numP_bounds (l : List UInt8) : -9223372036854775808 ≤ numPE l ∧ numPE l ≤ 9223372036854775807 := by
  unfold numPE
  split
  · rename_i v h
    exact Lib.atoiAll_bounds h
  · omega

set_option maxRecDepth 100000 in
set_option maxHeartbeats 1000000 in
theorem enumber_any (s : ByteArray) (w : World) (hE : EnvN w) (hs : s.size ≤ 4000000000) :
    Calls Tryz.prog 97 #[.string s] w fun e w' => e = .returned (.int .i64 (numPE s.data.toList)) ∧ Below w.heap.size w w' := by
  unfold numPE
  cases h : Lib.atoiAll s.data.toList with
  | ok v =>
    have HC := Lib.hid (shl_strconv_Atoi_ok s (by omega) v h w)
    clear h
    go_enter Tryz.func97, Tryz.ntmps97
    go_wp2_with fail
    refine HC.out.mono ?_
    rintro e w1 ⟨rfl, h1⟩
    have HB := Lib.hid (show Below w.heap.size w w1 by
      rcases h1 with rfl | ⟨t, rfl⟩
      · exact Below.refl _ _
      · exact Lib.bytesWorld_below _ _ _)
    clear h1 HC
    go_wp2
    go_ret
    exact ⟨rfl, HB.out⟩
  | range =>
    obtain ⟨ts, ps, hv⟩ := hE.r
    have HC := Lib.hid (shl_strconv_Atoi_range_var s (by omega) h ts ps w hv)
    clear h
    go_enter Tryz.func97, Tryz.ntmps97
    go_wp2_with fail
    refine HC.out.mono ?_
    rintro e w1 ⟨N, rfl, hN, hc, hb⟩
    have HB := Lib.hid hb
    clear hb HC hc
    go_wp2
    go_ret
    exact ⟨rfl, HB.out⟩
  | _ =>
    obtain ⟨ts, ps, hv⟩ := hE.s
    have HC := Lib.hid (shl_strconv_Atoi_syntax_var s (by omega) (fun v e => by rw [h] at e; cases e) (fun e => by rw [h] at e; cases e) ts ps w hv)
    clear h
    go_enter Tryz.func97, Tryz.ntmps97
    go_wp2_with fail
    refine HC.out.mono ?_
    rintro e w1 ⟨N, rfl, hN, hc, hb⟩
    have HB := Lib.hid hb
    clear hb HC hc
    go_wp2
    go_ret
    exact ⟨rfl, HB.out⟩

set_option maxHeartbeats 400000 in
theorem clone_anyE (s : ByteArray) (w : World) (hs : s.size ≤ 4000000000) :
    Calls Tryz.prog 175 #[.string s] w fun e w' => e = .returned (.string s) ∧ Below w.heap.size w w' := by
  have HC := Lib.hid (shl_stringslite_Clone s w (by omega))
  go_enter Tryz.func175, Tryz.ntmps175
  go_wp2_with fail
  refine HC.out.mono ?_
  rintro e w1 ⟨rfl, hb⟩
  have HB := Lib.hid hb
  clear hb HC
  go_wp2
  go_ret
  exact ⟨rfl, HB.out⟩
end Go.Proofs.YtmbmolgkccjedaaGreatDoor
