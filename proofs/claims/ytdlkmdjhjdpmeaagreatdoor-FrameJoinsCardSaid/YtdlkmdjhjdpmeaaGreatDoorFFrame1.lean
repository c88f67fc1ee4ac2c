/- frame of package frame's framer: the frame of a right record. -/
import Derived.Test.YtdlkmdjhjdpmeaaGreatDoorFSum
set_option linter.unusedVariables false
set_option linter.unusedSimpArgs false
namespace Go.Proofs.YtdlkmdjhjdpmeaaGreatDoor
open Go.RowKit

theorem cells_of_strs {w : World} {b : Nat} {t : TypeId} (xs : List ByteArray) (h : w.heap[b]? = some (.cells (xs.map Value.string).toArray t (0, 0))) : ∀ (j : Nat) x, xs[j]? = some x → w.cell? ⟨b, j, none⟩ = some (.string x) := fun j x e => by
  rw [cell_of_row w b j _ t (0, 0) h]
  simp [e]

theorem bytes_list {n k : Nat} (h1 : 1 ≤ k) (h2 : k ≤ 8) (h3 : n ≤ 281474976710655) (h4 : n < 256 ^ k) : (bytesR n k).1.data.toList = beL n k := by
  rw [bytesR_of h1 h2 h3 h4]

theorem sm_of {r : Rc} (hr : rcB r = true) : (([(bytesR 225 1).1, (bytesR r.op 1).1, (bytesR r.id 6).1, (bytesR (r.data.size : Int) 2).1, r.data].map (·.data.toList)).flatten) = smL r := by
  obtain ⟨p, i, h1, h2, h3, h4, h5, h6⟩ := rcB_iff.1 hr
  have e1 : (bytesR 225 1).1.data.toList = beL 225 1 := bytes_list (n := 225) (k := 1) (by omega) (by omega) (by omega) (by rw [pow1]; omega)
  have e2 : (bytesR r.op 1).1.data.toList = beL r.op.toNat 1 := by rw [h1]; exact bytes_list (n := p) (k := 1) (by omega) (by omega) (by omega) (by rw [pow1]; omega)
  have e3 : (bytesR r.id 6).1.data.toList = beL r.id.toNat 6 := by rw [h4]; exact bytes_list (n := i) (k := 6) (by omega) (by omega) (by omega) (by rw [pow6]; omega)
  have e4 : (bytesR (r.data.size : Int) 2).1.data.toList = beL r.data.size 2 := bytes_list (n := r.data.size) (k := 2) (by omega) (by omega) (by omega) (by rw [pow2]; omega)
  unfold smL
  simp only [List.map_cons, List.map_nil, List.flatten_cons, List.flatten_nil, e1, e2, e3, e4, List.append_nil, List.append_assoc]
theorem fr_of (r : Rc) : (([⟨(smL r).toArray⟩, (bytesR (c32 (smL r) : Int) 4).1].map (fun x : ByteArray => x.data.toList)).flatten) = frL r := by
  have e1 : (bytesR (c32 (smL r) : Int) 4).1.data.toList = beL (c32 (smL r)) 4 := by
    have := c32_lt (smL r)
    exact bytes_list (n := c32 (smL r)) (k := 4) (by omega) (by omega) (by omega) (by rw [show (256 : Nat) ^ 4 = 4294967296 from rfl]; omega)
  unfold frL
  simp only [List.map_cons, List.map_nil, List.flatten_cons, List.flatten_nil, e1, List.append_nil]

set_option maxRecDepth 100000 in
set_option maxHeartbeats 2000000 in
theorem fframe_any (X o n : Nat) (t : TypeId) (cs : Array Value) (v : Value) (r : Rc) (w : World) (hE : FrN n w) (hnX : n ≤ X) (hX : Blk w X t cs) (hv : cs[o]? = some v) (hn : NoU32 cs) (ht : TabV X w v) (hr : rcB r = true) :
    Calls Tryz.prog 40 #[.pointer (some ⟨X, o, none⟩), .agg #[.int .i64 r.op, .int .i64 r.id, .string r.data]] w fun e w' => e = .returned (.string ⟨(frL r).toArray⟩) ∧ Only X X w w' ∧ ∃ v', Blk w' X t (cs.setIfInBounds o v') ∧ TabV X w' v' := by
  have hsz : r.data.size ≤ 2000 := by obtain ⟨p, i, h1, h2, h3, h4, h5, h6⟩ := rcB_iff.1 hr; exact h6
  have hsm := sm_of hr
  have hsl := smL_length r
  have hfr := fr_of r
  have hfl := frL_length r
  have HSM := Lib.hid hsm
  have HSL := Lib.hid hsl
  have HFR := Lib.hid hfr
  have HFL := Lib.hid hfl
  have HE := Lib.hid hE
  have HX := Lib.hid hX
  have HV := Lib.hid hv
  have HT := Lib.hid ht
  have hXl := hX.lt
  obtain ⟨op, id, data⟩ := r
  simp only at hsz
  clear hsm hsl hfr hfl hE hX hv ht hr
  go_enter Tryz.func40, Tryz.ntmps40
  go_wp2
  have g0 : (w.alloc (.cells #[.int .i64 op, .int .i64 id, .string data] 23)).cell? ⟨w.heap.size, 0, none⟩ = some (.int .i64 op) := by go_simp
  have g1 : (w.alloc (.cells #[.int .i64 op, .int .i64 id, .string data] 23)).cell? ⟨w.heap.size, 1, none⟩ = some (.int .i64 id) := by go_simp
  have g2 : (w.alloc (.cells #[.int .i64 op, .int .i64 id, .string data] 23)).cell? ⟨w.heap.size, 2, none⟩ = some (.string data) := by go_simp
  have hb0 : Below w.heap.size w (w.alloc (.cells #[.int .i64 op, .int .i64 id, .string data] 23)) := (Below.refl _ _).alloc (Nat.le_refl _) _
  have hz0 : w.heap.size < (w.alloc (.cells #[.int .i64 op, .int .i64 id, .string data] 23)).heap.size := by simp
  generalize w.alloc (.cells #[.int .i64 op, .int .i64 id, .string data] 23) = w0 at g0 g1 g2 hb0 hz0 ⊢
  have HE0 := Lib.hid (HE.out.below hb0).ok
  have hcum : Below w0.heap.size w0 w0.drew := (Below.refl w0.heap.size w0).drew
  go_region_held3 (fun w' => w'.cell? ⟨w.heap.size, 0, none⟩ = some (.int .i64 op) ∧ w'.cell? ⟨w.heap.size, 1, none⟩ = some (.int .i64 id) ∧ w'.cell? ⟨w.heap.size, 2, none⟩ = some (.string data))
    (first
      | exact ⟨(hcum.cell (p := ⟨w.heap.size, 0, none⟩) hz0).trans g0, (hcum.cell (p := ⟨w.heap.size, 1, none⟩) hz0).trans g1, (hcum.cell (p := ⟨w.heap.size, 2, none⟩) hz0).trans g2⟩
      | go_keep)
    (first
      | ((go_at_call 53; refine (fnbytes_any _ _ _ (HE0.out.below hcum)).mono ?_; rintro e v1 ⟨rfl, hb1⟩; replace hcum := hcum.trans (hb1.mono hcum.size); clear hb1))
      | ((go_at_call 52; refine (fjoined_any _ _ [(bytesR 225 1).1, (bytesR op 1).1, (bytesR id 6).1, (bytesR (data.size : Int) 2).1, data] _ (cells_of_strs _ (heap_alloc_new _ _)) (by simp) (by simp) (by simp) (by rw [HSM.out, HSL.out]; omega)).mono ?_; rintro e v4 ⟨rfl, hb4⟩; rw [HSM.out]; replace hcum := (hcum.alloc hcum.size _).trans (hb4.mono (by have := hcum.size; simp; omega)); clear hb4)))
  have HB4 := Lib.hid (hb0.trans (hcum.mono hb0.size))
  clear hcum hb0 g0 g1 g2 hz0
  go_wp2_with fail
  refine (fsum_any X o t cs v _ v4 n (HE.out.below HB4.out) hnX (HX.out.here HB4.out) HV.out hn (HT.out.below HB4.out) ?_).mono ?_
  · show (smL ⟨op, id, data⟩).toArray.size ≤ _
    rw [List.size_toArray, HSL.out]; omega
  rintro e v5 ⟨rfl, ho5, v', hX5, ht5⟩
  have HO5 := Lib.hid ((Only.ofBelow HB4.out).trans ho5)
  have HE5 := Lib.hid (HE.out.only HO5.out hnX hnX)
  have HX5 := Lib.hid hX5
  have HT5 := Lib.hid ht5
  clear ho5 hX5 ht5
  go_wp2_with fail
  refine (fnbytes_any _ _ _ HE5.out.ok).mono ?_
  rintro e v6 ⟨rfl, hb6⟩
  go_wp2_with fail
  refine (fjoined_any _ _ [⟨(smL ⟨op, id, data⟩).toArray⟩, (bytesR (c32 (smL ⟨op, id, data⟩) : Int) 4).1] _ (cells_of_strs _ (heap_alloc_new _ _)) (by simp) (by simp) (by simp) (by rw [HFR.out, HFL.out]; omega)).mono ?_
  rintro e v7 ⟨rfl, hb7⟩
  rw [HFR.out]
  have hB7 : Below v5.heap.size v5 v7 := (hb6.alloc hb6.size _).trans (hb7.mono (by have := hb6.size; simp; omega))
  go_wp2
  go_ret
  exact ⟨rfl, HO5.out.below hB7, v', HX5.out.here hB7, HT5.out.below hB7⟩
end Go.Proofs.YtdlkmdjhjdpmeaaGreatDoor
