/- The document's Right and Encode of layer 17. -/
import Derived.Test.YtdlkmdjhjdpmeaaGreatDoorFLay
import Derived.Test.YtdlkmdjhjdpmeaaGreatDoorCRefS
import Derived.Test.YtdlkmdjhjdpmeaaGreatDoorStr
set_option linter.unusedVariables false
set_option linter.unusedSimpArgs false
namespace Go.Proofs.YtdlkmdjhjdpmeaaGreatDoor
open Go.RowKit

theorem frright_of (op id : Int) (data : ByteArray) (b1 b2 b3 b4 : Bool) (w : World) (hs : data.size ≤ 9223372036854775807) (h1 : decide (op ≥ 1) = b1) (h2 : decide (op ≤ 9) = b2) (h3 : rightB id = b3) (h4 : decide ((data.size : Int) ≤ 2000) = b4) :
    Calls Tryz.prog 18 #[.agg #[.int .i64 op, .int .i64 id, .string data]] w fun e w' => e = .returned (.bool (b1 && b2 && b3 && b4)) ∧ Below w.heap.size w w' := by
  have hr : ∀ W, Calls Tryz.prog 33 #[.int .i64 id] W fun e w' => e = .returned (.bool b3) ∧ W = w' := fun W => by rw [← h3]; exact refRight_any id W
  have HR := Lib.hid hr
  clear hr h3
  cases b1 <;> cases b2 <;> cases b3 <;> cases b4
  all_goals
    go_enter Tryz.func18, Tryz.ntmps18
    go_wp2_with (go_at_call 33; refine (HR.out _).mono ?_; rintro e w' ⟨rfl, rfl⟩)
    go_ret
    exact ⟨rfl, (Below.refl _ _).alloc (Nat.le_refl _) _⟩

theorem frright_any (r : Rc) (w : World) (hs : r.data.size ≤ 9223372036854775807) :
    Calls Tryz.prog 18 #[.agg #[.int .i64 r.op, .int .i64 r.id, .string r.data]] w fun e w' => e = .returned (.bool (rcB r)) ∧ Below w.heap.size w w' :=
  frright_of r.op r.id r.data _ _ _ _ w hs rfl rfl rfl (by simp; omega)

theorem fone_byte (y : UInt8) (W : World) : (convert 41 9 (.slice (some ⟨W.heap.size, 0, none⟩) 1 1)).run Tryz.prog (W.alloc (.cells #[.int .u8 ((y.toNat : Nat) : Int)] 5)) = .ok (.string ⟨#[y]⟩) (W.alloc (.cells #[.int .u8 ((y.toNat : Nat) : Int)] 5)) := by
  have h := run_convert_bytes_back (P := Tryz.prog) (W.alloc (.cells #[.int .u8 ((y.toNat : Nat) : Int)] 5)) 41 9 5 ⟨W.heap.size, 0, none⟩ 1 [y] Tryz.underlying41 Tryz.underlying5 Tryz.underlying9 (fun j hj => by
    obtain rfl : j = 0 := by simpa using hj
    simp [Addr.add])
  simpa using h

set_option maxRecDepth 100000 in
set_option maxHeartbeats 2000000 in
theorem rencode_of (y : UInt8) (i : Nat) (data b q p1 p2 p3 p4 u v : ByteArray) (w : World) (hr : rcB ⟨(y.toNat : Nat), i, data⟩ = true) (hi : (bytesR i 6).1 = b) (hq : (bytesR data.size 2).1 = q)
    (s1 : ∀ w, (Op.stringOp .add ⟨#[225]⟩ ⟨#[y]⟩).run Tryz.prog w = .ok (.string p1) w) (s2 : ∀ w, (Op.stringOp .add p1 b).run Tryz.prog w = .ok (.string p2) w) (s3 : ∀ w, (Op.stringOp .add p2 q).run Tryz.prog w = .ok (.string p3) w) (s4 : ∀ w, (Op.stringOp .add p3 data).run Tryz.prog w = .ok (.string p4) w)
    (hu : (ofR 2 p4).1 = u) (hp4 : p4.size ≤ 1000000) (s5 : ∀ w, (Op.stringOp .add p4 u).run Tryz.prog w = .ok (.string v) w) :
    Calls Tryz.prog 14 #[.agg #[.int .i64 ((y.toNat : Nat) : Int), .int .i64 (i : Int), .string data]] w fun e w' => e = .returned (.tuple #[.string v, .int .i64 0]) ∧ Below w.heap.size w w' := by
  have hd : data.size ≤ 9223372036854775807 := by obtain ⟨_, _, _, _, _, _, _, h6⟩ := rcB_iff.1 hr; simp only at h6; omega
  have hy := y.toNat_lt
  have hmod : ((y.toNat : Nat) : Int) % 256 = ((y.toNat : Nat) : Int) := by omega
  have h1b := fone_byte y
  have HR := Lib.hid hr
  have HI := Lib.hid hi
  have HQ := Lib.hid hq
  have HU := Lib.hid hu
  clear hr hi hq hu
  go_enter Tryz.func14, Tryz.ntmps14
  go_wp2_with fail
  refine (frright_any ⟨(y.toNat : Nat), i, data⟩ _ hd).mono ?_
  rintro e w1 ⟨rfl, hb1⟩
  rw [HR.out]
  have hX1 : Blk w1 w.heap.size 23 #[.int .i64 ((y.toNat : Nat) : Int), .int .i64 (i : Int), .string data] := (Blk.new w _ _).here hb1
  have HB1 := Lib.hid (((Below.refl _ w).alloc (Nat.le_refl _) (.cells #[.int .i64 ((y.toNat : Nat) : Int), .int .i64 (i : Int), .string data] 23)).trans (hb1.mono (by simp)))
  have g1 : w1.cell? ⟨w.heap.size, 1, none⟩ = some (.int .i64 (i : Int)) := hX1.cell 1
  clear hb1
  go_wp2_with fail
  refine (refBytes_any _ _ _).mono ?_
  rintro e w2 ⟨rfl, hb2⟩
  rw [HI.out]
  have hX2 := hX1.here hb2
  have HB2 := Lib.hid (HB1.out.trans (hb2.mono HB1.out.size))
  have g2 : w2.cell? ⟨w.heap.size, 2, none⟩ = some (.string data) := hX2.cell 2
  clear hb2 hX1 g1
  go_wp2_with fail
  refine (refBytes_any _ _ _).mono ?_
  rintro e w3 ⟨rfl, hb3⟩
  rw [HQ.out]
  have hX3 := hX2.here hb3
  have HB3 := Lib.hid (HB2.out.trans (hb3.mono HB2.out.size))
  have k0 : w3.cell? ⟨w.heap.size, 0, none⟩ = some (.int .i64 ((y.toNat : Nat) : Int)) := hX3.cell 0
  have k2 : w3.cell? ⟨w.heap.size, 2, none⟩ = some (.string data) := hX3.cell 2
  have hz3 := hX3.lt
  clear hb3 hX2 hX3 g2
  have h1c := h1b w3
  go_wp2_with fail
  refine (rof_any 2 p4 _ hp4).mono ?_
  rintro e w4 ⟨rfl, hb4⟩
  rw [HU.out]
  have HB4 := Lib.hid ((HB3.out.alloc HB3.out.size (.cells #[.int .u8 ((y.toNat : Nat) : Int)] 5)).trans (hb4.mono (by have := HB3.out.size; simp; omega)))
  clear hb4 h1c h1b
  go_wp2
  go_ret2
  exact ⟨rfl, HB4.out⟩

set_option maxRecDepth 100000 in
set_option maxHeartbeats 1000000 in
theorem rencode_no (op id : Int) (data : ByteArray) (w : World) (hr : rcB ⟨op, id, data⟩ = false) (hd : data.size ≤ 9223372036854775807) :
    Calls Tryz.prog 14 #[.agg #[.int .i64 op, .int .i64 id, .string data]] w fun e w' => e = .returned (.tuple #[.string ⟨#[]⟩, .int .i64 170]) ∧ Below w.heap.size w w' := by
  have HR := Lib.hid hr
  clear hr
  go_enter Tryz.func14, Tryz.ntmps14
  go_wp2_with fail
  refine (frright_any ⟨op, id, data⟩ _ hd).mono ?_
  rintro e w1 ⟨rfl, hb1⟩
  rw [HR.out]
  have HB1 := Lib.hid (((Below.refl _ w).alloc (Nat.le_refl _) (.cells #[.int .i64 op, .int .i64 id, .string data] 23)).trans (hb1.mono (by simp)))
  clear hb1
  go_wp2
  go_ret2
  exact ⟨rfl, HB1.out⟩

theorem ba_eq {a b : ByteArray} (h : a.data.toList = b.data.toList) : a = b := ByteArray.ext (Array.toList_inj.1 h)
theorem ba_app (a b : ByteArray) : (a ++ b).data.toList = a.data.toList ++ b.data.toList := by
  rw [ByteArray.data_append, Array.toList_append]

theorem rencode_any (r : Rc) (w : World) (hd : r.data.size ≤ 9223372036854775807) :
    Calls Tryz.prog 14 #[.agg #[.int .i64 r.op, .int .i64 r.id, .string r.data]] w fun e w' => e = .returned (.tuple #[.string (fencR r).1, .int .i64 (fencR r).2]) ∧ Below w.heap.size w w' := by
  cases hr : rcB r with
  | false =>
    have e : fencR r = (⟨#[]⟩, 170) := by unfold fencR; rw [hr]; rfl
    rw [e]
    exact rencode_no r.op r.id r.data w hr hd
  | true =>
    have e : fencR r = (⟨(frL r).toArray⟩, 0) := by unfold fencR; rw [hr]; rfl
    rw [e]
    obtain ⟨p, i, h1, h2, h3, h4, h5, h6⟩ := rcB_iff.1 hr
    obtain ⟨op, id, data⟩ := r
    simp only at h1 h4 h6 hd ⊢
    subst h1 h4
    have hy : (UInt8.ofNat p).toNat = p := by simp; omega
    generalize UInt8.ofNat p = y at hy
    subst hy
    have e1 : (bytesR (i : Int) 6).1.data.toList = beL i 6 := bytes_list (n := i) (k := 6) (by omega) (by omega) (by omega) (by rw [pow6]; omega)
    have e2 : (bytesR (data.size : Int) 2).1.data.toList = beL data.size 2 := bytes_list (n := data.size) (k := 2) (by omega) (by omega) (by omega) (by rw [pow2]; omega)
    have l1 : (bytesR (i : Int) 6).1.size = 6 := by rw [← ByteArray.size_data, ← Array.length_toList, e1, beL_length]
    have l2 : (bytesR (data.size : Int) 2).1.size = 2 := by rw [← ByteArray.size_data, ← Array.length_toList, e2, beL_length]
    have e3 : beL 225 1 = [225] := by decide
    have e4 : beL y.toNat 1 = [y] := by
      have : valL [y] = y.toNat := by simp [valL]
      rw [← this]
      exact beL_valL 1 [y] rfl
    have hp4 : (⟨#[225]⟩ ++ ⟨#[y]⟩ ++ (bytesR (i : Int) 6).1 ++ (bytesR (data.size : Int) 2).1 ++ data : ByteArray) = ⟨(smL ⟨(y.toNat : Nat), i, data⟩).toArray⟩ := by
      apply ba_eq
      simp only [ba_app, e1, e2]
      unfold smL
      simp only [Int.toNat_natCast, e3, e4]
    have hs4 : (⟨#[225]⟩ ++ ⟨#[y]⟩ ++ (bytesR (i : Int) 6).1 ++ (bytesR (data.size : Int) 2).1 ++ data : ByteArray).size = 10 + data.size := by
      rw [hp4]
      show (smL _).toArray.size = _
      rw [List.size_toArray, smL_length]
    have hu : (ofR 2 (⟨#[225]⟩ ++ ⟨#[y]⟩ ++ (bytesR (i : Int) 6).1 ++ (bytesR (data.size : Int) 2).1 ++ data)).1 = ⟨(beL (c32 (smL ⟨(y.toNat : Nat), i, data⟩)) 4).toArray⟩ := by
      rw [hp4]
      rfl
    have hv : (⟨(frL ⟨(y.toNat : Nat), i, data⟩).toArray⟩ : ByteArray) = (⟨#[225]⟩ ++ ⟨#[y]⟩ ++ (bytesR (i : Int) 6).1 ++ (bytesR (data.size : Int) 2).1 ++ data) ++ ⟨(beL (c32 (smL ⟨(y.toNat : Nat), i, data⟩)) 4).toArray⟩ := by
      apply ba_eq
      rw [hp4, ba_app]
      rfl
    have lu : (⟨(beL (c32 (smL ⟨(y.toNat : Nat), i, data⟩)) 4).toArray⟩ : ByteArray).size = 4 := by
      show (beL _ 4).toArray.size = 4
      rw [List.size_toArray, beL_length]
    rw [hv]
    simp only [ByteArray.size_append] at hs4
    refine rencode_of y i data _ _ _ _ _ _ _ _ w hr rfl rfl (fun w => cat_str _ _ ?_ w) (fun w => cat_str _ _ ?_ w) (fun w => cat_str _ _ ?_ w) (fun w => cat_str _ _ ?_ w) hu ?_ (fun w => cat_str _ _ ?_ w)
    all_goals (simp only [ByteArray.size_append, l1, l2, lu] at *; omega)
end Go.Proofs.YtdlkmdjhjdpmeaaGreatDoor
