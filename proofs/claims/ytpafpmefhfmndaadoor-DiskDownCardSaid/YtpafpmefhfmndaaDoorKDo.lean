/- The statements' package 18: full; calls as data, carried out on a disk, and on the document's. -/
import Derived.Test.YtpafpmefhfmndaaDoorKRefW
set_option linter.unusedVariables false
set_option linter.unusedSimpArgs false
namespace Go.Proofs.YtpafpmefhfmndaaDoor
open Go.RowKit

set_option maxRecDepth 100000 in
set_option maxHeartbeats 1000000 in
theorem full_any (x : UInt8) (w : World) :
    Calls Tryd.prog 23 #[.int .u8 (x.toNat : Int)] w fun e w' => e = .returned (.string ⟨Array.replicate 64 x⟩) ∧ Below w.heap.size w w' := by
  obtain ⟨i0, hi, hz0, hz1, hz2⟩ := info_parts u8_info
  go_enter Tryd.func23, Tryd.ntmps23
  go_wp2
  go_loopw [3, 4] (fun sv i wr => ∃ (k : Nat), k ≤ 64 ∧ i = .int .i64 k ∧ wr.ownsRow w.heap.size 5 1 sv k (List.replicate k (bvk x)) ∧ Below w.heap.size w wr) (fun _ i _ => 64 - (intOf i).toNat)
  case atStart => exact ⟨0, Nat.zero_le _, rfl, World.ownsRow_nil _ _ _ _, Below.refl _ _⟩
  case round =>
    obtain ⟨k, hk, rfl, hrow, hB⟩ := hrel
    by_cases hlt : k < 64
    · have hro : ∀ g, u3.ownBlock = some g → w.heap.size ≤ g := fun g e => (hrow.lt g e).1
      have HRO := Lib.hid hro
      have HROW := Lib.hid (hrow.alloc (.cells #[bvk x] 5))
      have hsz := hB.size
      clear hro hrow
      go_wp2_with (at_builtin; refine wpList_append_own _ rfl _ _ 58 rfl w.heap.size 5 i0 (.int .u8 0) 1 1 Tryd.underlying58 hi hz0 hz1 hz2 rfl (by decide) _ _ _ rfl HROW.out ⟨wr.heap.size, 0, none⟩ 1 1 [bvk x] rfl (by simp) ?c1 ?c2 ?c3 ?c4 ?c5 ?_)
      case c1 =>
        intro j u hj
        rcases j with _ | j
        · have : u = bvk x := by simpa using hj.symm
          subst this
          simp [Addr.add, bvk, go_sem]
        · simp at hj
      case c2 =>
        intro u hu
        have : u = bvk x := by simpa using hu
        subst this
        rfl
      case c3 => unfold maxLen; omega
      case c4 => omega
      case c5 => simp; omega
      intro v' w2 hown' hgrow _
      have hB2 : Below w.heap.size w w2 := ((hB.alloc hB.size (.cells #[bvk x] 5))).grown hgrow (by simp; omega) HRO.out
      rw [← List.replicate_succ'] at hown'
      have HOWN := Lib.hid hown'
      clear hown' hgrow HROW HRO
      go_wp2
      go_roundw
      case rel => exact ⟨k + 1, by omega, by go_num, HOWN.out, hB2⟩
      case measure => simp [intOf]; omega
    · obtain rfl : k = 64 := by omega
      have hcv := conv_ownL (l := List.replicate 64 x) (by rw [List.length_replicate, List.map_replicate]; exact hrow)
      have HROW := Lib.hid hrow
      clear hrow
      go_wp2
      go_ret
      exact ⟨rfl, hB⟩

/-- A disk in a law: of the start nothing is changed, and the disk lies behind it. -/
structure LAt (W : World) (a b : Nat) (D : Dk) (w : World) : Prop where
  be : Below W.heap.size W w
  d : DAt a b D w
  ga : W.heap.size ≤ a
  gb : W.heap.size ≤ b
theorem LAt.below {W w w' : World} {a b : Nat} {D : Dk} (h : LAt W a b D w) (hb : Below w.heap.size w w') : LAt W a b D w' := ⟨h.be.trans (hb.mono h.be.size), h.d.below hb, h.ga, h.gb⟩
theorem LAt.only {W w w' : World} {a b : Nat} {D D' : Dk} (h : LAt W a b D w) (hd : DAt a b D' w') (ho : Only a b w w') : LAt W a b D' w' := ⟨ho.toBelow h.be h.ga h.gb h.be.size, hd, h.ga, h.gb⟩
theorem LAt.new {W w w' : World} {a b m : Nat} (hB : Below W.heap.size W w) (hd : DAt a b (newD m) w') (ha : w.heap.size ≤ a) (hb : w.heap.size ≤ b) (hw : Below w.heap.size w w') : LAt W a b (newD m) w' := ⟨hB.trans (hw.mono hB.size), hd, Nat.le_trans hB.size ha, Nat.le_trans hB.size hb⟩

theorem DEnv.ne {W : World} (h : DEnv W) {a : Nat} (ha : W.heap.size ≤ a) : 0 ≠ a := by have := h.e.lt; omega

theorem lread_any {W : World} (hE : DEnv W) (a b : Nat) (D : Dk) (i : Int) (w : World) (h : LAt W a b D w) :
    Calls Tryd.prog 13 #[.pointer (some ⟨a, 0, none⟩), .int .i64 i] w fun e w' => e = .returned (.tuple #[.string (readR D i).1, .int .i64 (readR D i).2]) ∧ LAt W a b D w' ∧ Only a b w w' :=
  (read_any a b D i w (hE.below h.be).e h.d).mono fun e w' ⟨he, hb⟩ => ⟨he, h.below hb, Only.ofBelow hb⟩
theorem lbytes_any {W : World} (hE : DEnv W) (a b : Nat) (D : Dk) (i n : Int) (w : World) (hi : i ≤ 9223372036854775807) (h : LAt W a b D w) :
    Calls Tryd.prog 21 #[.pointer (some ⟨a, 0, none⟩), .int .i64 i, .int .i64 n] w fun e w' => e = .returned (.tuple #[.string (bytesR D i n).1, .int .i64 (bytesR D i n).2]) ∧ LAt W a b D w' ∧ Only a b w w' :=
  (bytes_any a b D i n w (hE.below h.be) h.d hi).mono fun e w' ⟨he, hb⟩ => ⟨he, h.below hb, Only.ofBelow hb⟩
theorem lwrite_any {W : World} (hE : DEnv W) (a b : Nat) (D : Dk) (i : Int) (s : ByteArray) (w : World) (hn : D.n < 1000000) (h : LAt W a b D w) :
    Calls Tryd.prog 19 #[.pointer (some ⟨a, 0, none⟩), .int .i64 i, .string s] w fun e w' => e = .returned (.int .i64 (writeE D i s)) ∧ LAt W a b (writeD D i s) w' ∧ Only a b w w' :=
  (write_any a b D i s w (hE.below h.be).e (hE.ne h.ga) (hE.ne h.gb) h.d hn).mono fun e w' ⟨he, hd, ho⟩ => ⟨he, h.only hd ho, ho⟩
theorem larm_any {W : World} (hE : DEnv W) (a b : Nat) (D : Dk) (n c : Int) (w : World) (hn : n ≤ 9223372036854775807) (h : LAt W a b D w) :
    Calls Tryd.prog 22 #[.pointer (some ⟨a, 0, none⟩), .int .i64 n, .int .i64 c] w fun e w' => e = .returned (.int .i64 (armE n c)) ∧ LAt W a b (armD D n c) w' ∧ Only a b w w' :=
  (arm_any a b D n c w (hE.below h.be).e h.d hn).mono fun e w' ⟨he, hd, ho⟩ => ⟨he, h.only hd ho, ho⟩
theorem lrest_any {W : World} (a b : Nat) (D : Dk) (w : World) (h : LAt W a b D w) :
    Calls Tryd.prog 20 #[.pointer (some ⟨a, 0, none⟩)] w fun e w' => e = .returned (.int .i64 0) ∧ LAt W a b (restD D) w' ∧ Only a b w w' :=
  (restart_any a b D w h.d).mono fun e w' ⟨he, hd, ho⟩ => ⟨he, h.only hd ho, ho⟩

/-- A call, as data. -/
structure OpR where
  k : Int
  a : Int
  b : Int
  s : ByteArray
def OpR.ok (x : OpR) : Prop := x.a ≤ 9223372036854775807 ∧ x.b ≤ 9223372036854775807 ∧ x.s.size ≤ 65
def OpR.v (x : OpR) : Value := .agg #[.int .i64 x.k, .int .i64 x.a, .int .i64 x.b, .string x.s]
/-- What it answers. -/
def opR (D : Dk) (x : OpR) : ByteArray × Int :=
  if x.k = 0 then (⟨#[]⟩, writeE D x.a x.s) else if x.k = 1 then readR D x.a else if x.k = 2 then bytesR D x.a x.b else if x.k = 3 then (⟨#[]⟩, armE x.a x.b) else (⟨#[]⟩, 0)
/-- What it leaves. -/
def opD (D : Dk) (x : OpR) : Dk :=
  if x.k = 0 then writeD D x.a x.s else if x.k = 3 then armD D x.a x.b else if x.k = 4 then restD D else D
theorem opD_m (D : Dk) (x : OpR) : (opD D x).ss.length = D.ss.length := by
  unfold opD
  split
  · exact writeD_m _ _ _
  · split
    · exact armD_m _ _ _
    · split <;> rfl
theorem opD_n (D : Dk) (x : OpR) : (opD D x).n ≤ D.n + 1 := by
  unfold opD
  split
  · exact writeD_n _ _ _
  · split
    · rw [armD_n]; omega
    · split
      · show D.n ≤ D.n + 1; omega
      · omega

/-- How do carries out: the answer, what it leaves, and what else is as it was. -/
def DoR (W : World) (a b : Nat) (D : Dk) (x : OpR) (w : World) (e : Ending) (w' : World) : Prop :=
  e = .returned (.tuple #[.string (opR D x).1, .int .i64 (opR D x).2]) ∧ LAt W a b (opD D x) w' ∧ Only a b w w'

set_option maxRecDepth 100000 in
set_option maxHeartbeats 2000000 in
theorem do_any {W : World} (hE : DEnv W) (a b : Nat) (D : Dk) (x : OpR) (w : World) (hx : x.ok) (hn : D.n < 1000000) (h : LAt W a b D w) :
    Calls Tryd.prog 16 #[.pointer (some ⟨a, 0, none⟩), x.v] w (DoR W a b D x w) := by
  obtain ⟨k, u, v, s⟩ := x
  obtain ⟨hu, hv, hs⟩ := hx
  simp only at hu hv hs
  simp only [OpR.v]
  have h' : LAt W a b D (w.alloc (.cells #[.int .i64 k, .int .i64 u, .int .i64 v, .string s] 37)) := h.below ((Below.refl _ _).alloc (Nat.le_refl _) _)
  have hO : Only a b w (w.alloc (.cells #[.int .i64 k, .int .i64 u, .int .i64 v, .string s] 37)) := (Only.refl a b w).alloc _
  by_cases k0 : k = 0
  · subst k0
    have e1 : opR D ⟨0, u, v, s⟩ = (⟨#[]⟩, writeE D u s) := by simp [opR]
    have e2 : opD D ⟨0, u, v, s⟩ = writeD D u s := by simp [opD]
    unfold DoR
    rw [e1, e2]
    clear e1 e2
    go_enter Tryd.func16, Tryd.ntmps16
    go_wp2_with fail
    refine (lwrite_any hE a b D u s _ hn h').mono ?_
    rintro e w1 ⟨rfl, hl1, ho1⟩
    go_wp2
    go_ret2
    exact ⟨rfl, hl1, hO.trans ho1⟩
  · by_cases k1 : k = 1
    · subst k1
      have e1 : opR D ⟨1, u, v, s⟩ = readR D u := by simp [opR]
      have e2 : opD D ⟨1, u, v, s⟩ = D := by simp [opD]
      unfold DoR
      rw [e1, e2]
      clear e1 e2 k0
      go_enter Tryd.func16, Tryd.ntmps16
      go_wp2_with fail
      refine (lread_any hE a b D u _ h').mono ?_
      rintro e w1 ⟨rfl, hl1, ho1⟩
      go_wp2
      go_ret2
      exact ⟨rfl, hl1, hO.trans ho1⟩
    · by_cases k2 : k = 2
      · subst k2
        have e1 : opR D ⟨2, u, v, s⟩ = bytesR D u v := by simp [opR]
        have e2 : opD D ⟨2, u, v, s⟩ = D := by simp [opD]
        unfold DoR
        rw [e1, e2]
        clear e1 e2 k0 k1
        go_enter Tryd.func16, Tryd.ntmps16
        go_wp2_with fail
        refine (lbytes_any hE a b D u v _ hu h').mono ?_
        rintro e w1 ⟨rfl, hl1, ho1⟩
        go_wp2
        go_ret2
        exact ⟨rfl, hl1, hO.trans ho1⟩
      · by_cases k3 : k = 3
        · subst k3
          have e1 : opR D ⟨3, u, v, s⟩ = (⟨#[]⟩, armE u v) := by simp [opR]
          have e2 : opD D ⟨3, u, v, s⟩ = armD D u v := by simp [opD]
          unfold DoR
          rw [e1, e2]
          clear e1 e2 k0 k1 k2
          go_enter Tryd.func16, Tryd.ntmps16
          go_wp2_with fail
          refine (larm_any hE a b D u v _ hu h').mono ?_
          rintro e w1 ⟨rfl, hl1, ho1⟩
          go_wp2
          go_ret2
          exact ⟨rfl, hl1, hO.trans ho1⟩
        · by_cases k4 : k = 4
          · subst k4
            have e1 : opR D ⟨4, u, v, s⟩ = (⟨#[]⟩, 0) := by simp [opR]
            have e2 : opD D ⟨4, u, v, s⟩ = restD D := by simp [opD]
            unfold DoR
            rw [e1, e2]
            clear e1 e2 k0 k1 k2 k3
            go_enter Tryd.func16, Tryd.ntmps16
            go_wp2_with fail
            refine (lrest_any a b D _ h').mono ?_
            rintro e w1 ⟨rfl, hl1, ho1⟩
            go_wp2
            go_ret2
            exact ⟨rfl, hl1, hO.trans ho1⟩
          · have e1 : opR D ⟨k, u, v, s⟩ = (⟨#[]⟩, 0) := by simp [opR, k0, k1, k2, k3]
            have e2 : opD D ⟨k, u, v, s⟩ = D := by simp [opD, k0, k3, k4]
            have b0 : (k == 0) = false := by simpa using k0
            have b1 : (k == 1) = false := by simpa using k1
            have b2 : (k == 2) = false := by simpa using k2
            have b3 : (k == 3) = false := by simpa using k3
            have b4 : (k == 4) = false := by simpa using k4
            unfold DoR
            rw [e1, e2]
            clear e1 e2 k0 k1 k2 k3 k4
            go_enter Tryd.func16, Tryd.ntmps16
            go_wp2
            go_ret2
            exact ⟨rfl, h', hO⟩
end Go.Proofs.YtpafpmefhfmndaaDoor
