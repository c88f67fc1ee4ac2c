/- Contract of lay of package head: a head's bytes, or what is wrong. -/
import Derived.Test.YtljfgchmogdljaaGreatDoorHBroken
import Derived.Deep.RegionHeld3
import Derived.IntWalk
set_option linter.unusedVariables false
set_option linter.unusedSimpArgs false
namespace Go.Proofs.YtljfgchmogdljaaGreatDoor
open Go.RowKit

set_option maxRecDepth 100000 in
set_option maxHeartbeats 2000000 in
theorem lay_bad (b0 b1 b2 b3 b : Addr) (m n : Int) (w : World) (hE : EnvH b0 b1 b2 b3 w) (p0 p1 : Bool) (hp0 : majB m = p0) (hp1 : rightB n = p1) (hb : brk2 p0 p1 b0 b1 = sentV b) :
    Calls Tryz.prog 37 #[.int .i64 m, .int .i64 n] w fun e w' => e = .returned (.tuple #[.string ⟨#[]⟩, sentV b]) ∧ Below w.heap.size w w' := by
  have g0 := hE.g0
  have g1 := hE.g1
  have H0 := Lib.hid hp0
  have H1 := Lib.hid hp1
  have HB := Lib.hid hb
  clear hp0 hp1 hb
  have hz0 := World.block_lt_of_cell? _ _ g0
  have hz1 := World.block_lt_of_cell? _ _ g1
  simp only at hz0 hz1
  go_enter Tryz.func37, Tryz.ntmps37
  go_wp2_with fail
  go_region_held3 (fun w' => w'.cell? ⟨0, 0, none⟩ = some (sentV b0) ∧ w'.cell? ⟨1, 0, none⟩ = some (sentV b1)) (first | exact ⟨g0, g1⟩ | exact ⟨(hb1.cell (p := ⟨0, 0, none⟩) (by simp <;> omega)).trans (by go_simp), (hb1.cell (p := ⟨1, 0, none⟩) (by simp <;> omega)).trans (by go_simp)⟩ | go_keep)
    (first
      | ((go_at_call 58; refine (major_any _ _).mono ?_; rintro e w' ⟨rfl, rfl⟩; rw [H0.out]))
      | ((go_at_call 53; refine (right_any _ _).mono ?_; rintro e w' ⟨rfl, rfl⟩; rw [H1.out]))
      | ((go_at_call 57; refine (broken2_any _ p0 p1 b0 b1 _ ?_ ?_ ?_ ?_).mono ?_; go_simp; go_simp; go_simp; go_simp; rintro e w1 ⟨rfl, hb1⟩)))
  have hB1 : Below w.heap.size w w1 := ((Below.refl w.heap.size w).drew.alloc (by simp) _).trans (hb1.mono (by simp))
  clear hb1
  rw [HB.out]
  go_wp2
  go_ret2
  exact ⟨rfl, hB1⟩

theorem widI_tag (n : Nat) : widI ((tagN n : Nat) : Int) = ((wid n : Nat) : Int) := by
  rcases wid_cases n with ⟨h1, h2, h3⟩ | ⟨h0, h1, h2, h3⟩ | ⟨h0, h1, h2, h3⟩ | ⟨h0, h1, h2, h3⟩ | ⟨h0, h2, h3⟩ <;> rw [h2, h3]
  · unfold widI
    rw [if_neg (by omega), if_neg (by omega), if_neg (by omega), if_neg (by omega)]
    rfl
  all_goals decide

theorem first_bytes {m : Int} {n : Nat} (h0 : 0 ≤ m) (h4 : m ≤ 4) : bytesR (32 * m + ((tagN n : Nat) : Int)) 1 = (⟨#[UInt8.ofNat (32 * m.toNat + tagN n)]⟩, 0) := by
  obtain ⟨k, rfl⟩ := Int.eq_ofNat_of_zero_le h0
  have ht := tag_le n
  have e : (32 * (k : Int) + ((tagN n : Nat) : Int)) = ((32 * k + tagN n : Nat) : Int) := by omega
  rw [e, show (1 : Int) = ((1 : Nat) : Int) from rfl, bytesR_of (by omega) (by omega) (by omega) (by simp; omega)]
  have e2 : beL (32 * k + tagN n) 1 = [UInt8.ofNat (32 * k + tagN n)] := by
    rw [beL_succ, beL_zero, Nat.mod_eq_of_lt (by omega)]; rfl
  rw [e2]
  simp

set_option maxRecDepth 100000 in
set_option maxHeartbeats 4000000 in
theorem lay_ok (a0 a1 a2 b0 b1 b2 b3 : Addr) (m : Int) (n : Nat) (w : World) (hN : Env a0 a1 a2 w) (hE : EnvH b0 b1 b2 b3 w) (p0 p1 : Bool) (hp0 : majB m = p0) (hp1 : rightB n = p1) (hb : brk2 p0 p1 b0 b1 = .nilIface) (hm0 : 0 ≤ m) (hm4 : m ≤ 4) (hn : n ≤ 281474976710655)
    (F G : ByteArray) (hF : bytesR (32 * m + ((tagN n : Nat) : Int)) 1 = (F, 0)) (hFs : F.size ≤ 8) (t k : Nat) (ht : tagN n = t) (ht27 : t ≤ 27) (hk : widI (t : Int) = (k : Int)) (hG : (if k = 0 then (⟨#[]⟩, 0) else bytesR n k) = (G, 0)) (hGs : G.size ≤ 8) :
    Calls Tryz.prog 37 #[.int .i64 m, .int .i64 (n : Int)] w fun e w' => e = .returned (.tuple #[.string (F ++ G), .nilIface]) ∧ Below w.heap.size w w' := by
  have g0 := hE.g0
  have g1 := hE.g1
  have H0 := Lib.hid hp0
  have H1 := Lib.hid hp1
  have HB := Lib.hid hb
  rw [ht] at hF
  have HF := Lib.hid hF
  have HT := Lib.hid ht
  have HK := Lib.hid hk
  have HG := Lib.hid hG
  clear hp0 hp1 hb hF ht hk hG
  have hz0 := World.block_lt_of_cell? _ _ g0
  have hz1 := World.block_lt_of_cell? _ _ g1
  simp only at hz0 hz1
  go_enter Tryz.func37, Tryz.ntmps37
  go_wp2_with fail
  go_region_held3 (fun w' => w'.cell? ⟨0, 0, none⟩ = some (sentV b0) ∧ w'.cell? ⟨1, 0, none⟩ = some (sentV b1)) (first | exact ⟨g0, g1⟩ | exact ⟨(hb1.cell (p := ⟨0, 0, none⟩) (by simp <;> omega)).trans (by go_simp), (hb1.cell (p := ⟨1, 0, none⟩) (by simp <;> omega)).trans (by go_simp)⟩ | go_keep)
    (first
      | ((go_at_call 58; refine (major_any _ _).mono ?_; rintro e w' ⟨rfl, rfl⟩; rw [H0.out]))
      | ((go_at_call 53; refine (right_any _ _).mono ?_; rintro e w' ⟨rfl, rfl⟩; rw [H1.out]))
      | ((go_at_call 57; refine (broken2_any _ p0 p1 b0 b1 _ ?_ ?_ ?_ ?_).mono ?_; go_simp; go_simp; go_simp; go_simp; rintro e w1 ⟨rfl, hb1⟩)))
  have hB1 : Below w.heap.size w w1 := ((Below.refl w.heap.size w).drew.alloc (by simp) _).trans (hb1.mono (by simp))
  clear hb1
  rw [HB.out]
  have hN1 := hN.below hB1
  have hE1 := hE.below hB1
  clear g0 g1 hz0 hz1
  go_wp2_with fail
  refine (shortest_any a0 a1 a2 b0 b1 b2 b3 m n _ hN1 hE1 hn).mono ?_
  rintro e w2 ⟨rfl, hb2⟩
  rw [HT.out]
  have hB2 := hB1.trans (hb2.mono hB1.size)
  have hB2' := hB2.alloc hB2.size (.cells #[.int .i64 m, .int .i64 (t : Int), .int .i64 (n : Int)] 104)
  clear hb2 hN1 hE1 hB1
  go_wp2_with fail
  refine (bytes_any a0 a1 a2 _ _ _ (hN.below hB2')).mono ?_
  rintro e w3 ⟨rfl, hb3⟩
  rw [HF.out]
  have i0 : w3.cell? ⟨w2.heap.size, 0, none⟩ = some (.int .i64 m) := (hb3.cell (p := ⟨w2.heap.size, 0, none⟩) (by simp)).trans (by go_simp)
  have i1 : w3.cell? ⟨w2.heap.size, 1, none⟩ = some (.int .i64 (t : Int)) := (hb3.cell (p := ⟨w2.heap.size, 1, none⟩) (by simp)).trans (by go_simp)
  have i2 : w3.cell? ⟨w2.heap.size, 2, none⟩ = some (.int .i64 (n : Int)) := (hb3.cell (p := ⟨w2.heap.size, 2, none⟩) (by simp)).trans (by go_simp)
  have hB3 := hB2'.trans (hb3.mono hB2'.size)
  clear hb3 hB2 hB2'
  generalize w2.heap.size = h at *
  go_wp2_with fail
  refine (hwidth_any b0 b1 b2 b3 _ _ _ _ (hE.below hB3)).mono ?_
  rintro e w4 ⟨rfl, hb4⟩
  rw [HK.out]
  have j0 := (hb4.cell (World.block_lt_of_cell? _ _ i0)).trans i0
  have j1 := (hb4.cell (World.block_lt_of_cell? _ _ i1)).trans i1
  have j2 := (hb4.cell (World.block_lt_of_cell? _ _ i2)).trans i2
  have hB4 := hB3.trans (hb4.mono hB3.size)
  clear i0 i1 i2 hb4 hB3
  by_cases hk0 : k = 0
  · subst hk0
    have hg := HG.out
    rw [if_pos rfl] at hg
    obtain rfl : (⟨#[]⟩ : ByteArray) = G := congrArg Prod.fst hg
    clear hg
    clear HG
    have HFG := Lib.hid (show F ++ (⟨#[]⟩ : ByteArray) = F from by apply ByteArray.ext; simp)
    go_wp2
    go_ret2
    exact ⟨by rw [HFG.out]; rfl, hB4⟩
  · rw [if_neg hk0] at HG
    have hkb : ((k : Int) == 0) = false := by simpa using hk0
    have hl0 := World.block_lt_of_cell? _ _ j0
    simp only at hl0
    have hE4 := hE.below hB4.drew
    clear hk0
    go_wp2_with fail
    go_region_held3 (fun w' => w'.cell? ⟨h, 0, none⟩ = some (.int .i64 m) ∧ w'.cell? ⟨h, 1, none⟩ = some (.int .i64 (t : Int)) ∧ w'.cell? ⟨h, 2, none⟩ = some (.int .i64 (n : Int)))
      (first
        | exact ⟨j0, j1, j2⟩
        | exact ⟨(hb5.cell (p := ⟨h, 0, none⟩) hl0).trans j0, (hb5.cell (p := ⟨h, 1, none⟩) hl0).trans j1, (hb5.cell (p := ⟨h, 2, none⟩) hl0).trans j2⟩
        | exact ⟨(hb6.cell (p := ⟨h, 0, none⟩) (Nat.lt_of_lt_of_le hl0 hb5.size)).trans ((hb5.cell (p := ⟨h, 0, none⟩) hl0).trans j0), (hb6.cell (p := ⟨h, 1, none⟩) (Nat.lt_of_lt_of_le hl0 hb5.size)).trans ((hb5.cell (p := ⟨h, 1, none⟩) hl0).trans j1), (hb6.cell (p := ⟨h, 2, none⟩) (Nat.lt_of_lt_of_le hl0 hb5.size)).trans ((hb5.cell (p := ⟨h, 2, none⟩) hl0).trans j2)⟩)
      (first
        | ((go_at_call 61; refine (hwidth_any b0 b1 b2 b3 _ _ _ _ hE4).mono ?_; rintro e w5 ⟨rfl, hb5⟩; rw [HK.out]))
        | ((go_at_call 60; refine (bytes_any a0 a1 a2 _ _ _ (hN.below (hB4.drew.trans (hb5.mono hB4.drew.size)))).mono ?_; rintro e w6 ⟨rfl, hb6⟩; rw [HG.out])))
    have hB6 := (hB4.drew.trans (hb5.mono hB4.drew.size)).trans (hb6.mono (Nat.le_trans hB4.drew.size hb5.size))
    clear hb5 hb6 hB4 j0 j1 j2 hl0 hE4
    go_wp2
    go_ret2
    exact ⟨rfl, hB6⟩

/-- What Encode answers: the bytes, and the error's number. -/
def hencR (m n : Int) : ByteArray × Int := if majB m = true then (if rightB n = true then (⟨(headL m.toNat n.toNat).toArray⟩, 0) else (⟨#[]⟩, 10)) else (⟨#[]⟩, 2)
end Go.Proofs.YtljfgchmogdljaaGreatDoor

/- Contract of Encode of package head, and what Size answers: for every major and number. -/
set_option linter.unusedVariables false
set_option linter.unusedSimpArgs false
namespace Go.Proofs.YtljfgchmogdljaaGreatDoor
open Go.RowKit

/-- What head, and what it stands on, start from: the sentinels of nums and head, the table of widths. -/
def HeadOK (w : World) : Prop := ∃ a0 a1 a2 b0 b1 b2 b3, Env a0 a1 a2 w ∧ EnvH b0 b1 b2 b3 w
theorem HeadOK.below {w w' : World} (h : HeadOK w) (hb : Below w.heap.size w w') : HeadOK w' := by
  obtain ⟨a0, a1, a2, b0, b1, b2, b3, hN, hE⟩ := h
  exact ⟨a0, a1, a2, b0, b1, b2, b3, hN.below hb, hE.below hb⟩

set_option maxHeartbeats 400000 in
theorem hencode_of_bad (b0 b1 b2 b3 b : Addr) (c m n : Int) (w : World) (hE : EnvH b0 b1 b2 b3 w) (hs : SentH b0 b1 b2 b3 b c)
    (h : Calls Tryz.prog 37 #[.int .i64 m, .int .i64 n] w fun e w' => e = .returned (.tuple #[.string ⟨#[]⟩, sentV b]) ∧ Below w.heap.size w w') :
    Calls Tryz.prog 23 #[.int .i64 m, .int .i64 n] w fun e w' => e = .returned (.tuple #[.string ⟨#[]⟩, .int .i64 c]) ∧ Below w.heap.size w w' := by
  have H := Lib.hid h
  clear h
  go_enter Tryz.func23, Tryz.ntmps23
  go_wp2_with fail
  refine H.out.mono ?_
  rintro e w1 ⟨rfl, hb1⟩
  go_wp2_with fail
  refine (mades_bad b0 b1 b2 b3 b c _ _ (hE.below hb1) hs).mono ?_
  rintro e w2 ⟨rfl, hb2⟩
  have hB := hb1.trans (hb2.mono hb1.size)
  clear hb1 hb2
  go_wp2
  go_quiet (fail)
  go_wp2
  go_ret2
  exact ⟨rfl, below_drewN (hB.alloc hB.size _) _⟩

set_option maxHeartbeats 400000 in
theorem hencode_of_ok (q : ByteArray) (m n : Int) (w : World)
    (h : Calls Tryz.prog 37 #[.int .i64 m, .int .i64 n] w fun e w' => e = .returned (.tuple #[.string q, .nilIface]) ∧ Below w.heap.size w w') :
    Calls Tryz.prog 23 #[.int .i64 m, .int .i64 n] w fun e w' => e = .returned (.tuple #[.string q, .int .i64 0]) ∧ Below w.heap.size w w' := by
  have H := Lib.hid h
  clear h
  go_enter Tryz.func23, Tryz.ntmps23
  go_wp2_with fail
  refine H.out.mono ?_
  rintro e w1 ⟨rfl, hb1⟩
  go_wp2_with fail
  refine (mades_ok _ _).mono ?_
  rintro e w2 ⟨rfl, hb2⟩
  have hB := hb1.trans (hb2.mono hb1.size)
  clear hb1 hb2
  go_wp2
  go_quiet (fail)
  go_wp2
  go_ret2
  exact ⟨rfl, below_drewN (hB.alloc hB.size _) _⟩

theorem majB_bounds {m : Int} (h : majB m = true) : 0 ≤ m ∧ m ≤ 4 ∧ Maj m.toNat := by
  unfold majB at h
  unfold Maj
  simp only [decide_eq_true_eq] at h
  omega
theorem rightB_nat {n : Int} (h : rightB n = true) : ∃ k : Nat, n = k ∧ k ≤ 281474976710655 := by
  unfold rightB at h
  simp only [Bool.and_eq_true, decide_eq_true_eq] at h
  exact ⟨n.toNat, by omega, by omega⟩

theorem hencode_any (m n : Int) (w : World) (hH : HeadOK w) :
    Calls Tryz.prog 23 #[.int .i64 m, .int .i64 n] w fun e w' => e = .returned (.tuple #[.string (hencR m n).1, .int .i64 (hencR m n).2]) ∧ Below w.heap.size w w' := by
  obtain ⟨a0, a1, a2, b0, b1, b2, b3, hN, hE⟩ := hH
  cases hm : majB m with
  | false =>
    have e : hencR m n = (⟨#[]⟩, 2) := by unfold hencR; rw [hm]; rfl
    rw [e]
    exact hencode_of_bad b0 b1 b2 b3 b0 2 m n w hE (.inl ⟨rfl, rfl⟩) (lay_bad b0 b1 b2 b3 b0 m n w hE _ _ hm rfl rfl)
  | true =>
    cases hr : rightB n with
    | false =>
      have e : hencR m n = (⟨#[]⟩, 10) := by unfold hencR; rw [hm, hr]; rfl
      rw [e]
      exact hencode_of_bad b0 b1 b2 b3 b1 10 m n w hE (.inr (.inl ⟨rfl, rfl⟩)) (lay_bad b0 b1 b2 b3 b1 m n w hE _ _ hm hr rfl)
    | true =>
      have e : hencR m n = (⟨(headL m.toNat n.toNat).toArray⟩, 0) := by unfold hencR; rw [hm, hr]; rfl
      rw [e]
      obtain ⟨k, rfl, hk⟩ := rightB_nat hr
      obtain ⟨h0, h4, hM⟩ := majB_bounds hm
      have ht := tag_le k
      have hw := wid_le k
      rw [Int.toNat_natCast]
      have hsp : (⟨(headL m.toNat k).toArray⟩ : ByteArray) = ⟨#[UInt8.ofNat (32 * m.toNat + tagN k)]⟩ ++ ⟨(beL k (wid k)).toArray⟩ := by
        apply ByteArray.ext
        apply Array.toList_inj.1
        simp [headL]
      rw [hsp]
      refine hencode_of_ok _ m k w (lay_ok a0 a1 a2 b0 b1 b2 b3 m k w hN hE _ _ hm hr rfl h0 h4 hk _ _ (first_bytes h0 h4) (show 1 ≤ 8 by decide) (tagN k) (wid k) rfl ht (widI_tag k) ?_ (by show (beL k (wid k)).toArray.size ≤ 8; simp [beL_length, hw]))
      by_cases h24 : k < 24
      · rw [if_pos (by unfold wid; exact if_pos h24), show wid k = 0 from (by unfold wid; exact if_pos h24)]
        rfl
      · have hw1 : 1 ≤ wid k := by rcases wid_cases k with ⟨h1, h2, _⟩ | ⟨h0, h1, h2, _⟩ | ⟨h0, h1, h2, _⟩ | ⟨h0, h1, h2, _⟩ | ⟨h0, h2, _⟩ <;> omega
        rw [if_neg (by omega), bytesR_of hw1 hw hk (wid_room hk (by omega))]

/-- What Size answers. -/
def hsizeR (n : Int) : Int × Int := if rightB n = true then (((1 + wid n.toNat : Nat) : Int), 0) else (0, 10)

theorem hencR_size (n : Int) : (((hencR 0 n).1.size : Int), (hencR 0 n).2) = hsizeR n := by
  unfold hencR hsizeR
  rw [show majB 0 = true from rfl, if_pos rfl]
  cases hr : rightB n with
  | false => rfl
  | true =>
    simp only [if_true]
    rw [← headL_length 0 n.toNat]
    rfl

end Go.Proofs.YtljfgchmogdljaaGreatDoor
