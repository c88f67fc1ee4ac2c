/- Contract of lay of package head: a head's bytes, or what is wrong. -/
import Derived.Test.YtmbmolgkccjedaaGreatDoorM3
import Derived.Deep.RegionHeld3
import Derived.IntWalk
import Derived.Test.YtmbmolgkccjedaaGreatDoorM12
set_option linter.unusedVariables false
set_option linter.unusedSimpArgs false
namespace Go.Proofs.YtmbmolgkccjedaaGreatDoor
open Go.RowKit

set_option maxRecDepth 100000 in
set_option maxHeartbeats 2000000 in
theorem lay_bad (b0 b1 b2 b3 b : Addr) (m n : Int) (w : World) (hE : EnvH b0 b1 b2 b3 w) (p0 p1 : Bool) (hp0 : majB m = p0) (hp1 : rightB n = p1) (hb : brk2 p0 p1 b0 b1 = sentV b) :
    Calls Tryz.prog 103 #[.int .i64 m, .int .i64 n] w fun e w' => e = .returned (.tuple #[.string ⟨#[]⟩, sentV b]) ∧ Below w.heap.size w w' := by
  have g0 := hE.g0
  have g1 := hE.g1
  have H0 := Lib.hid hp0
  have H1 := Lib.hid hp1
  have HB := Lib.hid hb
  clear hp0 hp1 hb
  have hz0 := World.block_lt_of_cell? _ _ g0
  have hz1 := World.block_lt_of_cell? _ _ g1
  simp only at hz0 hz1
  go_enter Tryz.func103, Tryz.ntmps103
  go_wp2_with fail
  go_region_held3 (fun w' => w'.cell? ⟨1, 0, none⟩ = some (sentV b0) ∧ w'.cell? ⟨2, 0, none⟩ = some (sentV b1)) (first | exact ⟨g0, g1⟩ | exact ⟨(hb1.cell (p := ⟨1, 0, none⟩) (by simp <;> omega)).trans (by go_simp), (hb1.cell (p := ⟨2, 0, none⟩) (by simp <;> omega)).trans (by go_simp)⟩ | go_keep)
    (first
      | ((go_at_call 129; refine (major_any _ _).mono ?_; rintro e w' ⟨rfl, rfl⟩; rw [H0.out]))
      | ((go_at_call 73; refine (right_any _ _).mono ?_; rintro e w' ⟨rfl, rfl⟩; rw [H1.out]))
      | ((go_at_call 128; refine (broken2_any _ p0 p1 b0 b1 _ ?_ ?_ ?_ ?_).mono ?_; go_simp; go_simp; go_simp; go_simp; rintro e w1 ⟨rfl, hb1⟩)))
  have hB1 : Below w.heap.size w w1 := ((Below.refl w.heap.size w).drew.alloc (by simp) _).trans (hb1.mono (by simp))
  clear hb1
  rw [HB.out]
  go_wp2
  go_ret2
  exact ⟨rfl, hB1⟩

theorem widI_tag (n : Nat) : widI ((tagN n : Nat) : Int) = ((wid n : Nat) : Int) := by
  rcases wid_cases n with ⟨h1, h2, h3⟩ | ⟨h0, h1, h2, h3⟩ | ⟨h0, h1, h2, h3⟩ | ⟨h0, h1, h2, h3⟩ | ⟨h0, h2, h3⟩ <;> rw [h2, h3]
  · unfold widI
    rw [if_neg (by omega), if_neg (by omega), if_neg (by omega), if_neg (by omega)]
    rfl
  all_goals decide

theorem first_bytes {m : Int} {n : Nat} (h0 : 0 ≤ m) (h4 : m ≤ 4) : bytesR (32 * m + ((tagN n : Nat) : Int)) 1 = (⟨#[UInt8.ofNat (32 * m.toNat + tagN n)]⟩, 0) := by
  obtain ⟨k, rfl⟩ := Int.eq_ofNat_of_zero_le h0
  have ht := tag_le n
  have e : (32 * (k : Int) + ((tagN n : Nat) : Int)) = ((32 * k + tagN n : Nat) : Int) := by omega
  rw [e, show (1 : Int) = ((1 : Nat) : Int) from rfl, bytesR_of (by omega) (by omega) (by omega) (by simp; omega)]
  have e2 : beL (32 * k + tagN n) 1 = [UInt8.ofNat (32 * k + tagN n)] := by
    rw [beL_succ, beL_zero, Nat.mod_eq_of_lt (by omega)]; rfl
  rw [e2]
  simp

set_option maxRecDepth 100000 in
set_option maxHeartbeats 4000000 in
theorem lay_ok (a0 a1 a2 b0 b1 b2 b3 : Addr) (m : Int) (n : Nat) (w : World) (hN : Env a0 a1 a2 w) (hE : EnvH b0 b1 b2 b3 w) (p0 p1 : Bool) (hp0 : majB m = p0) (hp1 : rightB n = p1) (hb : brk2 p0 p1 b0 b1 = .nilIface) (hm0 : 0 ≤ m) (hm4 : m ≤ 4) (hn : n ≤ 281474976710655)
    (F G : ByteArray) (hF : bytesR (32 * m + ((tagN n : Nat) : Int)) 1 = (F, 0)) (hFs : F.size ≤ 8) (t k : Nat) (ht : tagN n = t) (ht27 : t ≤ 27) (hk : widI (t : Int) = (k : Int)) (hG : (if k = 0 then (⟨#[]⟩, 0) else bytesR n k) = (G, 0)) (hGs : G.size ≤ 8) :
    Calls Tryz.prog 103 #[.int .i64 m, .int .i64 (n : Int)] w fun e w' => e = .returned (.tuple #[.string (F ++ G), .nilIface]) ∧ Below w.heap.size w w' := by
  have g0 := hE.g0
  have g1 := hE.g1
  have H0 := Lib.hid hp0
  have H1 := Lib.hid hp1
  have HB := Lib.hid hb
  rw [ht] at hF
  have HF := Lib.hid hF
  have HT := Lib.hid ht
  have HK := Lib.hid hk
  have HG := Lib.hid hG
  clear hp0 hp1 hb hF ht hk hG
  have hz0 := World.block_lt_of_cell? _ _ g0
  have hz1 := World.block_lt_of_cell? _ _ g1
  simp only at hz0 hz1
  go_enter Tryz.func103, Tryz.ntmps103
  go_wp2_with fail
  go_region_held3 (fun w' => w'.cell? ⟨1, 0, none⟩ = some (sentV b0) ∧ w'.cell? ⟨2, 0, none⟩ = some (sentV b1)) (first | exact ⟨g0, g1⟩ | exact ⟨(hb1.cell (p := ⟨1, 0, none⟩) (by simp <;> omega)).trans (by go_simp), (hb1.cell (p := ⟨2, 0, none⟩) (by simp <;> omega)).trans (by go_simp)⟩ | go_keep)
    (first
      | ((go_at_call 129; refine (major_any _ _).mono ?_; rintro e w' ⟨rfl, rfl⟩; rw [H0.out]))
      | ((go_at_call 73; refine (right_any _ _).mono ?_; rintro e w' ⟨rfl, rfl⟩; rw [H1.out]))
      | ((go_at_call 128; refine (broken2_any _ p0 p1 b0 b1 _ ?_ ?_ ?_ ?_).mono ?_; go_simp; go_simp; go_simp; go_simp; rintro e w1 ⟨rfl, hb1⟩)))
  have hB1 : Below w.heap.size w w1 := ((Below.refl w.heap.size w).drew.alloc (by simp) _).trans (hb1.mono (by simp))
  clear hb1
  rw [HB.out]
  have hN1 := hN.below hB1
  have hE1 := hE.below hB1
  clear g0 g1 hz0 hz1
  go_wp2_with fail
  refine (shortest_any a0 a1 a2 b0 b1 b2 b3 m n _ hN1 hE1 hn).mono ?_
  rintro e w2 ⟨rfl, hb2⟩
  rw [HT.out]
  have hB2 := hB1.trans (hb2.mono hB1.size)
  have hB2' := hB2.alloc hB2.size (.cells #[.int .i64 m, .int .i64 (t : Int), .int .i64 (n : Int)] 209)
  clear hb2 hN1 hE1 hB1
  go_wp2_with fail
  refine (bytes_any a0 a1 a2 _ _ _ (hN.below hB2')).mono ?_
  rintro e w3 ⟨rfl, hb3⟩
  rw [HF.out]
  have i0 : w3.cell? ⟨w2.heap.size, 0, none⟩ = some (.int .i64 m) := (hb3.cell (p := ⟨w2.heap.size, 0, none⟩) (by simp)).trans (by go_simp)
  have i1 : w3.cell? ⟨w2.heap.size, 1, none⟩ = some (.int .i64 (t : Int)) := (hb3.cell (p := ⟨w2.heap.size, 1, none⟩) (by simp)).trans (by go_simp)
  have i2 : w3.cell? ⟨w2.heap.size, 2, none⟩ = some (.int .i64 (n : Int)) := (hb3.cell (p := ⟨w2.heap.size, 2, none⟩) (by simp)).trans (by go_simp)
  have hB3 := hB2'.trans (hb3.mono hB2'.size)
  clear hb3 hB2 hB2'
  generalize w2.heap.size = h at *
  go_wp2_with fail
  refine (hwidth_any b0 b1 b2 b3 _ _ _ _ (hE.below hB3)).mono ?_
  rintro e w4 ⟨rfl, hb4⟩
  rw [HK.out]
  have j0 := (hb4.cell (World.block_lt_of_cell? _ _ i0)).trans i0
  have j1 := (hb4.cell (World.block_lt_of_cell? _ _ i1)).trans i1
  have j2 := (hb4.cell (World.block_lt_of_cell? _ _ i2)).trans i2
  have hB4 := hB3.trans (hb4.mono hB3.size)
  clear i0 i1 i2 hb4 hB3
  by_cases hk0 : k = 0
  · subst hk0
    have hg := HG.out
    rw [if_pos rfl] at hg
    obtain rfl : (⟨#[]⟩ : ByteArray) = G := congrArg Prod.fst hg
    clear hg
    clear HG
    have HFG := Lib.hid (show F ++ (⟨#[]⟩ : ByteArray) = F from by apply ByteArray.ext; simp)
    go_wp2
    go_ret2
    exact ⟨by rw [HFG.out]; rfl, hB4⟩
  · rw [if_neg hk0] at HG
    have hkb : ((k : Int) == 0) = false := by simpa using hk0
    have hl0 := World.block_lt_of_cell? _ _ j0
    simp only at hl0
    have hE4 := hE.below hB4.drew
    clear hk0
    go_wp2_with fail
    go_region_held3 (fun w' => w'.cell? ⟨h, 0, none⟩ = some (.int .i64 m) ∧ w'.cell? ⟨h, 1, none⟩ = some (.int .i64 (t : Int)) ∧ w'.cell? ⟨h, 2, none⟩ = some (.int .i64 (n : Int)))
      (first
        | exact ⟨j0, j1, j2⟩
        | exact ⟨(hb5.cell (p := ⟨h, 0, none⟩) hl0).trans j0, (hb5.cell (p := ⟨h, 1, none⟩) hl0).trans j1, (hb5.cell (p := ⟨h, 2, none⟩) hl0).trans j2⟩
        | exact ⟨(hb6.cell (p := ⟨h, 0, none⟩) (Nat.lt_of_lt_of_le hl0 hb5.size)).trans ((hb5.cell (p := ⟨h, 0, none⟩) hl0).trans j0), (hb6.cell (p := ⟨h, 1, none⟩) (Nat.lt_of_lt_of_le hl0 hb5.size)).trans ((hb5.cell (p := ⟨h, 1, none⟩) hl0).trans j1), (hb6.cell (p := ⟨h, 2, none⟩) (Nat.lt_of_lt_of_le hl0 hb5.size)).trans ((hb5.cell (p := ⟨h, 2, none⟩) hl0).trans j2)⟩)
      (first
        | ((go_at_call 132; refine (hwidth_any b0 b1 b2 b3 _ _ _ _ hE4).mono ?_; rintro e w5 ⟨rfl, hb5⟩; rw [HK.out]))
        | ((go_at_call 131; refine (bytes_any a0 a1 a2 _ _ _ (hN.below (hB4.drew.trans (hb5.mono hB4.drew.size)))).mono ?_; rintro e w6 ⟨rfl, hb6⟩; rw [HG.out])))
    have hB6 := (hB4.drew.trans (hb5.mono hB4.drew.size)).trans (hb6.mono (Nat.le_trans hB4.drew.size hb5.size))
    clear hb5 hb6 hB4 j0 j1 j2 hl0 hE4
    go_wp2
    go_ret2
    exact ⟨rfl, hB6⟩

/-- What Encode answers: the bytes, and the error's number. -/
def hencR (m n : Int) : ByteArray × Int := if majB m = true then (if rightB n = true then (⟨(headL m.toNat n.toNat).toArray⟩, 0) else (⟨#[]⟩, 10)) else (⟨#[]⟩, 2)
end Go.Proofs.YtmbmolgkccjedaaGreatDoor

/- Contract of Encode of package head, and what Size answers: for every major and number. -/
set_option linter.unusedVariables false
set_option linter.unusedSimpArgs false
namespace Go.Proofs.YtmbmolgkccjedaaGreatDoor
open Go.RowKit

/-- What head, and what it stands on, start from: the sentinels of nums and head, the table of widths. -/
def HeadOK (w : World) : Prop := ∃ a0 a1 a2 b0 b1 b2 b3, Env a0 a1 a2 w ∧ EnvH b0 b1 b2 b3 w
theorem HeadOK.below {w w' : World} (h : HeadOK w) (hb : Below w.heap.size w w') : HeadOK w' := by
  obtain ⟨a0, a1, a2, b0, b1, b2, b3, hN, hE⟩ := h
  exact ⟨a0, a1, a2, b0, b1, b2, b3, hN.below hb, hE.below hb⟩

set_option maxHeartbeats 400000 in
theorem hencode_of_bad (b0 b1 b2 b3 b : Addr) (c m n : Int) (w : World) (hE : EnvH b0 b1 b2 b3 w) (hs : SentH b0 b1 b2 b3 b c)
    (h : Calls Tryz.prog 103 #[.int .i64 m, .int .i64 n] w fun e w' => e = .returned (.tuple #[.string ⟨#[]⟩, sentV b]) ∧ Below w.heap.size w w') :
    Calls Tryz.prog 68 #[.int .i64 m, .int .i64 n] w fun e w' => e = .returned (.tuple #[.string ⟨#[]⟩, .int .i64 c]) ∧ Below w.heap.size w w' := by
  have H := Lib.hid h
  clear h
  go_enter Tryz.func68, Tryz.ntmps68
  go_wp2_with fail
  refine H.out.mono ?_
  rintro e w1 ⟨rfl, hb1⟩
  go_wp2_with fail
  refine (mades_bad b0 b1 b2 b3 b c _ _ (hE.below hb1) hs).mono ?_
  rintro e w2 ⟨rfl, hb2⟩
  have hB := hb1.trans (hb2.mono hb1.size)
  clear hb1 hb2
  go_wp2
  go_quiet (fail)
  go_wp2
  go_ret2
  exact ⟨rfl, below_drewN (hB.alloc hB.size _) _⟩

set_option maxHeartbeats 400000 in
theorem hencode_of_ok (q : ByteArray) (m n : Int) (w : World)
    (h : Calls Tryz.prog 103 #[.int .i64 m, .int .i64 n] w fun e w' => e = .returned (.tuple #[.string q, .nilIface]) ∧ Below w.heap.size w w') :
    Calls Tryz.prog 68 #[.int .i64 m, .int .i64 n] w fun e w' => e = .returned (.tuple #[.string q, .int .i64 0]) ∧ Below w.heap.size w w' := by
  have H := Lib.hid h
  clear h
  go_enter Tryz.func68, Tryz.ntmps68
  go_wp2_with fail
  refine H.out.mono ?_
  rintro e w1 ⟨rfl, hb1⟩
  go_wp2_with fail
  refine (mades_ok _ _).mono ?_
  rintro e w2 ⟨rfl, hb2⟩
  have hB := hb1.trans (hb2.mono hb1.size)
  clear hb1 hb2
  go_wp2
  go_quiet (fail)
  go_wp2
  go_ret2
  exact ⟨rfl, below_drewN (hB.alloc hB.size _) _⟩

theorem majB_bounds {m : Int} (h : majB m = true) : 0 ≤ m ∧ m ≤ 4 ∧ Maj m.toNat := by
  unfold majB at h
  unfold Maj
  simp only [decide_eq_true_eq] at h
  omega
theorem rightB_nat {n : Int} (h : rightB n = true) : ∃ k : Nat, n = k ∧ k ≤ 281474976710655 := by
  unfold rightB at h
  simp only [Bool.and_eq_true, decide_eq_true_eq] at h
  exact ⟨n.toNat, by omega, by omega⟩

theorem hencode_any (m n : Int) (w : World) (hH : HeadOK w) :
    Calls Tryz.prog 68 #[.int .i64 m, .int .i64 n] w fun e w' => e = .returned (.tuple #[.string (hencR m n).1, .int .i64 (hencR m n).2]) ∧ Below w.heap.size w w' := by
  obtain ⟨a0, a1, a2, b0, b1, b2, b3, hN, hE⟩ := hH
  cases hm : majB m with
  | false =>
    have e : hencR m n = (⟨#[]⟩, 2) := by unfold hencR; rw [hm]; rfl
    rw [e]
    exact hencode_of_bad b0 b1 b2 b3 b0 2 m n w hE (.inl ⟨rfl, rfl⟩) (lay_bad b0 b1 b2 b3 b0 m n w hE _ _ hm rfl rfl)
  | true =>
    cases hr : rightB n with
    | false =>
      have e : hencR m n = (⟨#[]⟩, 10) := by unfold hencR; rw [hm, hr]; rfl
      rw [e]
      exact hencode_of_bad b0 b1 b2 b3 b1 10 m n w hE (.inr (.inl ⟨rfl, rfl⟩)) (lay_bad b0 b1 b2 b3 b1 m n w hE _ _ hm hr rfl)
    | true =>
      have e : hencR m n = (⟨(headL m.toNat n.toNat).toArray⟩, 0) := by unfold hencR; rw [hm, hr]; rfl
      rw [e]
      obtain ⟨k, rfl, hk⟩ := rightB_nat hr
      obtain ⟨h0, h4, hM⟩ := majB_bounds hm
      have ht := tag_le k
      have hw := wid_le k
      rw [Int.toNat_natCast]
      have hsp : (⟨(headL m.toNat k).toArray⟩ : ByteArray) = ⟨#[UInt8.ofNat (32 * m.toNat + tagN k)]⟩ ++ ⟨(beL k (wid k)).toArray⟩ := by
        apply ByteArray.ext
        apply Array.toList_inj.1
        simp [headL]
      rw [hsp]
      refine hencode_of_ok _ m k w (lay_ok a0 a1 a2 b0 b1 b2 b3 m k w hN hE _ _ hm hr rfl h0 h4 hk _ _ (first_bytes h0 h4) (show 1 ≤ 8 by decide) (tagN k) (wid k) rfl ht (widI_tag k) ?_ (by show (beL k (wid k)).toArray.size ≤ 8; simp [beL_length, hw]))
      by_cases h24 : k < 24
      · rw [if_pos (by unfold wid; exact if_pos h24), show wid k = 0 from (by unfold wid; exact if_pos h24)]
        rfl
      · have hw1 : 1 ≤ wid k := by rcases wid_cases k with ⟨h1, h2, _⟩ | ⟨h0, h1, h2, _⟩ | ⟨h0, h1, h2, _⟩ | ⟨h0, h1, h2, _⟩ | ⟨h0, h2, _⟩ <;> omega
        rw [if_neg (by omega), bytesR_of hw1 hw hk (wid_room hk (by omega))]

/-- What Size answers. -/
def hsizeR (n : Int) : Int × Int := if rightB n = true then (((1 + wid n.toNat : Nat) : Int), 0) else (0, 10)

theorem hencR_size (n : Int) : (((hencR 0 n).1.size : Int), (hencR 0 n).2) = hsizeR n := by
  unfold hencR hsizeR
  rw [show majB 0 = true from rfl, if_pos rfl]
  cases hr : rightB n with
  | false => rfl
  | true =>
    simp only [if_true]
    rw [← headL_length 0 n.toNat]
    rfl

end Go.Proofs.YtmbmolgkccjedaaGreatDoor

/- Contract of Decode of package head: for every text of at most a million bytes, and place. -/
set_option linter.unusedVariables false
set_option linter.unusedSimpArgs false
namespace Go.Proofs.YtmbmolgkccjedaaGreatDoor
open Go.RowKit

set_option maxHeartbeats 1000000 in
theorem hdecode_of_bad (b0 b1 b2 b3 b : Addr) (c : Int) (s : ByteArray) (at0 m t n k : Int) (w : World) (hE : EnvH b0 b1 b2 b3 w) (hs : SentH b0 b1 b2 b3 b c)
    (h : Calls Tryz.prog 177 #[.string s, .int .i64 at0] w fun e w' => e = .returned (.tuple #[.agg #[.int .i64 m, .int .i64 t, .int .i64 n, .int .i64 k], sentV b]) ∧ Below w.heap.size w w') :
    Calls Tryz.prog 153 #[.string s, .int .i64 at0] w fun e w' => e = .returned (.tuple #[.int .i64 0, .int .i64 0, .int .i64 0, .int .i64 c]) ∧ Below w.heap.size w w' := by
  have H := Lib.hid h
  clear h
  go_enter Tryz.func153, Tryz.ntmps153
  go_wp2_with fail
  refine H.out.mono ?_
  rintro e w1 ⟨rfl, hb1⟩
  go_wp2_with fail
  refine (madep_bad b0 b1 b2 b3 b c _ _ _ _ _ (hE.below hb1) hs).mono ?_
  rintro e w2 ⟨rfl, hb2⟩
  have hB := hb1.trans (hb2.mono hb1.size)
  clear hb1 hb2
  go_wp2
  go_quiet (fail)
  go_wp2
  exact bodyPost_ret (v := .tuple #[.int .i64 0, .int .i64 0, .int .i64 0, .int .i64 c]) (by simp [results, Tryz.results153, go_sem]) rfl ⟨rfl, below_drewN (hB.alloc hB.size _) _⟩

set_option maxHeartbeats 1000000 in
theorem hdecode_of_ok (s : ByteArray) (at0 m t n k : Int) (w : World)
    (h : Calls Tryz.prog 177 #[.string s, .int .i64 at0] w fun e w' => e = .returned (.tuple #[.agg #[.int .i64 m, .int .i64 t, .int .i64 n, .int .i64 k], .nilIface]) ∧ Below w.heap.size w w') :
    Calls Tryz.prog 153 #[.string s, .int .i64 at0] w fun e w' => e = .returned (.tuple #[.int .i64 m, .int .i64 n, .int .i64 k, .int .i64 0]) ∧ Below w.heap.size w w' := by
  have H := Lib.hid h
  clear h
  go_enter Tryz.func153, Tryz.ntmps153
  go_wp2_with fail
  refine H.out.mono ?_
  rintro e w1 ⟨rfl, hb1⟩
  go_wp2_with fail
  refine (madep_ok _ _ _ _ _).mono ?_
  rintro e w2 ⟨rfl, hb2⟩
  have hB := hb1.trans (hb2.mono hb1.size)
  clear hb1 hb2
  go_wp2
  go_quiet (fail)
  go_wp2
  exact bodyPost_ret (v := .tuple #[.int .i64 m, .int .i64 n, .int .i64 k, .int .i64 0]) (by simp [results, Tryz.results153, go_sem]) rfl ⟨rfl, below_drewN (hB.alloc hB.size _) _⟩

/-- What Decode answers: the major, the number, the place behind, the error's number. -/
def hdecR (s : ByteArray) (at0 : Int) : Int × Int × Int × Int :=
  if at0 < 0 ∨ (s.size : Int) ≤ at0 then (0, 0, 0, 11) else
    match hdL (s.data.toList.drop at0.toNat) with
    | .error e => (0, 0, 0, e)
    | .ok (m, n, k) => ((m : Int), (n : Int), at0 + (k : Int), 0)

theorem hdecR_out {s : ByteArray} {at0 : Int} (h : at0 < 0 ∨ (s.size : Int) ≤ at0) : hdecR s at0 = (0, 0, 0, 11) := if_pos h
theorem hdecR_err {s : ByteArray} {i : Nat} {e : Int} (hi : i < s.size) (h : hdL (s.data.toList.drop i) = .error e) : hdecR s (i : Int) = (0, 0, 0, e) := by
  unfold hdecR
  rw [if_neg (by omega), Int.toNat_natCast, h]
theorem hdecR_ok {s : ByteArray} {i m n k : Nat} (hi : i < s.size) (h : hdL (s.data.toList.drop i) = .ok (m, n, k)) : hdecR s (i : Int) = ((m : Int), (n : Int), (i : Int) + (k : Int), 0) := by
  unfold hdecR
  rw [if_neg (by omega), Int.toNat_natCast, h]

/-- One byte, taken. -/
theorem take_one {s : ByteArray} {i : Nat} (hi : i < s.size) : takeR s (i : Int) 1 = ((s[i].toNat : Int), 0) := by
  have hf : fitsB s (i : Int) 1 := ⟨by omega, by omega, by omega⟩
  have e : (s.extract (i : Int).toNat ((i : Int) + 1).toNat).data.toList = [s[i]] := by
    rw [show ((i : Int) + 1).toNat = i + 1 by omega, Int.toNat_natCast]
    apply List.ext_getElem
    · rw [Array.length_toList]; show (s.extract i (i + 1)).size = 1; rw [ByteArray.size_extract]; omega
    · intro n h1 h2
      simp only [List.length_singleton] at h2
      obtain rfl : n = 0 := by omega
      simp [ByteArray.data_extract]
      rfl
  unfold takeR
  rw [if_neg (by omega), if_neg (fun h => h hf), e]
  have hb := s[i].toNat_lt
  have hv : valL [s[i]] = s[i].toNat := by simp [valL]
  rw [hv, if_pos (by omega)]
theorem take_out {s : ByteArray} {at0 : Int} (h : at0 < 0 ∨ (s.size : Int) ≤ at0) : takeR s at0 1 = (0, 11) := by
  unfold takeR
  rw [if_neg (by omega), if_pos (fun hf => by obtain ⟨h0, h1, h2⟩ := hf; omega)]
/-- Bytes behind the first one, taken. -/
theorem take_behind {s : ByteArray} {i k : Nat} (h1 : 1 ≤ k) (h8 : k ≤ 8) (hs : i + 1 ≤ s.size) :
    takeR s ((i : Int) + 1) (k : Int) = if (s.data.toList.drop (i + 1)).length < k then (0, 11) else if 281474976710655 < valL ((s.data.toList.drop (i + 1)).take k) then (0, 10) else (((valL ((s.data.toList.drop (i + 1)).take k) : Nat) : Int), 0) := by
  have hl : (s.data.toList.drop (i + 1)).length = s.size - (i + 1) := by rw [List.length_drop, Array.length_toList]; rfl
  unfold takeR
  rw [if_neg (by omega), hl]
  by_cases hf : fitsB s ((i : Int) + 1) k
  · have hf' := hf
    obtain ⟨f0, f1, f2⟩ := hf'
    have e : (s.extract ((i : Int) + 1).toNat ((i : Int) + 1 + (k : Int)).toNat).data.toList = (s.data.toList.drop (i + 1)).take k := by
      rw [show ((i : Int) + 1).toNat = i + 1 by omega, show ((i : Int) + 1 + (k : Int)).toNat = i + 1 + k by omega, ByteArray.data_extract, Array.toList_extract, List.extract_eq_take_drop]
      congr 1
      omega
    rw [if_neg (fun h => h hf), e, if_neg (show ¬ s.size - (i + 1) < k by omega)]
    by_cases hv : valL ((s.data.toList.drop (i + 1)).take k) ≤ 281474976710655
    · rw [if_pos hv, if_neg (Nat.not_lt.2 hv)]
    · rw [if_neg hv, if_pos (Nat.lt_of_not_le hv)]
  · rw [if_pos hf]
    have : s.size - (i + 1) < k := by
      refine Nat.lt_of_not_le fun h => hf ⟨by omega, by omega, by omega⟩
    rw [if_pos this]

theorem widI_widT {t : Nat} (h : t ≤ 27) : widI (t : Int) = ((widT t : Nat) : Int) := by
  unfold widI widT
  by_cases h24 : t < 24
  · rw [if_pos h24, if_neg (by omega), if_neg (by omega), if_neg (by omega), if_neg (by omega)]; rfl
  · have : t = 24 ∨ t = 25 ∨ t = 26 ∨ t = 27 := by omega
    rcases this with rfl | rfl | rfl | rfl <;> decide
theorem tag_wid {t v : Nat} (h1 : 24 ≤ t) (h2 : t ≤ 27) : tagN v = t ↔ wid v = widT t := by
  have ht : t = 24 ∨ t = 25 ∨ t = 26 ∨ t = 27 := by omega
  rcases ht with rfl | rfl | rfl | rfl <;> rcases wid_cases v with ⟨k1, k2, k3⟩ | ⟨k0, k1, k2, k3⟩ | ⟨k0, k1, k2, k3⟩ | ⟨k0, k1, k2, k3⟩ | ⟨k0, k2, k3⟩ <;> rw [k2, k3] <;> simp [widT] <;> omega
theorem widT_bd {t : Nat} (h1 : 24 ≤ t) (h2 : t ≤ 27) : 1 ≤ widT t ∧ widT t ≤ 8 := by
  have ht : t = 24 ∨ t = 25 ∨ t = 26 ∨ t = 27 := by omega
  rcases ht with rfl | rfl | rfl | rfl <;> decide
theorem majB_nat (m : Nat) : majB (m : Int) = decide (Maj m) := by
  unfold majB
  rw [decide_eq_decide]
  unfold Maj
  omega

theorem hdecode_in (s : ByteArray) (i : Nat) (w : World) (hH : HeadOK w) (hs : s.size ≤ 1000000) (hi : i < s.size) (b : UInt8) (hb : s[i] = b) (r : List UInt8) (hr : s.data.toList.drop (i + 1) = r) (hl : s.data.toList.drop i = b :: r) :
    Calls Tryz.prog 153 #[.string s, .int .i64 (i : Int)] w fun e w' => e = .returned (.tuple #[.int .i64 (hdecR s i).1, .int .i64 (hdecR s i).2.1, .int .i64 (hdecR s i).2.2.1, .int .i64 (hdecR s i).2.2.2]) ∧ Below w.heap.size w w' := by
  obtain ⟨a0, a1, a2, b0, b1, b2, b3, hN, hE⟩ := hH
  have hm' : s.size ≤ maxLen := by unfold maxLen; omega
  have hlt := b.toNat_lt
  have hf := take_one hi
  rw [hb] at hf
  have hM : ((b.toNat : Nat) : Int) / 32 = ((b.toNat / 32 : Nat) : Int) := by omega
  have hT : ((b.toNat : Nat) : Int) % 32 = ((b.toNat % 32 : Nat) : Int) := by omega
  by_cases hbad : ¬ Maj (b.toNat / 32) ∨ 27 < b.toNat % 32
  · have hd : hdL (s.data.toList.drop i) = .error 20 := by rw [hl, hdL, if_pos hbad]
    rw [hdecR_err hi hd]
    refine hdecode_of_bad b0 b1 b2 b3 b3 20 s i 0 0 0 0 w hE (.inr (.inr (.inr ⟨rfl, rfl⟩))) (read_bad a0 a1 a2 b0 b1 b2 b3 b3 s i _ 0 w hN hE hm' hf (by omega) (by omega) true (decide (Maj (b.toNat / 32))) (decide (b.toNat % 32 ≤ 27)) rfl (by rw [hM]; exact majB_nat _) (by rw [hT, decide_eq_decide]; omega) ?_)
    rcases hbad with hbad | hbad
    · rw [decide_eq_false hbad]; rfl
    · rw [decide_eq_false (show ¬ b.toNat % 32 ≤ 27 by omega)]
      cases decide (Maj (b.toNat / 32)) <;> rfl
  · have hmaj : Maj (b.toNat / 32) := Decidable.byContradiction fun e => hbad (.inl e)
    have ht : b.toNat % 32 ≤ 27 := Nat.le_of_not_lt fun e => hbad (.inr e)
    have hgo := fun x e2 hx hxm u0 u1 u2 hu0 hu1 g hg hu2 k hk hk0 hk8 v hvv => read_go a0 a1 a2 b0 b1 b2 b3 s i _ 0 w hN hE hm' (by omega) (by omega) hf (by omega) (by omega) _ _ hM hT true true true rfl (by rw [majB_nat, decide_eq_true hmaj]) (decide_eq_true (by omega)) rfl x e2 hx hxm u0 u1 u2 hu0 hu1 g hg hu2 k hk hk0 hk8 v hvv
    by_cases h24 : b.toNat % 32 < 24
    · have hd : hdL (s.data.toList.drop i) = .ok (b.toNat / 32, b.toNat % 32, 1) := by rw [hl, hdL, if_neg hbad, if_pos h24]
      rw [hdecR_ok hi hd]
      have hw : widI ((b.toNat % 32 : Nat) : Int) = 0 := by rw [widI_widT ht]; unfold widT; rw [if_pos h24]; rfl
      have h := hgo (b.toNat % 32) 0 (by unfold argR; rw [if_pos hw]) (by omega) true true true rfl rfl _ rfl (by rw [tag_small h24]; simp) 0 hw (by omega) (by omega) .nilIface rfl
      have e : (i : Int) + ((1 : Nat) : Int) = (i : Int) + 1 + 0 := by omega
      rw [e]
      exact hdecode_of_ok s i _ _ _ _ w h
    · have hwb := widT_bd (Nat.le_of_not_lt h24) ht
      have hwi := widI_widT ht
      have harg : argR s ((i : Int) + 1) ((b.toNat % 32 : Nat) : Int) = takeR s ((i : Int) + 1) ((widT (b.toNat % 32) : Nat) : Int) := by
        unfold argR; rw [hwi, if_neg (by omega)]
      rw [take_behind hwb.1 hwb.2 (by omega), hr] at harg
      have htw := @tag_wid (b.toNat % 32) (valL (r.take (widT (b.toNat % 32)))) (Nat.le_of_not_lt h24) ht
      generalize hk : widT (b.toNat % 32) = k at *
      by_cases h3 : r.length < k
      · have hd : hdL (s.data.toList.drop i) = .error 11 := by rw [hl, hdL, if_neg hbad, if_neg h24, hk, if_pos h3]
        rw [hdecR_err hi hd]
        rw [if_pos h3] at harg
        exact hdecode_of_bad b0 b1 b2 b3 b2 11 s i _ _ _ _ w hE (.inr (.inr (.inl ⟨rfl, rfl⟩))) (hgo 0 11 harg (by omega) false true _ rfl rfl _ rfl rfl _ hwi (by omega) (by omega) _ rfl)
      · rw [if_neg h3] at harg
        by_cases h4 : 281474976710655 < valL (r.take k)
        · have hd : hdL (s.data.toList.drop i) = .error 10 := by rw [hl, hdL, if_neg hbad, if_neg h24, hk, if_neg h3, if_pos h4]
          rw [hdecR_err hi hd]
          rw [if_pos h4] at harg
          exact hdecode_of_bad b0 b1 b2 b3 b1 10 s i _ _ _ _ w hE (.inr (.inl ⟨rfl, rfl⟩)) (hgo 0 10 harg (by omega) true false _ rfl rfl _ rfl rfl _ hwi (by omega) (by omega) _ rfl)
        · rw [if_neg h4] at harg
          by_cases h5 : wid (valL (r.take k)) ≠ k
          · have hd : hdL (s.data.toList.drop i) = .error 20 := by rw [hl, hdL, if_neg hbad, if_neg h24, hk, if_neg h3, if_neg h4, if_pos h5]
            rw [hdecR_err hi hd]
            have hne : tagN (valL (r.take k)) ≠ b.toNat % 32 := fun e => h5 (htw.1 e)
            exact hdecode_of_bad b0 b1 b2 b3 b3 20 s i _ _ _ _ w hE (.inr (.inr (.inr ⟨rfl, rfl⟩))) (hgo _ 0 harg (by omega) true true false rfl rfl _ rfl (by rw [beq_eq_false_iff_ne]; omega) _ hwi (by omega) (by omega) _ rfl)
          · have h5' : wid (valL (r.take k)) = k := Decidable.byContradiction h5
            have hd : hdL (s.data.toList.drop i) = .ok (b.toNat / 32, valL (r.take k), 1 + k) := by rw [hl, hdL, if_neg hbad, if_neg h24, hk, if_neg h3, if_neg h4, if_neg h5]
            rw [hdecR_ok hi hd]
            have heq : tagN (valL (r.take k)) = b.toNat % 32 := htw.2 h5'
            have h := hgo _ 0 harg (by omega) true true true rfl rfl _ rfl (by rw [heq]; simp) _ hwi (by omega) (by omega) .nilIface rfl
            have e : (i : Int) + ((1 + k : Nat) : Int) = (i : Int) + 1 + (k : Int) := by omega
            rw [e]
            exact hdecode_of_ok s i _ _ _ _ w h

theorem hdecode_any (s : ByteArray) (at0 : Int) (w : World) (hH : HeadOK w) (hs : s.size ≤ 1000000) :
    Calls Tryz.prog 153 #[.string s, .int .i64 at0] w fun e w' => e = .returned (.tuple #[.int .i64 (hdecR s at0).1, .int .i64 (hdecR s at0).2.1, .int .i64 (hdecR s at0).2.2.1, .int .i64 (hdecR s at0).2.2.2]) ∧ Below w.heap.size w w' := by
  by_cases h : at0 < 0 ∨ (s.size : Int) ≤ at0
  · rw [hdecR_out h]
    obtain ⟨a0, a1, a2, b0, b1, b2, b3, hN, hE⟩ := hH
    exact hdecode_of_bad b0 b1 b2 b3 b2 11 s at0 0 0 0 0 w hE (.inr (.inr (.inl ⟨rfl, rfl⟩))) (read_bad a0 a1 a2 b0 b1 b2 b3 b2 s at0 0 11 w hN hE (by unfold maxLen; omega) (take_out h) (by omega) (by omega) false _ _ rfl rfl rfl rfl)
  · obtain ⟨i, rfl⟩ := Int.eq_ofNat_of_zero_le (show 0 ≤ at0 by omega)
    have hi : i < s.size := by omega
    have hl : s.data.toList.drop i = s[i] :: s.data.toList.drop (i + 1) := List.drop_eq_getElem_cons (by simpa using hi)
    exact hdecode_in s i w hH hs hi _ rfl _ rfl hl
end Go.Proofs.YtmbmolgkccjedaaGreatDoor

/- Heads' answers, by their ways: plain facts. -/
set_option linter.unusedVariables false
set_option linter.unusedSimpArgs false
namespace Go.Proofs.YtmbmolgkccjedaaGreatDoor
open Go.RowKit

theorem head_size (m n : Nat) : (⟨(headL m n).toArray⟩ : ByteArray).size = (headL m n).length := by show (headL m n).toArray.size = _; simp
theorem extract_list (l : List UInt8) (j : Nat) : ((⟨l.toArray⟩ : ByteArray).extract 0 j).toList = l.take j := by
  rw [ByteArray.toList_eq, ByteArray.data_extract]
  simp [Array.toList_extract, List.extract]
theorem bytes_list (l : List UInt8) : (⟨l.toArray⟩ : ByteArray).toList = l := by
  rw [ByteArray.toList_eq]

theorem hencR_of {M N : Nat} (hM : Maj M) (hN : N ≤ 281474976710655) : hencR (M : Int) (N : Int) = (⟨(headL M N).toArray⟩, 0) := by
  unfold hencR
  rw [majB_nat, decide_eq_true hM, if_pos rfl, rightB_yes hN, if_pos rfl, Int.toNat_natCast, Int.toNat_natCast]
theorem hencR_cases (m n : Int) : (∃ c, hencR m n = (⟨#[]⟩, c) ∧ (c != 0) = true ∧ (c == 0) = false) ∨ ∃ M N : Nat, m = M ∧ n = N ∧ Maj M ∧ N ≤ 281474976710655 ∧ hencR m n = (⟨(headL M N).toArray⟩, 0) := by
  cases hm : majB m with
  | false => exact .inl ⟨2, by unfold hencR; rw [hm]; rfl, rfl, rfl⟩
  | true =>
    cases hr : rightB n with
    | false => exact .inl ⟨10, by unfold hencR; rw [hm, hr]; rfl, rfl, rfl⟩
    | true =>
      obtain ⟨N, rfl, hN⟩ := rightB_nat hr
      obtain ⟨h0, h4, hM⟩ := majB_bounds hm
      obtain ⟨M, rfl⟩ := Int.eq_ofNat_of_zero_le h0
      rw [Int.toNat_natCast] at hM
      exact .inr ⟨M, N, rfl, rfl, hM, hN, hencR_of hM hN⟩
theorem hencR_sz (m n : Int) : (hencR m n).1.size ≤ 9 := by
  rcases hencR_cases m n with ⟨c, h, _⟩ | ⟨M, N, _, _, _, _, h⟩
  · rw [h]; exact Nat.zero_le 9
  · rw [h]
    show (⟨(headL M N).toArray⟩ : ByteArray).size ≤ 9
    rw [head_size, headL_length]
    have := wid_le N
    omega
theorem hdecR_cases (q : ByteArray) (at0 : Int) : (∃ e, hdecR q at0 = (0, 0, 0, e) ∧ (e = 11 ∨ e = 20 ∨ e = 10)) ∨ ∃ i M N k : Nat, at0 = i ∧ i < q.size ∧ hdL (q.data.toList.drop i) = .ok (M, N, k) ∧ hdecR q at0 = ((M : Int), (N : Int), (i : Int) + (k : Int), 0) := by
  by_cases h : at0 < 0 ∨ (q.size : Int) ≤ at0
  · exact .inl ⟨11, hdecR_out h, .inl rfl⟩
  · obtain ⟨i, rfl⟩ := Int.eq_ofNat_of_zero_le (show 0 ≤ at0 by omega)
    have hi : i < q.size := by omega
    cases hd : hdL (q.data.toList.drop i) with
    | error e => exact .inl ⟨e, hdecR_err hi hd, hdL_err hd⟩
    | ok x =>
      obtain ⟨M, N, k⟩ := x
      exact .inr ⟨i, M, N, k, rfl, hi, hd, hdecR_ok hi hd⟩

theorem hdecR_head (q r : ByteArray) {M N : Nat} (hM : Maj M) (hN : N ≤ 281474976710655) : hdecR (q ++ ⟨(headL M N).toArray⟩ ++ r) (q.size : Int) = ((M : Int), (N : Int), (q.size : Int) + ((headL M N).length : Int), 0) := by
  have hl := headL_length M N
  refine hdecR_ok ?_ ?_
  · rw [ByteArray.size_append, ByteArray.size_append, head_size]
    omega
  · have e : (q ++ ⟨(headL M N).toArray⟩ ++ r).data.toList.drop q.size = headL M N ++ r.data.toList := by
      rw [ByteArray.data_append, ByteArray.data_append, Array.toList_append, Array.toList_append, List.append_assoc, List.drop_append_of_le_length (by rw [Array.length_toList]; exact Nat.le_refl _), List.drop_of_length_le (by rw [Array.length_toList]; exact Nat.le_refl _)]
      simp
    rw [e]
    exact hdL_head hM hN _

end Go.Proofs.YtmbmolgkccjedaaGreatDoor
