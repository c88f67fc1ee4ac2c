/- Contracts of Encode and Size of package head: for every major and number. -/
import Derived.Test.YtnmdbmmkmbdiaaaDoorHLay
set_option linter.unusedVariables false
set_option linter.unusedSimpArgs false
namespace Go.Proofs.YtnmdbmmkmbdiaaaDoor
open Go.RowKit

/-- What head, and what it stands on, start from: the sentinels of nums and head, the table of widths. -/
def HeadOK (w : World) : Prop := ∃ a0 a1 a2 b0 b1 b2 b3, Env a0 a1 a2 w ∧ EnvH b0 b1 b2 b3 w
theorem HeadOK.below {w w' : World} (h : HeadOK w) (hb : Below w.heap.size w w') : HeadOK w' := by
  obtain ⟨a0, a1, a2, b0, b1, b2, b3, hN, hE⟩ := h
  exact ⟨a0, a1, a2, b0, b1, b2, b3, hN.below hb, hE.below hb⟩

set_option maxHeartbeats 400000 in
theorem hencode_of_bad (b0 b1 b2 b3 b : Addr) (c m n : Int) (w : World) (hE : EnvH b0 b1 b2 b3 w) (hs : SentH b0 b1 b2 b3 b c)
    (h : Calls Tryd.prog 19 #[.int .i64 m, .int .i64 n] w fun e w' => e = .returned (.tuple #[.string ⟨#[]⟩, sentV b]) ∧ Below w.heap.size w w') :
    Calls Tryd.prog 12 #[.int .i64 m, .int .i64 n] w fun e w' => e = .returned (.tuple #[.string ⟨#[]⟩, .int .i64 c]) ∧ Below w.heap.size w w' := by
  have H := Lib.hid h
  clear h
  go_enter Tryd.func12, Tryd.ntmps12
  go_wp2_with fail
  refine H.out.mono ?_
  rintro e w1 ⟨rfl, hb1⟩
  go_wp2_with fail
  refine (mades_bad b0 b1 b2 b3 b c _ _ (hE.below hb1) hs).mono ?_
  rintro e w2 ⟨rfl, hb2⟩
  have hB := hb1.trans (hb2.mono hb1.size)
  clear hb1 hb2
  go_wp2
  go_quiet (fail)
  go_wp2
  go_ret2
  exact ⟨rfl, below_drewN (hB.alloc hB.size _) _⟩

set_option maxHeartbeats 400000 in
theorem hencode_of_ok (q : ByteArray) (m n : Int) (w : World)
    (h : Calls Tryd.prog 19 #[.int .i64 m, .int .i64 n] w fun e w' => e = .returned (.tuple #[.string q, .nilIface]) ∧ Below w.heap.size w w') :
    Calls Tryd.prog 12 #[.int .i64 m, .int .i64 n] w fun e w' => e = .returned (.tuple #[.string q, .int .i64 0]) ∧ Below w.heap.size w w' := by
  have H := Lib.hid h
  clear h
  go_enter Tryd.func12, Tryd.ntmps12
  go_wp2_with fail
  refine H.out.mono ?_
  rintro e w1 ⟨rfl, hb1⟩
  go_wp2_with fail
  refine (mades_ok _ _).mono ?_
  rintro e w2 ⟨rfl, hb2⟩
  have hB := hb1.trans (hb2.mono hb1.size)
  clear hb1 hb2
  go_wp2
  go_quiet (fail)
  go_wp2
  go_ret2
  exact ⟨rfl, below_drewN (hB.alloc hB.size _) _⟩

theorem majB_bounds {m : Int} (h : majB m = true) : 0 ≤ m ∧ m ≤ 4 ∧ Maj m.toNat := by
  unfold majB at h
  unfold Maj
  simp only [decide_eq_true_eq] at h
  omega
theorem rightB_nat {n : Int} (h : rightB n = true) : ∃ k : Nat, n = k ∧ k ≤ 281474976710655 := by
  unfold rightB at h
  simp only [Bool.and_eq_true, decide_eq_true_eq] at h
  exact ⟨n.toNat, by omega, by omega⟩

theorem hencode_any (m n : Int) (w : World) (hH : HeadOK w) :
    Calls Tryd.prog 12 #[.int .i64 m, .int .i64 n] w fun e w' => e = .returned (.tuple #[.string (hencR m n).1, .int .i64 (hencR m n).2]) ∧ Below w.heap.size w w' := by
  obtain ⟨a0, a1, a2, b0, b1, b2, b3, hN, hE⟩ := hH
  cases hm : majB m with
  | false =>
    have e : hencR m n = (⟨#[]⟩, 2) := by unfold hencR; rw [hm]; rfl
    rw [e]
    exact hencode_of_bad b0 b1 b2 b3 b0 2 m n w hE (.inl ⟨rfl, rfl⟩) (lay_bad b0 b1 b2 b3 b0 m n w hE _ _ hm rfl rfl)
  | true =>
    cases hr : rightB n with
    | false =>
      have e : hencR m n = (⟨#[]⟩, 10) := by unfold hencR; rw [hm, hr]; rfl
      rw [e]
      exact hencode_of_bad b0 b1 b2 b3 b1 10 m n w hE (.inr (.inl ⟨rfl, rfl⟩)) (lay_bad b0 b1 b2 b3 b1 m n w hE _ _ hm hr rfl)
    | true =>
      have e : hencR m n = (⟨(headL m.toNat n.toNat).toArray⟩, 0) := by unfold hencR; rw [hm, hr]; rfl
      rw [e]
      obtain ⟨k, rfl, hk⟩ := rightB_nat hr
      obtain ⟨h0, h4, hM⟩ := majB_bounds hm
      have ht := tag_le k
      have hw := wid_le k
      rw [Int.toNat_natCast]
      have hsp : (⟨(headL m.toNat k).toArray⟩ : ByteArray) = ⟨#[UInt8.ofNat (32 * m.toNat + tagN k)]⟩ ++ ⟨(beL k (wid k)).toArray⟩ := by
        apply ByteArray.ext
        apply Array.toList_inj.1
        simp [headL]
      rw [hsp]
      refine hencode_of_ok _ m k w (lay_ok a0 a1 a2 b0 b1 b2 b3 m k w hN hE _ _ hm hr rfl h0 h4 hk _ _ (first_bytes h0 h4) (show 1 ≤ 8 by decide) (tagN k) (wid k) rfl ht (widI_tag k) ?_ (by show (beL k (wid k)).toArray.size ≤ 8; simp [beL_length, hw]))
      by_cases h24 : k < 24
      · rw [if_pos (by unfold wid; exact if_pos h24), show wid k = 0 from (by unfold wid; exact if_pos h24)]
        rfl
      · have hw1 : 1 ≤ wid k := by rcases wid_cases k with ⟨h1, h2, _⟩ | ⟨h0, h1, h2, _⟩ | ⟨h0, h1, h2, _⟩ | ⟨h0, h1, h2, _⟩ | ⟨h0, h2, _⟩ <;> omega
        rw [if_neg (by omega), bytesR_of hw1 hw hk (wid_room hk (by omega))]

/-- What Size answers. -/
def hsizeR (n : Int) : Int × Int := if rightB n = true then (((1 + wid n.toNat : Nat) : Int), 0) else (0, 10)

theorem hencR_size (n : Int) : (((hencR 0 n).1.size : Int), (hencR 0 n).2) = hsizeR n := by
  unfold hencR hsizeR
  rw [show majB 0 = true from rfl, if_pos rfl]
  cases hr : rightB n with
  | false => rfl
  | true =>
    simp only [if_true]
    rw [← headL_length 0 n.toNat]
    rfl

set_option maxHeartbeats 400000 in
theorem hsize_any (n : Int) (w : World) (hH : HeadOK w) :
    Calls Tryd.prog 16 #[.int .i64 n] w fun e w' => e = .returned (.tuple #[.int .i64 (hsizeR n).1, .int .i64 (hsizeR n).2]) ∧ Below w.heap.size w w' := by
  have HS := Lib.hid (hencR_size n)
  generalize hsizeR n = r at *
  obtain ⟨r1, r2⟩ := r
  have HE := Lib.hid (hencode_any 0 n w hH)
  generalize hencR 0 n = q at *
  obtain ⟨q1, q2⟩ := q
  simp only [Prod.mk.injEq] at HS
  obtain ⟨rfl, rfl⟩ := HS.out
  clear HS
  go_enter Tryd.func16, Tryd.ntmps16
  go_wp2_with fail
  refine HE.out.mono ?_
  rintro e w1 ⟨rfl, hb1⟩
  go_wp2
  go_ret2
  exact ⟨rfl, hb1⟩
end Go.Proofs.YtnmdbmmkmbdiaaaDoor
