/- The document's Join (all its ways) and Parse of package eid. -/
import Derived.Test.YtmpokhdljlnllaaDoorERefL
set_option linter.unusedVariables false
set_option linter.unusedSimpArgs false
namespace Go.Proofs.YtmpokhdljlnllaaDoor
open Go.RowKit

theorem toList_data (s : ByteArray) : s.toList = s.data.toList := by
  exact ByteArray.toList_eq s
theorem toList_beq (s : ByteArray) (l : List UInt8) : (s.toList == l) = decide (s.data.toList = l) := by
  rw [toList_data]
  by_cases h : s.data.toList = l
  · rw [h]; simp
  · simp [h]

theorem rjoin_any (s t : ByteArray) (ht : t.size ≤ 4000000000) (w : World) :
    Calls Tryd.prog 14 #[.string s, .string t] w fun e w' => e = .returned (.tuple #[nmX (jnR s.data.toList t.data.toList), .int .i64 (erX (jnR s.data.toList t.data.toList))]) ∧ Below w.heap.size w w' := by
  have hlen : t.data.toList.length = t.size := size_len t
  by_cases h1 : s.data.toList = [105, 112, 110]
  · have b1 : (s.toList == [105, 112, 110]) = true := by rw [toList_beq]; simpa using h1
    refine rjoin_ipn s t ht 2 ⟨#[]⟩ ⟨#[]⟩ ((valD (splA 46 t 0).data.toList : Nat) : Int) ((valD (splB 46 t 0).data.toList : Nat) : Int) ?_ (by decide) (by decide) rfl rfl rfl rfl rfl b1 w
    unfold rgh
    rw [if_pos h1, splA_data, splB_data]
    rfl
  · have b1 : (s.toList == [105, 112, 110]) = false := by rw [toList_beq]; simpa using h1
    by_cases h2 : t.data.toList = [110, 111, 110, 101]
    · have b2 : (t.toList == [110, 111, 110, 101]) = true := by rw [toList_beq]; simpa using h2
      refine rjoin_zero s t ht 0 ⟨#[]⟩ ⟨#[]⟩ 0 0 ?_ (by decide) (by decide) rfl rfl rfl rfl rfl ⟨b1, .inl b2⟩ w
      unfold rgh
      rw [if_neg h1, if_neg (fun h => h.1 h2)]
      rfl
    · have b2 : (t.toList == [110, 111, 110, 101]) = false := by rw [toList_beq]; simpa using h2
      by_cases h3 : 2 < t.size
      · refine rjoin_dtn s t ht 1 (splA 47 t 2) (splB 47 t 2) 0 0 ?_ (Nat.le_trans (spl_size1 _ _ _) ht) (Nat.le_trans (spl_size2 _ _ _) ht) rfl rfl rfl rfl rfl ⟨b1, b2, h3⟩ w
        unfold rgh
        rw [if_neg h1, if_pos ⟨h2, by rw [hlen]; exact h3⟩]
        unfold nmO
        rw [splA_data, splB_data]
      · refine rjoin_zero s t ht 0 ⟨#[]⟩ ⟨#[]⟩ 0 0 ?_ (by decide) (by decide) rfl rfl rfl rfl rfl ⟨b1, .inr ⟨b2, h3⟩⟩ w
        unfold rgh
        rw [if_neg h1, if_neg (fun h => h3 (by rw [← hlen]; exact h.2))]
        rfl

theorem ext_take (s : ByteArray) (j : Nat) : (s.extract 0 j).data.toList = s.data.toList.take j := by
  rw [ext_data]; simp
theorem ext_drop (s : ByteArray) (j : Nat) : (s.extract j s.size).data.toList = s.data.toList.drop j := by
  rw [ext_data, ← size_len s]
  exact List.take_of_length_le (by simp)

theorem nmX_none : nmX none = nmV 0 ⟨#[]⟩ ⟨#[]⟩ 0 0 := rfl

/-- A text's name by the document, by its ways. -/
theorem prsR_way (s : ByteArray) : (¬ 4 ≤ s.size ∧ prsR s.data.toList = none) ∨ (∃ c : UInt8, (∃ h : 3 < s.size, s[3] = c) ∧ 4 ≤ s.size ∧ c ≠ 58 ∧ prsR s.data.toList = none) ∨ (∃ c : UInt8, (∃ h : 3 < s.size, s[3] = c) ∧ 4 ≤ s.size ∧ c = 58 ∧ prsR s.data.toList = jnR (s.extract 0 3).data.toList (s.extract 4 s.size).data.toList) := by
  have hlen : s.data.toList.length = s.size := size_len s
  rw [ext_take, ext_drop]
  unfold prsR
  by_cases h4 : 4 ≤ s.size
  · have h3 : 3 < s.size := by omega
    have hg : s.data.toList[3]? = some s[3] := by
      rw [List.getElem?_eq_getElem (by omega)]
      rfl
    by_cases hc : s[3] = 58
    · refine .inr (.inr ⟨s[3], ⟨h3, rfl⟩, h4, hc, ?_⟩)
      rw [if_neg]
      rw [hg, hc]
      intro h
      rcases h with h | h
      · omega
      · exact h rfl
    · refine .inr (.inl ⟨s[3], ⟨h3, rfl⟩, h4, hc, ?_⟩)
      rw [if_pos]
      rw [hg]
      exact .inr (fun h => hc (Option.some.inj h))
  · exact .inl ⟨h4, if_pos (.inl (by omega))⟩

set_option maxRecDepth 100000 in
set_option maxHeartbeats 4000000 in
theorem rparse_any (s : ByteArray) (hs : s.size ≤ 4000000000) (w : World) :
    Calls Tryd.prog 18 #[.string s] w fun e w' => e = .returned (.tuple #[nmX (prsR s.data.toList), .int .i64 (erX (prsR s.data.toList))]) ∧ Below w.heap.size w w' := by
  have HBX := Lib.hid (show Below w.heap.size w (w.alloc (.cells #[.int .i64 0, .string ⟨#[]⟩, .string ⟨#[]⟩, .int .i64 0, .int .i64 0] 23)) from below_alloc_l (Below.refl _ _))
  rcases prsR_way s with ⟨h4, hp⟩ | ⟨c, ⟨h3, hc⟩, h4, hne, hp⟩ | ⟨c, ⟨h3, hc⟩, h4, heq, hp⟩
  · rw [hp]
    have hl : decide ((s.size : Int) < 4) = true := by simp; omega
    clear hp h4 hs
    go_enter Tryd.func18, Tryd.ntmps18
    go_wp2_with fail
    have r0 : (w.alloc (.cells #[.int .i64 0, .string ⟨#[]⟩, .string ⟨#[]⟩, .int .i64 0, .int .i64 0] 23)).cell? ⟨w.heap.size, 0, none⟩ = some (.int .i64 0) := by go_simp
    have r1 : (w.alloc (.cells #[.int .i64 0, .string ⟨#[]⟩, .string ⟨#[]⟩, .int .i64 0, .int .i64 0] 23)).cell? ⟨w.heap.size, 1, none⟩ = some (.string ⟨#[]⟩) := by go_simp
    have r2 : (w.alloc (.cells #[.int .i64 0, .string ⟨#[]⟩, .string ⟨#[]⟩, .int .i64 0, .int .i64 0] 23)).cell? ⟨w.heap.size, 2, none⟩ = some (.string ⟨#[]⟩) := by go_simp
    have r3 : (w.alloc (.cells #[.int .i64 0, .string ⟨#[]⟩, .string ⟨#[]⟩, .int .i64 0, .int .i64 0] 23)).cell? ⟨w.heap.size, 3, none⟩ = some (.int .i64 0) := by go_simp
    have r4 : (w.alloc (.cells #[.int .i64 0, .string ⟨#[]⟩, .string ⟨#[]⟩, .int .i64 0, .int .i64 0] 23)).cell? ⟨w.heap.size, 4, none⟩ = some (.int .i64 0) := by go_simp
    exact bodyPost_ret (nm_res2 _ 2 3 rfl _ (.int .i64 60) rfl rfl ⟨r0, r1, r2, r3, r4⟩) rfl ⟨rfl, HBX.out⟩
  · rw [hp]
    have hl : decide ((s.size : Int) < 4) = false := by simp; omega
    have hi : ∀ W : World, (Instr.index 9 (.string s) (.int .i64 3)).run Tryd.prog W = .ok (.int .u8 ((c.toNat : Nat) : Int)) W := fun W => by rw [← hc]; exact ix_str s 3 3 rfl h3 W
    have hq : (((c.toNat : Nat) : Int) != 58) = true := by
      have : c.toNat ≠ 58 := fun h => hne (UInt8.toNat_inj.1 h)
      simp
      omega
    clear hp h4 hs hne
    go_enter Tryd.func18, Tryd.ntmps18
    go_wp2_with fail
    have r0 : (w.alloc (.cells #[.int .i64 0, .string ⟨#[]⟩, .string ⟨#[]⟩, .int .i64 0, .int .i64 0] 23)).cell? ⟨w.heap.size, 0, none⟩ = some (.int .i64 0) := by go_simp
    have r1 : (w.alloc (.cells #[.int .i64 0, .string ⟨#[]⟩, .string ⟨#[]⟩, .int .i64 0, .int .i64 0] 23)).cell? ⟨w.heap.size, 1, none⟩ = some (.string ⟨#[]⟩) := by go_simp
    have r2 : (w.alloc (.cells #[.int .i64 0, .string ⟨#[]⟩, .string ⟨#[]⟩, .int .i64 0, .int .i64 0] 23)).cell? ⟨w.heap.size, 2, none⟩ = some (.string ⟨#[]⟩) := by go_simp
    have r3 : (w.alloc (.cells #[.int .i64 0, .string ⟨#[]⟩, .string ⟨#[]⟩, .int .i64 0, .int .i64 0] 23)).cell? ⟨w.heap.size, 3, none⟩ = some (.int .i64 0) := by go_simp
    have r4 : (w.alloc (.cells #[.int .i64 0, .string ⟨#[]⟩, .string ⟨#[]⟩, .int .i64 0, .int .i64 0] 23)).cell? ⟨w.heap.size, 4, none⟩ = some (.int .i64 0) := by go_simp
    exact bodyPost_ret (nm_res2 _ 2 3 rfl _ (.int .i64 60) rfl rfl ⟨r0, r1, r2, r3, r4⟩) rfl ⟨rfl, HBX.out⟩
  · rw [hp]
    have hl : decide ((s.size : Int) < 4) = false := by simp; omega
    have hi : ∀ W : World, (Instr.index 9 (.string s) (.int .i64 3)).run Tryd.prog W = .ok (.int .u8 58) W := fun W => by have h := ix_str s 3 3 rfl h3 W; rw [hc, heq] at h; exact h
    have hs1 : ∀ W : World, (Instr.slice 9 (.string s) none (some (.int .i64 3)) none).run Tryd.prog W = .ok (.string (s.extract 0 3)) W := fun W => sl_to s 3 (by omega) W
    have hs2 : ∀ W : World, (Instr.slice 9 (.string s) (some (.int .i64 4)) none none).run Tryd.prog W = .ok (.string (s.extract 4 s.size)) W := fun W => sl_from s 4 4 rfl h4 W
    have hz : (s.extract 4 s.size).size ≤ 4000000000 := by rw [ByteArray.size_extract]; omega
    have HJ := Lib.hid (fun W => rjoin_any (s.extract 0 3) (s.extract 4 s.size) hz W)
    clear hp hs hz
    generalize s.extract 0 3 = sx at *
    generalize s.extract 4 s.size = sy at *
    generalize jnR sx.data.toList sy.data.toList = q at *
    obtain ⟨k, nd, sv, a, b, hv⟩ : ∃ k nd sv a b, nmX q = nmV k nd sv a b := ⟨_, _, _, _, _, rfl⟩
    obtain ⟨n, hn⟩ : ∃ n, erX q = n := ⟨_, rfl⟩
    rw [hv, hn] at HJ ⊢
    clear hv hn hc heq h3 h4
    rw [show nmV k nd sv a b = .agg #[.int .i64 k, .string nd, .string sv, .int .i64 a, .int .i64 b] from rfl] at HJ
    go_enter Tryd.func18, Tryd.ntmps18
    go_wp2_with fail
    have r0 : (w.alloc (.cells #[.int .i64 0, .string ⟨#[]⟩, .string ⟨#[]⟩, .int .i64 0, .int .i64 0] 23)).cell? ⟨w.heap.size, 0, none⟩ = some (.int .i64 0) := by go_simp
    have r1 : (w.alloc (.cells #[.int .i64 0, .string ⟨#[]⟩, .string ⟨#[]⟩, .int .i64 0, .int .i64 0] 23)).cell? ⟨w.heap.size, 1, none⟩ = some (.string ⟨#[]⟩) := by go_simp
    have r2 : (w.alloc (.cells #[.int .i64 0, .string ⟨#[]⟩, .string ⟨#[]⟩, .int .i64 0, .int .i64 0] 23)).cell? ⟨w.heap.size, 2, none⟩ = some (.string ⟨#[]⟩) := by go_simp
    have r3 : (w.alloc (.cells #[.int .i64 0, .string ⟨#[]⟩, .string ⟨#[]⟩, .int .i64 0, .int .i64 0] 23)).cell? ⟨w.heap.size, 3, none⟩ = some (.int .i64 0) := by go_simp
    have r4 : (w.alloc (.cells #[.int .i64 0, .string ⟨#[]⟩, .string ⟨#[]⟩, .int .i64 0, .int .i64 0] 23)).cell? ⟨w.heap.size, 4, none⟩ = some (.int .i64 0) := by go_simp
    have q0 : (w.alloc (.cells #[.int .i64 0, .string ⟨#[]⟩, .string ⟨#[]⟩, .int .i64 0, .int .i64 0] 23)).frozen? ⟨w.heap.size, 0, none⟩ = false := by go_simp
    have q1 : (w.alloc (.cells #[.int .i64 0, .string ⟨#[]⟩, .string ⟨#[]⟩, .int .i64 0, .int .i64 0] 23)).frozen? ⟨w.heap.size, 1, none⟩ = false := by go_simp
    have q2 : (w.alloc (.cells #[.int .i64 0, .string ⟨#[]⟩, .string ⟨#[]⟩, .int .i64 0, .int .i64 0] 23)).frozen? ⟨w.heap.size, 2, none⟩ = false := by go_simp
    have q3 : (w.alloc (.cells #[.int .i64 0, .string ⟨#[]⟩, .string ⟨#[]⟩, .int .i64 0, .int .i64 0] 23)).frozen? ⟨w.heap.size, 3, none⟩ = false := by go_simp
    have q4 : (w.alloc (.cells #[.int .i64 0, .string ⟨#[]⟩, .string ⟨#[]⟩, .int .i64 0, .int .i64 0] 23)).frozen? ⟨w.heap.size, 4, none⟩ = false := by go_simp
    generalize hw0 : (w.alloc (.cells #[.int .i64 0, .string ⟨#[]⟩, .string ⟨#[]⟩, .int .i64 0, .int .i64 0] 23)) = w0 at *
    clear hw0
    have hcum := Lib.hid (Below.refl w0.heap.size w0).drew
    go_region_held3 (fun w' => True) (first | trivial | exact True.intro)
      (first
        | ((go_at_call 14; go_fit (HJ.out _); rintro e w1 ⟨rfl, hb1⟩; have HB1 := Lib.hid (hcum.out.trans (hb1.mono hcum.out.size)); clear hb1; have s0 := (HB1.out.cell (World.block_lt_of_cell? _ _ r0)).trans r0; have p0 := (HB1.out.frozen (World.block_lt_of_cell? _ _ r0)).trans q0; have s1 := (HB1.out.cell (World.block_lt_of_cell? _ _ r1)).trans r1; have p1 := (HB1.out.frozen (World.block_lt_of_cell? _ _ r1)).trans q1; have s2 := (HB1.out.cell (World.block_lt_of_cell? _ _ r2)).trans r2; have p2 := (HB1.out.frozen (World.block_lt_of_cell? _ _ r2)).trans q2; have s3 := (HB1.out.cell (World.block_lt_of_cell? _ _ r3)).trans r3; have p3 := (HB1.out.frozen (World.block_lt_of_cell? _ _ r3)).trans q3; have s4 := (HB1.out.cell (World.block_lt_of_cell? _ _ r4)).trans r4; have p4 := (HB1.out.frozen (World.block_lt_of_cell? _ _ r4)).trans q4; have HB := Lib.hid (HBX.out.trans (HB1.out.mono HBX.out.size)); clear HB1 r0 r1 r2 r3 r4 q0 q1 q2 q3 q4)))
    go_wp2_with fail
    have k5 := set5 (v0 := .int .i64 k) (v1 := .string nd) (v2 := .string sv) (v3 := .int .i64 a) (v4 := .int .i64 b) s0 s1 s2 s3 s4
    exact bodyPost_ret (nm_res2 _ 2 3 rfl _ (.int .i64 n) rfl rfl k5) rfl ⟨rfl, below_set5 HB.out (Nat.le_refl _)⟩
end Go.Proofs.YtmpokhdljlnllaaDoor
