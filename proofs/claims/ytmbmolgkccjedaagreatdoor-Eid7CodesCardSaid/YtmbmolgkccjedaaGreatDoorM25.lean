/- The document's read of a list of items, and of any item. -/
import Derived.Test.YtmbmolgkccjedaaGreatDoorIRefR
import Derived.Test.YtmbmolgkccjedaaGreatDoorM24
set_option linter.unusedVariables false
set_option linter.unusedSimpArgs false
namespace Go.Proofs.YtmbmolgkccjedaaGreatDoor
open Go.RowKit

/-- A list while it is read: the answer's box, the item's, its row. -/
structure LR (R : Nat) (s : ByteArray) (c : Int) (w : World) (B : Nat) (v : Value) (xs : List Itm) (wr : World) : Prop where
  rd : RdR R s c wr
  a0 : wr.heap[w.heap.size]? = some (.cells #[.int .i64 0, .int .i64 0, .string ⟨#[]⟩, .slice none 0 0] 26 (0, 0))
  a1 : wr.heap[B]? = some (.cells #[.int .i64 4, .int .i64 0, .string ⟨#[]⟩, v] 26 (0, 0))
  row : RowM (B + 1) wr v xs
  fr : Fr R w wr

/-- What is read of a list. -/
def lstT (t : Except Int (List Itm × List UInt8 × Nat)) : Except Int (Itm × List UInt8 × Nat) := match t with
  | .error e => .error e
  | .ok (xs, r, c') => .ok (.mk 4 0 [] xs, r, c')

set_option maxRecDepth 100000 in
set_option maxHeartbeats 4000000 in
theorem rr_list (f : Nat) (R : Nat) (s : ByteArray) (at0 : Int) (c d : Nat) (w : World) (hS : RdR R s (c : Int) w) (n i : Nat) (hs : s.size ≤ 1000000) (hc : c < 60) (hd : d ≤ 6) (hD : hdecR s at0 = (4, (n : Int), (i : Int), 0)) (hi : i ≤ s.size) (hn : n ≤ 281474976710655)
    (ih : ∀ (i c : Nat) (W : World), RdR R s (c : Int) W → i ≤ s.size → c ≤ 60 → Calls Tryz.prog 56 #[.pointer (some ⟨R, 0, none⟩), .int .i64 (i : Int), .int .i64 ((d : Int) + 1)] W (RefR R s W (rd f c (s.data.toList.drop i)))) :
    Calls Tryz.prog 56 #[.pointer (some ⟨R, 0, none⟩), .int .i64 at0, .int .i64 (d : Int)] w (RefR R s w (lstT (rdN (rd f) n (c + 1) (s.data.toList.drop i)))) := by
  have hl := hS.lt
  have r0 := hS.c0
  have r1 := hS.c1
  have q1 := hS.f1
  have hS1 := (hS.count ((c : Int) + 1)).below ((Below.refl _ _).alloc (Nat.le_refl _) (.cells #[.int .i64 0, .int .i64 0, .string ⟨#[]⟩, .slice none 0 0] 26))
  have hF1 : Fr R w ((w.setCell ⟨R, 1, none⟩ (.int .i64 ((c : Int) + 1))).alloc (.cells #[.int .i64 0, .int .i64 0, .string ⟨#[]⟩, .slice none 0 0] 26)) := frAlloc (Fr.set R 1 w _) _
  have hA0 : ((w.setCell ⟨R, 1, none⟩ (.int .i64 ((c : Int) + 1))).alloc (.cells #[.int .i64 0, .int .i64 0, .string ⟨#[]⟩, .slice none 0 0] 26)).heap[w.heap.size]? = some (.cells #[.int .i64 0, .int .i64 0, .string ⟨#[]⟩, .slice none 0 0] 26 (0, 0)) := by
    have := World.alloc_heap_new (w.setCell ⟨R, 1, none⟩ (.int .i64 ((c : Int) + 1))) (.cells #[.int .i64 0, .int .i64 0, .string ⟨#[]⟩, .slice none 0 0] 26)
    rw [show (w.setCell ⟨R, 1, none⟩ (.int .i64 ((c : Int) + 1))).heap.size = w.heap.size by simp] at this
    exact this
  have hRne : w.heap.size ≠ R := by omega
  have hC := rdecode_any s at0 ((w.setCell ⟨R, 1, none⟩ (.int .i64 ((c : Int) + 1))).alloc (.cells #[.int .i64 0, .int .i64 0, .string ⟨#[]⟩, .slice none 0 0] 26)) hs
  rw [hD] at hC
  have HC := Lib.hid hC
  have HS1 := Lib.hid hS1
  have HF1 := Lib.hid hF1
  have HA0 := Lib.hid hA0
  have b1 : decide (60 < (c : Int) + 1) = false := by simp; omega
  have b2 : decide (6 < (d : Int)) = false := by simp; omega
  clear hS hS1 hF1 hA0 hC hD
  have IH := Lib.hid ih
  clear ih
  go_enter Tryz.func56, Tryz.ntmps56
  go_wp2_with fail
  refine HC.out.mono ?_
  clear HC
  rintro e' w1 ⟨rfl, hb1⟩
  have hA1 := (hb1.block _ (lt_of_heap HA0.out)).trans HA0.out
  have hz1 : w.heap.size < w1.heap.size := lt_of_heap hA1
  have hz1n : w.heap.size ≠ w1.heap.size := by omega
  have hS2 := HS1.out.below hb1
  have hRl := hS2.lt
  have HS2 := Lib.hid hS2
  have HF2 := Lib.hid (HF1.out.trans (Fr.below hb1))
  have HA1 := Lib.hid hA1
  have k0 := heap_cell hA1 0 _ rfl
  have f0 := heap_frozen hA1 0
  have k1 := heap_cell hA1 1 _ rfl
  have f1 := heap_frozen hA1 1
  have k2 := heap_cell hA1 2 _ rfl
  have f2 := heap_frozen hA1 2
  have k3 := heap_cell hA1 3 _ rfl
  have f3 := heap_frozen hA1 3
  have t0 := hS2.c0
  clear k0 f0 k1 f1 k2 f2 k3 f3 t0
  clear hb1 hA1 hS2 HF1 HS1 HA0 r0 r1 q1
  have hL0 : LR R s ((c : Int) + 1) w w1.heap.size (.slice none 0 0) [] (w1.alloc (.cells #[.int .i64 4, .int .i64 0, .string ⟨#[]⟩, .slice none 0 0] 26)) :=
    ⟨HS2.out.below ((Below.refl _ _).alloc (Nat.le_refl _) _), (Below.heap_alloc _ _ _ hz1).trans HA1.out, World.alloc_heap_new w1 _, RowM.nil _ _, frAlloc HF2.out _⟩
  have HL0 := Lib.hid hL0
  clear hL0 HS2 HA1 HF2
  go_wp2_with fail
  generalize hBB : w1.heap.size = B at *
  generalize w1.alloc (.cells #[.int .i64 4, .int .i64 0, .string ⟨#[]⟩, .slice none 0 0] 26) = w0 at *
  clear hBB
  go_loopw [11, 14] (fun nx ii wr => ∃ (j : Nat) (xs : List Itm) (r : List UInt8) (c' : Nat) (v : Value), j ≤ n ∧ ii = .int .i64 (j : Int) ∧ nx = .int .i64 ((s.size - r.length : Nat) : Int) ∧ rdN (rd f) j (c + 1) (s.data.toList.drop i) = .ok (xs, r, c') ∧ LR R s (c' : Int) w B v xs wr) (fun _ ii _ => n - (intOf ii).toNat)
  case atStart =>
    refine ⟨0, [], s.data.toList.drop i, c + 1, .slice none 0 0, Nat.zero_le _, rfl, by rw [drop_place s hi], rfl, ?_⟩
    exact HL0.out
  case round =>
    obtain ⟨j, xs, r, c', v, hj, rfl, rfl, hrd, hM⟩ := hrel
    obtain ⟨hsf, hc6, hxl, hcc⟩ := rdN_sfx f j (c + 1) _ xs r c' (by omega) hrd
    obtain ⟨hrs, hrl⟩ := sfx_drop hsf
    rw [Array.length_toList] at hrs hrl
    have HRD := Lib.hid hrd
    have hRl := hM.rd.lt
    have HMM := Lib.hid hM
    obtain ⟨pl, hpl⟩ : ∃ pl : Nat, pl = s.size - r.length := ⟨_, rfl⟩
    by_cases hlt : j < n
    · have HN := IH.out (s.size - r.length) c' wr hM.rd (Nat.sub_le _ _) hc6
      rw [show s.data.toList.drop (s.size - r.length) = r from hrs.symm] at HN
      rw [← hpl] at HN ⊢
      have HP := Lib.hid hpl
      clear hsf hrd hrs hrl hM hxl hpl
      cases hr : rd f c' r with
      | error e =>
        have HE := Lib.hid (rdN_err hlt HRD.out hr)
        have b3 : (e != 0) = true := by simpa using rd_err_ne _ _ _ _ hr
        rw [hr] at HN
        have HNN := Lib.hid HN
        clear HN hr
        go_wp2_with fail
        refine HNN.out.mono ?_
        clear HNN
        rintro e' w2 ⟨rfl, hF1⟩
        have hA0 := (hF1.block _ (lt_of_heap HMM.out.a0) (by intro e; cases e; omega)).trans HMM.out.a0
        have hz2 : w.heap.size < w2.heap.size := lt_of_heap hA0
        have k0 := heap_cell hA0 0 _ rfl
        have f0 := heap_frozen hA0 0
        have k1 := heap_cell hA0 1 _ rfl
        have f1 := heap_frozen hA0 1
        have k2 := heap_cell hA0 2 _ rfl
        have f2 := heap_frozen hA0 2
        have k3 := heap_cell hA0 3 _ rfl
        have f3 := heap_frozen hA0 3
        have HF := Lib.hid (HMM.out.fr.trans hF1)
        clear hF1 hA0 HMM
        go_wp2_with fail
        refine bodyPost_ret (v := .tuple #[.agg #[.int .i64 0, .int .i64 0, .string ⟨#[]⟩, .slice none 0 0], .int .i64 0, .int .i64 e]) (by simp [results, Tryz.results56, go_sem, hz2, Nat.lt_succ_of_lt hz2, Nat.ne_of_lt hz2, k0, k1, k2, k3]) rfl ?_
        rw [HE.out]
        exact ⟨rfl, frAlloc (frNew (frNew (frNew (frNew HF.out (Nat.le_refl _) _ _) (Nat.le_refl _) _ _) (Nat.le_refl _) _ _) (Nat.le_refl _) _ _) _⟩
      | ok t =>
        obtain ⟨x, r', c''⟩ := t
        have HE := Lib.hid (rdN_snoc HRD.out hr)
        rw [hr] at HN
        have HNN := Lib.hid HN
        clear HN hr
        go_wp2_with fail
        refine HNN.out.mono ?_
        clear HNN
        rintro e' w2 ⟨k, nn, q, p, m, cap, rfl, hxv, hS1, hF1⟩
        have hA1 := (hF1.block _ (lt_of_heap HMM.out.a1) (by intro e; cases e; omega)).trans HMM.out.a1
        have hA0 := (hF1.block _ (lt_of_heap HMM.out.a0) (by intro e; cases e; omega)).trans HMM.out.a0
        have hz2 : B < w2.heap.size := lt_of_heap hA1
        have hz2n : B ≠ w2.heap.size := by omega
        have x3 := heap_cell hA1 3 _ rfl
        have y3 := heap_frozen hA1 3
        have hB3 : Below w2.heap.size w2 ((w2.alloc (.cells #[.int .i64 k, .int .i64 nn, .string q, .slice p m cap] 26)).alloc (.cells #[.int .i64 k, .int .i64 nn, .string q, .slice p m cap] 26)) := ((Below.refl _ _).alloc (Nat.le_refl _) _).alloc (by simp) _
        have hrow3 := (HMM.out.row.stay (.inr ⟨R, hF1, by omega⟩)).stay (.inl ⟨hB3.os, hB3.tape, hB3.output, hB3.size, fun b hb _ => hB3.block b hb⟩)
        obtain ⟨cs, hown3, hr3⟩ := id hrow3
        have hvn : ∀ g, v.ownBlock = some g → g < wr.heap.size := fun g hg => by obtain ⟨cs', ho', _⟩ := HMM.out.row; exact (ho'.lt g hg).2
        obtain ⟨i0, hi0, hz0, hzs, hzb⟩ := info_parts it_info
        have hxs : xs.length ≤ 60 := by have := cnts_length xs; omega
        have HX3 := Lib.hid (hxv.below hB3)
        have HS3 := Lib.hid (hS1.below hB3)
        have HF3 := Lib.hid ((HMM.out.fr.trans hF1).trans (Fr.below hB3))
        have HA0 := Lib.hid ((hB3.block _ (by omega)).trans hA0)
        have HA1 := Lib.hid ((hB3.block _ hz2).trans hA1)
        have HROW := Lib.hid hrow3
        have HR3 := Lib.hid hr3
        have hsW : wr.heap.size ≤ w2.heap.size := hF1.size
        have hbW : B + 1 ≤ wr.heap.size := by have := lt_of_heap HMM.out.a1; omega
        clear hxv hS1 hF1 hA0 hA1 hB3 hrow3 hr3 HMM HRD
        go_wp2_with (at_builtin; refine wpList_append_new _ rfl _ _ 24 rfl (B + 1) 26 i0 (.agg #[.int .i64 0, .int .i64 0, .string ⟨#[]⟩, .slice none 0 0]) 4 56 Tryz.underlying24 hi0 hz0 hzs hzb rfl (by decide) _ _ _ rfl hown3 ⟨w2.heap.size + 1, 0, none⟩ 1 [.int .i64 k, .int .i64 nn, .string q, .slice p m cap] rfl rfl ?c1 ?c2 ?c3 ?c4 ?c5 ?_)
        case c1 =>
          intro j' u hj'
          rw [base_add]
          rcases j' with _ | _ | _ | _ | j' <;> simp at hj'
          all_goals (subst hj'; go_simp)
        case c2 =>
          intro u hu
          simp only [List.mem_cons, List.not_mem_nil, or_false] at hu
          rcases hu with rfl | rfl | rfl | rfl <;> rfl
        case c3 => unfold maxLen; omega
        case c4 => omega
        case c5 => simp; omega
        intro v' w4 hown4 hg4 hf4
        have hne : ∀ b, b < B + 1 → some b ≠ v.ownBlock := fun b hb e => by have := (hown3.lt b e.symm).1; omega
        have hRowN := HROW.out.append (n := wr.heap.size) hbW hvn (by simp; omega) (ItV.mono HX3.out (fun b _ hb => hb)) hown3 HR3.out (v' := v') hown4 hg4 (fun g hg => by have := hf4 g hg; simpa using this)
        have hA14 := (hg4.block _ (lt_of_heap HA1.out) (hne _ (by omega))).trans HA1.out
        have hA04 := (hg4.block _ (lt_of_heap HA0.out) (hne _ (by omega))).trans HA0.out
        have hS4 := HS3.out.heap (hg4.block R HS3.out.lt (hne _ (by omega)))
        have hF4 := frGrow HF3.out hg4 (fun g hg => by have := (hown3.lt g hg).1; omega)
        obtain ⟨g4, cap4, rfl⟩ := ownsRow_pos hown4 (by omega)
        have x4 := heap_cell hA14 3 _ rfl
        have y4 := heap_frozen hA14 3
        have HM5 : LR R s (c'' : Int) w B (.slice (some ⟨g4, 0, none⟩) (xs.length + 1) cap4) (xs ++ [x]) (w4.setCell ⟨B, 3, none⟩ (.slice (some ⟨g4, 0, none⟩) (xs.length + 1) cap4)) :=
          ⟨hS4.other (b := B) (by omega) 3 _, (Below.heap_setCell _ _ _ _ (by show w.heap.size ≠ B; omega)).trans hA04, heap_set hA14 3 _, hRowN.stay (.inr ⟨B, Fr.set B 3 w4 _, by omega⟩), frNew hF4 (by omega) _ _⟩
        have HM := Lib.hid HM5
        clear HM5 hown4 hg4 hf4 hRowN hA14 hA04 hS4 hF4 hown3 x3 y3 hne hvn
        go_wp2_with fail
        go_roundw
        case rel => exact ⟨j + 1, _, _, _, _, by omega, by go_num, rfl, HE.out, HM.out⟩
        case measure => simp [intOf]; omega
    · obtain rfl : j = n := by omega
      obtain ⟨p, cap, rfl, hpc, hpm, _⟩ := hM.row.list
      have x0 := heap_cell hM.a1 0 _ rfl
      have x1 := heap_cell hM.a1 1 _ rfl
      have x2 := heap_cell hM.a1 2 _ rfl
      have x3 := heap_cell hM.a1 3 _ rfl
      have hzA := lt_of_heap hM.a1
      have k0 := heap_cell hM.a0 0 _ rfl
      have f0 := heap_frozen hM.a0 0
      have k1 := heap_cell hM.a0 1 _ rfl
      have f1 := heap_frozen hM.a0 1
      have k2 := heap_cell hM.a0 2 _ rfl
      have f2 := heap_frozen hM.a0 2
      have k3 := heap_cell hM.a0 3 _ rfl
      have f3 := heap_frozen hM.a0 3
      rw [← hpl]
      have HP := Lib.hid hpl
      clear hsf hrd hrs hrl hM hpl
      go_wp2_with fail
      refine bodyPost_ret (v := .tuple #[.agg #[.int .i64 4, .int .i64 0, .string ⟨#[]⟩, .slice p j cap], .int .i64 (pl : Int), .int .i64 0]) (by simp [results, Tryz.results56, go_sem, k0, k1, k2, k3]) rfl ?_
      rw [HRD.out]
      have e6 : ∀ (W : World) (o : Nat) (v : Value), RowM (B + 1) W (.slice p xs.length cap) xs → RowM (B + 1) (W.setCell ⟨w.heap.size, o, none⟩ v) (.slice p xs.length cap) xs := fun W o v h => h.stay (.inr ⟨w.heap.size, Fr.set w.heap.size o W v, by omega⟩)
      unfold lstT RefR
      refine ⟨4, 0, ⟨#[]⟩, p, j, cap, by rw [HP.out], ?_, ?_, ?_⟩
      · obtain ⟨p', cap', e, _, _, hits⟩ := (e6 _ 3 (.slice p j cap) (e6 _ 2 (.string ⟨#[]⟩) (e6 _ 1 (.int .i64 0) (e6 _ 0 (.int .i64 4) HMM.out.row)))).list
        simp only [Value.slice.injEq] at e
        obtain ⟨rfl, _, rfl⟩ := e
        simp only [ItV]
        exact ⟨p, cap, by rw [hxl], hpc, hpm, by simp, by decide, by decide, ItsV.mono hits (fun b _ hb => by omega)⟩
      · exact (((HMM.out.rd.other hRne _ _).other hRne _ _).other hRne _ _).other hRne _ _
      · exact frNew (frNew (frNew (frNew HMM.out.fr (Nat.le_refl _) _ _) (Nat.le_refl _) _ _) (Nat.le_refl _) _ _) (Nat.le_refl _) _ _


/-- The document's read answers what is read. -/
theorem rread_any : ∀ (f d : Nat), d + f = 7 → ∀ (R : Nat) (s : ByteArray) (i c : Nat) (w : World), RdR R s (c : Int) w → s.size ≤ 1000000 → i ≤ s.size → c ≤ 60 →
    Calls Tryz.prog 56 #[.pointer (some ⟨R, 0, none⟩), .int .i64 (i : Int), .int .i64 (d : Int)] w (RefR R s w (rd f c (s.data.toList.drop i))) := by
  intro f
  induction f with
  | zero =>
    intro d hd R s i c w hS hs hi hc
    exact rr_full R s i c d w hS hc (by omega) (.inr (by omega))
  | succ f ih =>
    intro d hd R s i c w hS hs hi hc
    by_cases h60 : 60 ≤ c
    · have e : rd (f + 1) c (s.data.toList.drop i) = .error 40 := by rw [rd, if_pos h60]
      rw [e]
      exact rr_full R s i c d w hS hc (by omega) (.inl h60)
    rcases hdecR_list s i hi with ⟨e, h1, h2, h3⟩ | ⟨m, n, k, h1, h2, hM, hN, hk⟩
    · rw [rd_herr (by omega) h1]
      exact rr_err R s i c d w hS 0 0 0 e hs (by omega) (by omega) h2 h3
    rw [rd_head (by omega) h1, List.drop_drop]
    have hm : m = 0 ∨ m = 2 ∨ m = 3 ∨ m = 4 := by unfold Maj at hM; omega
    have hcut : n ≤ s.size - (i + k) → cutR s ((i + k : Nat) : Int) (n : Int) = (s.extract (i + k) (i + k + n), 0) := fun h => by
      rw [cutR_ok (by unfold fitsB; omega)]
      rfl
    have hbad : s.size - (i + k) < n → cutR s ((i + k : Nat) : Int) (n : Int) = (⟨#[]⟩, 11) := fun h => cutR_bad (by unfold fitsB; omega)
    have hqs : (s.extract (i + k) (i + k + n)).size ≤ maxLen := by rw [ByteArray.size_extract]; unfold maxLen; omega
    rcases hm with rfl | rfl | rfl | rfl
    · rw [if_pos rfl]
      exact rr_num R s i c d w hS n _ _ hs (by omega) (by omega) h2 hN (by rw [drop_place s hk])
    · rw [if_neg (by omega), if_neg (by omega)]
      unfold dat
      by_cases h6 : 600 < n
      · rw [if_pos h6]
        exact rr_great2 R s i c d w hS n _ hs (by omega) (by omega) h2 (by omega)
      rw [if_neg h6, drop_len_ba]
      by_cases hl : s.size - (i + k) < n
      · rw [if_pos hl]
        exact rr_short2 R s i c d w hS n _ hs (by omega) (by omega) h2 (by omega) (by omega) (hbad hl)
      rw [if_neg hl, if_neg (by omega), ← extract_drop, List.drop_drop]
      exact rr_data R s i c d w hS n _ _ _ hs (by omega) (by omega) h2 (by omega) (by omega) (by omega) (by omega) (hcut (by omega)) hqs (by rw [drop_place s (by omega)]; omega)
    · rw [if_neg (by omega), if_neg (by omega)]
      unfold dat
      by_cases h6 : 600 < n
      · rw [if_pos h6]
        exact rr_great3 R s i c d w hS n _ hs (by omega) (by omega) h2 (by omega)
      rw [if_neg h6, drop_len_ba]
      by_cases hl : s.size - (i + k) < n
      · rw [if_pos hl]
        exact rr_short3 R s i c d w hS n _ hs (by omega) (by omega) h2 (by omega) (by omega) (hbad hl)
      rw [if_neg hl, ← extract_drop, List.drop_drop]
      cases ht : txtB (s.extract (i + k) (i + k + n)).data.toList with
      | true =>
        rw [if_neg (by simp)]
        exact rr_text R s i c d w hS n _ _ _ hs (by omega) (by omega) h2 (by omega) (by omega) (by omega) (by omega) (hcut (by omega)) hqs (by rw [drop_place s (by omega)]; omega) ht
      | false =>
        rw [if_pos ⟨rfl, rfl⟩]
        exact rr_textno R s i c d w hS n _ _ hs (by omega) (by omega) h2 (by omega) (by omega) (hcut (by omega)) hqs ht
    · rw [if_neg (by omega), if_pos rfl]
      have := rr_list f R s i c d w hS n (i + k) hs (by omega) (by omega) h2 hk hN (fun i c W h1 h2 h3 => by
        have := ih (d + 1) (by omega) R s i c W h1 hs h2 h3
        rw [show ((d + 1 : Nat) : Int) = (d : Int) + 1 by omega] at this
        exact this)
      unfold lstT at this
      exact this
end Go.Proofs.YtmbmolgkccjedaaGreatDoor

/- Contracts of the document's Decode and Whole of items. -/
set_option linter.unusedVariables false
set_option linter.unusedSimpArgs false
namespace Go.Proofs.YtmbmolgkccjedaaGreatDoor
open Go.RowKit

theorem rread_top (R : Nat) (s : ByteArray) (at0 : Int) (w : World) (hS : RdR R s 0 w) (hs : s.size ≤ 1000000) :
    Calls Tryz.prog 56 #[.pointer (some ⟨R, 0, none⟩), .int .i64 at0, .int .i64 1] w (RefR R s w (rdAt s at0)) := by
  unfold rdAt
  by_cases h : at0 < 0 ∨ (s.size : Int) ≤ at0
  · rw [if_pos h]
    exact rr_err R s at0 0 1 w hS 0 0 0 11 hs (by omega) (by omega) (hdecR_out h) (by decide)
  · rw [if_neg h]
    obtain ⟨i, rfl⟩ := Int.eq_ofNat_of_zero_le (show 0 ≤ at0 by omega)
    exact rread_any 6 1 (by omega) R s i 0 w hS hs (by omega) (by omega)

theorem decI_err {s : ByteArray} {at0 e : Int} (h : rdAt s at0 = .error e) : decI s at0 = (.mk 0 0 [] [], 0, e) := by unfold decI; rw [h]
theorem decI_ok {s : ByteArray} {at0 : Int} {x : Itm} {r : List UInt8} {c : Nat} (h : rdAt s at0 = .ok (x, r, c)) : decI s at0 = (x, ((s.size - r.length : Nat) : Int), 0) := by unfold decI; rw [h]

set_option maxRecDepth 100000 in
set_option maxHeartbeats 4000000 in
theorem rdecodeI_any (s : ByteArray) (at0 : Int) (w : World) (hs : s.size ≤ 1000000) :
    Calls Tryz.prog 39 #[.string s, .int .i64 at0] w fun e' w' => ∃ (k nn : Int) (q : ByteArray) (p : Option Addr) (l cap : Nat), e' = .returned (.tuple #[.agg #[.int .i64 k, .int .i64 nn, .string q, .slice p l cap], .int .i64 (decI s at0).2.1, .int .i64 (decI s at0).2.2]) ∧ ItV (fun b => w.heap.size ≤ b) w' (decI s at0).1 (.agg #[.int .i64 k, .int .i64 nn, .string q, .slice p l cap]) ∧ Below w.heap.size w w' := by
  have hB0 : Below w.heap.size w ((w.alloc (.cells #[.int .i64 0, .int .i64 0, .string ⟨#[]⟩, .slice none 0 0] 26)).alloc (.cells #[.string s, .int .i64 0] 103)) := ((Below.refl _ _).alloc (Nat.le_refl _) _).alloc (by simp) _
  have hR : ((w.alloc (.cells #[.int .i64 0, .int .i64 0, .string ⟨#[]⟩, .slice none 0 0] 26)).alloc (.cells #[.string s, .int .i64 0] 103)).heap[w.heap.size + 1]? = some (.cells #[.string s, .int .i64 0] 103 (0, 0)) := by
    have := World.alloc_heap_new (w.alloc (.cells #[.int .i64 0, .int .i64 0, .string ⟨#[]⟩, .slice none 0 0] 26)) (.cells #[.string s, .int .i64 0] 103)
    rw [show (w.alloc (.cells #[.int .i64 0, .int .i64 0, .string ⟨#[]⟩, .slice none 0 0] 26)).heap.size = w.heap.size + 1 by simp] at this
    exact this
  have hZ : ((w.alloc (.cells #[.int .i64 0, .int .i64 0, .string ⟨#[]⟩, .slice none 0 0] 26)).alloc (.cells #[.string s, .int .i64 0] 103)).heap[w.heap.size]? = some (.cells #[.int .i64 0, .int .i64 0, .string ⟨#[]⟩, .slice none 0 0] 26 (0, 0)) := (Below.heap_alloc _ _ _ (by simp)).trans (World.alloc_heap_new w _)
  have HC := Lib.hid (rread_top (w.heap.size + 1) s at0 _ (RdR.of_heap hR) hs)
  have hW0 : ((w.alloc (.cells #[.int .i64 0, .int .i64 0, .string ⟨#[]⟩, .slice none 0 0] 26)).alloc (.cells #[.string s, .int .i64 0] 103)).heap.size = w.heap.size + 1 + 1 := by simp
  have HB0 := Lib.hid hB0
  have HZ := Lib.hid hZ
  have hE : ∃ t, rdAt s at0 = t := ⟨_, rfl⟩
  obtain ⟨t, hE⟩ := hE
  rw [hE] at HC
  clear hB0 hR hZ
  cases t with
  | error e =>
    rw [decI_err hE]
    clear hE
    go_enter Tryz.func39, Tryz.ntmps39
    go_wp2_with fail
    refine HC.out.mono ?_
    clear HC
    rintro e' w1 ⟨rfl, hF1⟩
    have hB1 := HB0.out.trans ((hF1.toBelow (by omega)).mono (by omega))
    have hZ1 := (hF1.block _ (lt_of_heap HZ.out) (by simp)).trans HZ.out
    have hz1 : w.heap.size < w1.heap.size := lt_of_heap hZ1
    have k0 := heap_cell hZ1 0 _ rfl
    have f0 := heap_frozen hZ1 0
    have k1 := heap_cell hZ1 1 _ rfl
    have f1 := heap_frozen hZ1 1
    have k2 := heap_cell hZ1 2 _ rfl
    have f2 := heap_frozen hZ1 2
    have k3 := heap_cell hZ1 3 _ rfl
    have f3 := heap_frozen hZ1 3
    have HB1 := Lib.hid hB1
    clear hB1 hZ1 hF1 HB0 HZ hW0
    go_wp2_with fail
    refine bodyPost_ret (v := .tuple #[.agg #[.int .i64 0, .int .i64 0, .string ⟨#[]⟩, .slice none 0 0], .int .i64 0, .int .i64 e]) (by simp [results, Tryz.results39, go_sem, k0, k1, k2, k3]) rfl ⟨0, 0, ⟨#[]⟩, none, 0, 0, rfl, ItV.zero, ?_⟩
    exact ((((HB1.out.setCell (by simp) _).setCell (by simp) _).setCell (by simp) _).setCell (by simp) _)
  | ok t =>
    obtain ⟨x, r, c'⟩ := t
    rw [decI_ok hE]
    clear hE
    go_enter Tryz.func39, Tryz.ntmps39
    go_wp2_with fail
    refine HC.out.mono ?_
    clear HC
    rintro e' w1 ⟨k, nn, q, p, l, cap, rfl, hx, hS1, hF1⟩
    have hB1 := HB0.out.trans ((hF1.toBelow (by omega)).mono (by omega))
    have hZ1 := (hF1.block _ (lt_of_heap HZ.out) (by simp)).trans HZ.out
    have hz1 : w.heap.size < w1.heap.size := lt_of_heap hZ1
    have hx1 : ItV (fun b => w.heap.size + 1 + 1 ≤ b) w1 x (.agg #[.int .i64 k, .int .i64 nn, .string q, .slice p l cap]) := by rw [hW0] at hx; exact hx
    have HX := Lib.hid hx1
    have k0 := heap_cell hZ1 0 _ rfl
    have f0 := heap_frozen hZ1 0
    have k1 := heap_cell hZ1 1 _ rfl
    have f1 := heap_frozen hZ1 1
    have k2 := heap_cell hZ1 2 _ rfl
    have f2 := heap_frozen hZ1 2
    have k3 := heap_cell hZ1 3 _ rfl
    have f3 := heap_frozen hZ1 3
    have HB1 := Lib.hid hB1
    clear hB1 hZ1 hF1 HB0 HZ hW0 hx hx1 hS1
    go_wp2_with fail
    refine bodyPost_ret (v := .tuple #[.agg #[.int .i64 k, .int .i64 nn, .string q, .slice p l cap], .int .i64 ((s.size - r.length : Nat) : Int), .int .i64 0]) (by simp [results, Tryz.results39, go_sem, k0, k1, k2, k3]) rfl ⟨k, nn, q, p, l, cap, rfl, ?_, ?_⟩
    · refine ItV.keep (fun a v hb e => ⟨?_, by omega⟩) x _ HX.out
      have hne : a.block ≠ w.heap.size := by omega
      exact ((cell_heap (Below.heap_setCell _ _ _ _ hne)).trans ((cell_heap (Below.heap_setCell _ _ _ _ hne)).trans ((cell_heap (Below.heap_setCell _ _ _ _ hne)).trans ((cell_heap (Below.heap_setCell _ _ _ _ hne)).trans e))))
    · exact ((((HB1.out.setCell (by simp) _).setCell (by simp) _).setCell (by simp) _).setCell (by simp) _)

/-- The whole, by what is decoded. -/
theorem wholeI_dec (s : ByteArray) : wholeI s = if (decI s 0).2.2 = 0 ∧ (decI s 0).2.1 ≠ (s.size : Int) then (.mk 0 0 [] [], 20) else ((decI s 0).1, (decI s 0).2.2) := by
  have hne := @rdAt_err_ne s 0
  have hok := @rdAt_ok s 0
  unfold wholeI decI
  cases h : rdAt s 0 with
  | error e => simp only; rw [if_neg (fun h' => hne h h'.1)]
  | ok t =>
    obtain ⟨x, r, c⟩ := t
    obtain ⟨i, hi0, hi1, hrl, _⟩ := hok h
    simp only
    by_cases h0 : r.length = 0
    · rw [if_pos h0, if_neg (by omega)]
    · rw [if_neg h0, if_pos ⟨trivial, by omega⟩]
theorem decI_bad (s : ByteArray) (at0 : Int) (h : (decI s at0).2.2 ≠ 0) : (decI s at0).1 = .mk 0 0 [] [] ∧ (decI s at0).2.1 = 0 := by
  unfold decI at h ⊢
  cases hr : rdAt s at0 with
  | error e => exact ⟨rfl, rfl⟩
  | ok t => obtain ⟨x, r, c⟩ := t; rw [hr] at h; exact absurd rfl h

end Go.Proofs.YtmbmolgkccjedaaGreatDoor

/- What shown, cut and Cut, of the statements' package 04, answer; boxes of items. -/
set_option linter.unusedVariables false
set_option linter.unusedSimpArgs false
namespace Go.Proofs.YtmbmolgkccjedaaGreatDoor
open Go.RowKit

theorem cut_leI (s : ByteArray) : (s.extract 0 (min s.size 700)).size ≤ 700 := by rw [ByteArray.size_extract]; omega

/-- The four cells of a box, written anew. -/
theorem box4 {W : World} {B : Nat} {a b c d : Value} {t : TypeId} (h : W.heap[B]? = some (.cells #[a, b, c, d] t (0, 0))) (v0 v1 v2 v3 : Value) : ((((W.setCell ⟨B, 0, none⟩ v0).setCell ⟨B, 1, none⟩ v1).setCell ⟨B, 2, none⟩ v2).setCell ⟨B, 3, none⟩ v3).heap[B]? = some (.cells #[v0, v1, v2, v3] t (0, 0)) := by
  have := heap_set (heap_set (heap_set (heap_set h 0 v0) 1 v1) 2 v2) 3 v3
  simpa using this
theorem box4_other {W : World} {B b : Nat} (h : b ≠ B) (v0 v1 v2 v3 : Value) : ((((W.setCell ⟨B, 0, none⟩ v0).setCell ⟨B, 1, none⟩ v1).setCell ⟨B, 2, none⟩ v2).setCell ⟨B, 3, none⟩ v3).heap[b]? = W.heap[b]? :=
  (Below.heap_setCell _ _ _ _ h).trans ((Below.heap_setCell _ _ _ _ h).trans ((Below.heap_setCell _ _ _ _ h).trans (Below.heap_setCell _ _ _ _ h)))
theorem ItV.set4 {ok : Nat → Prop} {W : World} {B : Nat} {x : Itm} {v : Value} (h : ItV ok W x v) (hB : ¬ ok B) (v0 v1 v2 v3 : Value) : ItV ok ((((W.setCell ⟨B, 0, none⟩ v0).setCell ⟨B, 1, none⟩ v1).setCell ⟨B, 2, none⟩ v2).setCell ⟨B, 3, none⟩ v3) x v :=
  ItV.keep (fun a v hb e => ⟨(cell_heap (box4_other (fun e' => hB (by rw [← e']; exact hb)) _ _ _ _)).trans e, hb⟩) x v h
theorem below_set4 {n B : Nat} {w W : World} (h : Below n w W) (hB : n ≤ B) (v0 v1 v2 v3 : Value) : Below n w ((((W.setCell ⟨B, 0, none⟩ v0).setCell ⟨B, 1, none⟩ v1).setCell ⟨B, 2, none⟩ v2).setCell ⟨B, 3, none⟩ v3) :=
  (((h.setCell hB _).setCell hB _).setCell hB _).setCell hB _

set_option maxRecDepth 100000 in
set_option maxHeartbeats 1000000 in
theorem lawCutI_any (ok : Nat → Prop) (x : Itm) (v : Value) (w : World) (hx : ItV ok w x v) :
    Calls Tryz.prog 10 #[v] w (CutR (cutI 6 x) w) := by
  cases x with
  | mk k n s l =>
    have hx' := hx
    simp only [ItV] at hx'
    obtain ⟨p, cap, rfl, _⟩ := hx'
    have hB0 : Below w.heap.size w ((w.alloc (.cells #[.int .i64 k, .int .i64 n, .string ⟨s.toArray⟩, .slice p l.length cap] 26)).alloc (.cells #[.int .i64 0, .int .i64 0, .string ⟨#[]⟩, .slice none 0 0] 26)) := ((Below.refl _ _).alloc (Nat.le_refl _) _).alloc (by simp) _
    have hZ : ((w.alloc (.cells #[.int .i64 k, .int .i64 n, .string ⟨s.toArray⟩, .slice p l.length cap] 26)).alloc (.cells #[.int .i64 0, .int .i64 0, .string ⟨#[]⟩, .slice none 0 0] 26)).heap[w.heap.size + 1]? = some (.cells #[.int .i64 0, .int .i64 0, .string ⟨#[]⟩, .slice none 0 0] 26 (0, 0)) := by
      have := World.alloc_heap_new (w.alloc (.cells #[.int .i64 k, .int .i64 n, .string ⟨s.toArray⟩, .slice p l.length cap] 26)) (.cells #[.int .i64 0, .int .i64 0, .string ⟨#[]⟩, .slice none 0 0] 26)
      rw [show (w.alloc (.cells #[.int .i64 k, .int .i64 n, .string ⟨s.toArray⟩, .slice p l.length cap] 26)).heap.size = w.heap.size + 1 by simp] at this
      exact this
    have HC := Lib.hid (cutAt_any ok 6 (by omega) _ _ _ (hx.below hB0))
    have HZ := Lib.hid hZ
    have HB0 := Lib.hid hB0
    have hsz : ((w.alloc (.cells #[.int .i64 k, .int .i64 n, .string ⟨s.toArray⟩, .slice p l.length cap] 26)).alloc (.cells #[.int .i64 0, .int .i64 0, .string ⟨#[]⟩, .slice none 0 0] 26)).heap.size = w.heap.size + 1 + 1 := by simp
    clear hx hB0 hZ
    generalize cutI 6 (.mk k n s l) = y at *
    obtain ⟨len, hlen⟩ : ∃ len, l.length = len := ⟨_, rfl⟩
    rw [hlen] at HC HZ HB0 hsz ⊢
    clear hlen
    go_enter Tryz.func10, Tryz.ntmps10
    go_wp2_with fail
    refine HC.out.mono ?_
    clear HC
    rintro e' w1 ⟨k', nn, q, p', l', cap', rfl, hxv, hb1⟩
    have hZ1 := (hb1.block _ (lt_of_heap HZ.out)).trans HZ.out
    have k0 := heap_cell hZ1 0 _ rfl
    have f0 := heap_frozen hZ1 0
    have k1 := heap_cell hZ1 1 _ rfl
    have f1 := heap_frozen hZ1 1
    have k2 := heap_cell hZ1 2 _ rfl
    have f2 := heap_frozen hZ1 2
    have k3 := heap_cell hZ1 3 _ rfl
    have f3 := heap_frozen hZ1 3
    have HXV := Lib.hid hxv
    have HB1 := Lib.hid (HB0.out.trans (hb1.mono HB0.out.size))
    clear hxv hb1 hZ1 HZ HB0
    go_wp2_with fail
    refine bodyPost_ret (v := .agg #[.int .i64 k', .int .i64 nn, .string q, .slice p' l' cap']) (by simp [results, Tryz.results10, go_sem, k0, k1, k2, k3]) rfl ⟨k', nn, q, p', l', cap', rfl, ?_, ?_⟩
    · exact ItV.mono (HXV.out.set4 (B := w.heap.size + 1) (by omega) _ _ _ _) (fun b _ hb => by omega)
    · exact below_set4 HB1.out (by omega) _ _ _ _

def shItm : Itm := .mk 4 0 [] [.mk 0 1 [] [], .mk 3 0 [47, 47, 97, 47, 98] []]

end Go.Proofs.YtmbmolgkccjedaaGreatDoor

/- A text is an item just if one is decoded from its beginning up to its end: the walk of ItemWhole. -/
set_option linter.unusedVariables false
set_option linter.unusedSimpArgs false
namespace Go.Proofs.YtmbmolgkccjedaaGreatDoor
open Go.RowKit

theorem env2 {w W : World} (hH : HeadOK w) (hE : EnvE w) (h : Below w.heap.size w W) : HeadOK W ∧ EnvE W := ⟨hH.below h, hE.below h⟩
end Go.Proofs.YtmbmolgkccjedaaGreatDoor

/- Two right items have the same bytes just if they are the same: the walk of ItemApart. -/
set_option linter.unusedVariables false
set_option linter.unusedSimpArgs false
namespace Go.Proofs.YtmbmolgkccjedaaGreatDoor
open Go.RowKit

/-- A cut item is seven deep at most. -/
theorem dep_cut : ∀ (f : Nat) (x : Itm), dep (cutI f x) ≤ f + 1
  | 0, .mk k n s l => by simp [cutI, dep, deps]
  | f + 1, .mk k n s l => by
    simp only [cutI, dep]
    have : ∀ l : List Itm, deps (l.map (cutI f)) ≤ f + 1 := by
      intro l
      induction l with
      | nil => simp [deps]
      | cons y r ih => simp only [List.map_cons, deps]; have := dep_cut f y; omega
    have := this (l.take 62)
    omega
theorem dep_cut6 (x : Itm) : dep (cutI 6 x) ≤ 900 := Nat.le_trans (dep_cut 6 x) (by decide)
/-- What Encode answers, by its ways. -/
theorem iencB_cases (x : Itm) : (rightI x = false ∧ iencB x = (⟨#[]⟩, 40)) ∨ (rightI x = true ∧ iencB x = (⟨(encI x).toArray⟩, 0)) := by
  cases h : rightI x with
  | false => exact .inl ⟨rfl, iencB_bad h⟩
  | true => exact .inr ⟨rfl, iencB_ok h⟩
/-- An item that came in, and its cut. -/
theorem cut_in {x : Itm} {v : Value} {w : World} (hx : ItV (fun _ => True) w x v) : ∃ (k n : Int) (q : ByteArray) (p : Option Addr) (len cap : Nat), v = .agg #[.int .i64 k, .int .i64 n, .string q, .slice p len cap] ∧ ∀ W, Below w.heap.size w W → Calls Tryz.prog 10 #[.agg #[.int .i64 k, .int .i64 n, .string q, .slice p len cap]] W (CutR (cutI 6 x) W) := by
  cases x with
  | mk k n s l =>
    have hx' := hx
    simp only [ItV] at hx'
    obtain ⟨p, cap, rfl, _⟩ := hx'
    exact ⟨k, n, _, p, l.length, cap, rfl, fun W hW => lawCutI_any _ _ _ _ (hx.below hW)⟩

end Go.Proofs.YtmbmolgkccjedaaGreatDoor

/- A beginning of an item's bytes that is not all of them is no item: the walk of ItemCuts. -/
set_option linter.unusedVariables false
set_option linter.unusedSimpArgs false
namespace Go.Proofs.YtmbmolgkccjedaaGreatDoor
open Go.RowKit

theorem list_size (l : List UInt8) : (⟨l.toArray⟩ : ByteArray).size = l.length := by show l.toArray.size = _; simp
/-- A right item's bytes are not many. -/
theorem enc_small {x : Itm} (h : rightI x = true) : (encI x).length ≤ 36540 := by
  obtain ⟨h1, _, h3⟩ := (rightI_iff x).1 h
  have := enc_len x h1
  omega
theorem iencB_small (x : Itm) : (iencB x).1.size ≤ 36540 := by
  rcases iencB_cases x with ⟨_, e⟩ | ⟨r, e⟩
  · rw [e]; exact Nat.zero_le _
  · rw [e]; show (⟨(encI x).toArray⟩ : ByteArray).size ≤ _; rw [list_size]; exact enc_small r
theorem rdAt_of_ok {s : ByteArray} {i : Nat} {x : Itm} {r : List UInt8} (hi : i < s.size) (h : irdR (s.data.toList.drop i) = .ok (x, r)) : ∃ c, rdAt s (i : Int) = .ok (x, r, c) := by
  unfold rdAt
  rw [if_neg (by omega), Int.toNat_natCast]
  unfold irdR at h
  cases hr : rd 6 0 (s.data.toList.drop i) with
  | error e => rw [hr] at h; cases h
  | ok t =>
    obtain ⟨y, r', c⟩ := t
    rw [hr] at h
    simp only [Except.ok.injEq, Prod.mk.injEq] at h
    obtain ⟨rfl, rfl⟩ := h
    exact ⟨c, rfl⟩
theorem rdAt_of_err {s : ByteArray} {i : Nat} {e : Int} (hi : i < s.size) (h : irdR (s.data.toList.drop i) = .error e) : rdAt s (i : Int) = .error e := by
  unfold rdAt
  rw [if_neg (by omega), Int.toNat_natCast]
  unfold irdR at h
  cases hr : rd 6 0 (s.data.toList.drop i) with
  | error e' => rw [hr] at h; simp only [Except.error.injEq] at h ⊢; exact h
  | ok t => obtain ⟨y, r', c⟩ := t; rw [hr] at h; cases h
/-- A beginning of an item's bytes. -/
theorem decI_cut {x : Itm} (h : rightI x = true) {j : Nat} (hj : j < (encI x).length) : decI ((⟨(encI x).toArray⟩ : ByteArray).extract 0 j) 0 = (.mk 0 0 [] [], 0, 11) := by
  refine decI_err ?_
  have e : ((⟨(encI x).toArray⟩ : ByteArray).extract 0 j).data.toList = (encI x).take j := by
    have := extract_drop (⟨(encI x).toArray⟩ : ByteArray) 0 j
    rw [Nat.zero_add] at this
    rw [this]
    rfl
  by_cases h0 : j = 0
  · unfold rdAt
    rw [if_pos (.inr (by subst h0; rw [ByteArray.size_extract]; simp))]
  · have hz : 0 < ((⟨(encI x).toArray⟩ : ByteArray).extract 0 j).size := by rw [ByteArray.size_extract, list_size]; omega
    exact rdAt_of_err (i := 0) hz (by rw [e]; exact irdR_cut h hj)
/-- An item's bytes, and one more. -/
theorem wholeI_more {x : Itm} (h : rightI x = true) (b : UInt8) : wholeI (⟨(encI x).toArray⟩ ++ ⟨#[b]⟩) = (.mk 0 0 [] [], 20) := by
  have e : ((⟨(encI x).toArray⟩ : ByteArray) ++ ⟨#[b]⟩).data.toList.drop 0 = encI x ++ [b] := by
    rw [ByteArray.data_append, Array.toList_append, List.drop_zero]
  have hz : 0 < ((⟨(encI x).toArray⟩ : ByteArray) ++ ⟨#[b]⟩).size := by
    rw [ByteArray.size_append, list_size]
    have : (⟨#[b]⟩ : ByteArray).size = 1 := rfl
    omega
  obtain ⟨c, hc⟩ := rdAt_of_ok (i := 0) (x := x) (r := [b]) hz (by rw [e]; exact irdR_enc h [b])
  unfold wholeI
  rw [show ((0 : Nat) : Int) = 0 from rfl] at hc
  rw [hc]
  rfl

end Go.Proofs.YtmbmolgkccjedaaGreatDoor

/- All that is in a right item is right: the walk of ItemParts. -/
set_option linter.unusedVariables false
set_option linter.unusedSimpArgs false
namespace Go.Proofs.YtmbmolgkccjedaaGreatDoor
open Go.RowKit

end Go.Proofs.YtmbmolgkccjedaaGreatDoor

/- An item is decoded from its bytes, whatever stands ahead and behind, and what is decoded has just these bytes: the walk of ItemBack. -/
set_option linter.unusedVariables false
set_option linter.unusedSimpArgs false
namespace Go.Proofs.YtmbmolgkccjedaaGreatDoor
open Go.RowKit

theorem decI_dep (s : ByteArray) (at0 : Int) : dep (decI s at0).1 ≤ 900 := by
  unfold decI
  cases h : rdAt s at0 with
  | error e => show dep (.mk 0 0 [] []) ≤ 900; decide
  | ok t =>
    obtain ⟨x, r, c⟩ := t
    obtain ⟨i, _, _, _, hi⟩ := rdAt_ok h
    have := ((rightI_iff x).1 (irdR_back hi).1).2.1
    show dep x ≤ 900
    omega
/-- An item's bytes, with bytes ahead and behind. -/
theorem decI_mid {x : Itm} (h : rightI x = true) (q r : ByteArray) : decI (q ++ ⟨(encI x).toArray⟩ ++ r) (q.size : Int) = (x, (q.size : Int) + ((⟨(encI x).toArray⟩ : ByteArray).size : Int), 0) := by
  have e : (q ++ ⟨(encI x).toArray⟩ ++ r).data.toList.drop q.size = encI x ++ r.data.toList := by
    rw [ByteArray.data_append, ByteArray.data_append, Array.toList_append, Array.toList_append, List.append_assoc, List.drop_append_of_le_length (by rw [Array.length_toList]; exact Nat.le_refl _), List.drop_of_length_le (by rw [Array.length_toList]; exact Nat.le_refl _)]
    simp
  have hl := encI_cons x
  have hz : (q ++ ⟨(encI x).toArray⟩ ++ r).size = q.size + (encI x).length + r.size := by rw [ByteArray.size_append, ByteArray.size_append, list_size (encI x)]
  obtain ⟨c, hc⟩ := rdAt_of_ok (s := q ++ ⟨(encI x).toArray⟩ ++ r) (i := q.size) (x := x) (r := r.data.toList) (by omega) (by rw [e]; exact irdR_enc h _)
  have hrl : r.data.toList.length = r.size := by rw [Array.length_toList]; rfl
  rw [decI_ok hc, hz, hrl, list_size (encI x)]
  simp only [Prod.mk.injEq, true_and, and_true]
  omega

end Go.Proofs.YtmbmolgkccjedaaGreatDoor
