/- The document's Scan, Lay and Same of layer 17. -/
import Derived.Test.YtdlkmdjhjdpmeaaGreatDoorFRefD
set_option linter.unusedVariables false
set_option linter.unusedSimpArgs false
namespace Go.Proofs.YtdlkmdjhjdpmeaaGreatDoor
open Go.RowKit

/-- What memory holds while the document's Scan goes on. -/
structure RSt (s : ByteArray) (Q : Nat) (w0 : World) (v : Value) (a b : Value) (c : Value) (W : World) : Prop where
  st : ∃ (l : List Rc) (n : Nat), SoFar s l n ∧ W.ownsRow (Q + 1) 23 3 v l.length (rcsL l) ∧ a = .int .i64 (n : Int) ∧ b = .int .i64 (decR s n).2.1 ∧ c = .bool (decR s n).2.2 ∧ l.length ≤ n ∧
    Blk W Q 23 #[.int .i64 (decR s n).1.op, .int .i64 (decR s n).1.id, .string (decR s n).1.data]
  below : Below w0.heap.size w0 W

set_option maxRecDepth 100000 in
set_option maxHeartbeats 4000000 in
theorem rscan_any (s : ByteArray) (w : World) (hs : s.size ≤ 1000000) :
    Calls Tryz.prog 22 #[.string s] w (ScanR s w) := by
  obtain ⟨i0, hi, hz0, hz1, hz2⟩ := info_parts rec_info
  go_enter Tryz.func22, Tryz.ntmps22
  go_wp2_with fail
  refine (rdecode_any s 0 _ hs (by omega)).mono ?_
  rintro e w1 ⟨rfl, hb1⟩
  obtain ⟨q, hq⟩ : ∃ q, decR s 0 = q := ⟨_, rfl⟩
  have HQ := Lib.hid hq
  simp only [hq]
  clear hq
  go_wp2
  have hst : RSt s w1.heap.size w (.slice none 0 0) (.int .i64 0) (.int .i64 q.2.1) (.bool q.2.2) (w1.alloc (.cells #[.int .i64 q.1.op, .int .i64 q.1.id, .string q.1.data] 23)) := by
    refine ⟨⟨[], 0, SoFar.nil s, World.ownsRow_nil _ _ _ _, rfl, ?_, ?_, Nat.le_refl _, ?_⟩, hb1.alloc hb1.size _⟩
    · rw [← HQ.out]; rfl
    · rw [← HQ.out]; rfl
    · rw [← HQ.out]; exact Blk.new w1 _ _
  have hz1' : w.heap.size ≤ w1.heap.size := hb1.size
  generalize w1.alloc (.cells #[.int .i64 q.1.op, .int .i64 q.1.id, .string q.1.data] 23) = w2 at *
  have HST := Lib.hid hst
  clear hst hb1
  go_loopw [4, 5, 7, 8] (fun v a b c wr => RSt s w1.heap.size w v a b c wr) (fun _ a _ _ _ => s.size - (intOf a).toNat)
  case atStart => exact HST.out
  case round =>
    obtain ⟨⟨l, n, hso, hrow, rfl, rfl, rfl, hln, hq⟩, hB⟩ := hrel
    clear HST
    cases hd : decO s n with
    | none =>
      rw [decR_none hd]
      have HSC := Lib.hid (show ScanOf s l n from ⟨hso, hd⟩)
      have HOWN := Lib.hid (rcsOwn_of hrow)
      have HB := Lib.hid hB
      clear hso hrow hB hq hd
      go_wp2
      go_ret2
      exact ⟨l, n, u4, HSC.out, rfl, HOWN.out, HB.out⟩
    | some r =>
      have hf := decO_some.1 hd
      have hsz := hf.size
      rw [decR_some hd] at hq ⊢
      obtain ⟨op, id, data⟩ := r
      simp only at hq hsz ⊢
      have HSN := Lib.hid (hso.snoc hf)
      obtain ⟨m, hm⟩ : ∃ m : Nat, n + 14 + data.size = m := ⟨_, rfl⟩
      have hmi : (n : Int) + 14 + (data.size : Int) = (m : Int) := by omega
      simp only [hmi]
      have HM := Lib.hid hm
      have q0 : wr.cell? ⟨w1.heap.size, 0, none⟩ = some (.int .i64 op) := hq.cell 0
      have q1 : wr.cell? ⟨w1.heap.size, 1, none⟩ = some (.int .i64 id) := hq.cell 1
      have q2 : wr.cell? ⟨w1.heap.size, 2, none⟩ = some (.string data) := hq.cell 2
      have hwz : w.heap.size ≤ wr.heap.size := hB.size
      have HR3 := Lib.hid (hrow.alloc (.cells #[.int .i64 op, .int .i64 id, .string data] 23))
      have HB := Lib.hid hB
      have HQ2 := Lib.hid hq
      have hqz := hq.lt
      have hms : m ≤ s.size := by omega
      have hnm : n < m := by omega
      clear hso hrow hB hd hf hq hm hmi
      go_wp2_with (at_builtin; refine wpList_append_own _ rfl _ _ 25 rfl (w1.heap.size + 1) 23 i0 (.agg #[.int .i64 0, .int .i64 0, .string ⟨#[]⟩]) 3 32 Tryz.underlying25 hi hz0 hz1 hz2 rfl (by decide) _ _ _ rfl HR3.out ⟨wr.heap.size, 0, none⟩ 1 1 (rcL ⟨op, id, data⟩) rfl rfl (news_rec wr op id data) (rcL_one _) (by unfold maxLen; omega) (by omega) (by simp; omega) ?_; intro v' w3 hown' hgrow _)
      have hA : Below wr.heap.size wr (wr.alloc (.cells #[.int .i64 op, .int .i64 id, .string data] 23)) := (Below.refl _ _).alloc (Nat.le_refl _) _
      have hrw : ∀ g, u4.ownBlock = some g → w1.heap.size + 1 ≤ g := fun g e => ownBaseR HR3.out g e
      have hq3 : Blk w3 w1.heap.size 23 #[.int .i64 op, .int .i64 id, .string data] := by
        have h1 := HQ2.out.here hA
        exact (hgrow.block w1.heap.size h1.lt (fun e => by have := hrw _ e.symm; omega)).trans h1
      have hb3 : Below w.heap.size w w3 := (HB.out.trans (hA.mono hwz)).grown hgrow (by simp; omega) (fun g e => by have := hrw _ e; omega)
      have HO3 := Lib.hid hown'
      have HB3 := Lib.hid hb3
      have hb3z := hb3.size
      clear hgrow hown' q0 q1 q2 HR3 hA hrw hb3
      refine (rdecode_any s (m : Int) _ hs (by omega)).mono ?_
      rintro e w4 ⟨rfl, hb4⟩
      obtain ⟨q', hq'⟩ : ∃ q', decR s (m : Int) = q' := ⟨_, rfl⟩
      have HQ' := Lib.hid hq'
      simp only [hq']
      have hq4 := hq3.here hb4
      have k0 : w4.cell? ⟨w1.heap.size, 0, none⟩ = some (.int .i64 op) := hq4.cell 0
      have k1 : w4.cell? ⟨w1.heap.size, 1, none⟩ = some (.int .i64 id) := hq4.cell 1
      have k2 : w4.cell? ⟨w1.heap.size, 2, none⟩ = some (.string data) := hq4.cell 2
      have f0 := hq4.frozen 0
      have f1 := hq4.frozen 1
      have f2 := hq4.frozen 2
      have HQ4 := Lib.hid hq4
      have HO4 := Lib.hid (ownsRow_belowR HO3.out hb4)
      have HB4 := Lib.hid (HB3.out.trans (hb4.mono HB3.out.size))
      clear hq' hb4 hq3 hq4 HO3
      go_wp2
      go_roundw
      case rel =>
        have hset := HQ4.out.set3 (.int .i64 q'.1.op) (.int .i64 q'.1.id) (.string q'.1.data)
        refine ⟨⟨l ++ [⟨op, id, data⟩], m, ?_, ?_, rfl, by rw [HQ'.out], by rw [HQ'.out], by rw [List.length_append]; simp; omega, by rw [HQ'.out]; exact hset⟩, ((HB4.out.setCell (p := ⟨w1.heap.size, 0, none⟩) hz1' _).setCell (p := ⟨w1.heap.size, 1, none⟩) hz1' _).setCell (p := ⟨w1.heap.size, 2, none⟩) hz1' _⟩
        · have := HSN.out
          rwa [HM.out] at this
        · rw [List.length_append, rcsL_snoc]
          refine ⟨HO4.out.1, HO4.out.2.imp (fun h => h) fun ⟨g, cap, cur, x1, x2, x3, x4⟩ => ⟨g, cap, cur, x1, x2, ?_, x4⟩⟩
          exact ((Blk.far (p := ⟨w1.heap.size, 0, none⟩) x3 (by simp; omega) _).far (p := ⟨w1.heap.size, 1, none⟩) (by simp; omega) _).far (p := ⟨w1.heap.size, 2, none⟩) (by simp; omega) _
      case measure => simp [intOf]; omega

/-- Are two records the same? -/
def rcE (r q : Rc) : Bool := decide (r.op = q.op ∧ r.id = q.id ∧ r.data.toList = q.data.toList)
theorem rcE_iff {r q : Rc} : rcE r q = true ↔ r = q := by
  unfold rcE
  rw [decide_eq_true_eq]
  constructor
  · rintro ⟨h1, h2, h3⟩
    obtain ⟨a, b, c⟩ := r
    obtain ⟨a', b', c'⟩ := q
    simp only at h1 h2 h3
    rw [ByteArray.toList_eq, ByteArray.toList_eq] at h3
    rw [h1, h2, ba_eq h3]
  · rintro rfl; exact ⟨rfl, rfl, rfl⟩
theorem rc_eql (r q : Rc) (w : World) : (binOp .eql 23 (.agg #[.int .i64 r.op, .int .i64 r.id, .string r.data]) (.agg #[.int .i64 q.op, .int .i64 q.id, .string q.data])).run Tryz.prog w = .ok (.bool (rcE r q)) w := by
  unfold rcE
  by_cases h1 : r.op = q.op <;> by_cases h2 : r.id = q.id <;> by_cases h3 : r.data.toList = q.data.toList <;> go_simp <;> simp [h1, h2, h3]
theorem rc_neq (r q : Rc) (w : World) : (binOp .neq 23 (.agg #[.int .i64 r.op, .int .i64 r.id, .string r.data]) (.agg #[.int .i64 q.op, .int .i64 q.id, .string q.data])).run Tryz.prog w = .ok (.bool (!rcE r q)) w := by
  unfold rcE
  by_cases h1 : r.op = q.op <;> by_cases h2 : r.id = q.id <;> by_cases h3 : r.data.toList = q.data.toList <;> go_simp <;> simp [h1, h2, h3]
/-- Are two lists the same? -/
def sameR : List Rc → List Rc → Bool
  | [], [] => true
  | r :: l, q :: m => rcE r q && sameR l m
  | _, _ => false
theorem sameR_iff : ∀ {l m : List Rc}, sameR l m = true ↔ l = m
  | [], [] => by simp [sameR]
  | [], _ :: _ => by simp [sameR]
  | _ :: _, [] => by simp [sameR]
  | r :: l, q :: m => by simp only [sameR, Bool.and_eq_true, rcE_iff, sameR_iff, List.cons.injEq]
theorem sameR_self (l : List Rc) : sameR l l = true := sameR_iff.2 rfl
theorem sameR_at {l m : List Rc} (hlen : l.length = m.length) {k : Nat} {r q : Rc} (h1 : l[k]? = some r) (h2 : m[k]? = some q) (hne : rcE r q = false) : sameR l m = false := by
  cases h : sameR l m with
  | false => rfl
  | true =>
    rw [sameR_iff] at h
    subst h
    rw [h1] at h2
    cases h2
    rw [rcE_iff.2 rfl] at hne
    cases hne
theorem sameR_all {l m : List Rc} (hlen : l.length = m.length) (h : ∀ (k : Nat) r q, l[k]? = some r → m[k]? = some q → rcE r q = true) : sameR l m = true := by
  rw [sameR_iff]
  apply List.ext_getElem? 
  intro k
  rcases Nat.lt_or_ge k l.length with hk | hk
  · have h1 := List.getElem?_eq_getElem hk
    have h2 := List.getElem?_eq_getElem (l := m) (i := k) (by omega)
    rw [h1, h2]
    congr 1
    exact rcE_iff.1 (h k _ _ h1 h2)
  · rw [List.getElem?_eq_none hk, List.getElem?_eq_none (by omega)]

set_option maxRecDepth 100000 in
set_option maxHeartbeats 2000000 in
theorem rsame_any (n n' : Nat) (v v' : Value) (l m : List Rc) (w : World) (h : RcsOwn n w v l) (h' : RcsOwn n' w v' m) (hl : l.length ≤ 1000000) (hm : m.length ≤ 1000000) :
    Calls Tryz.prog 23 #[v, v'] w fun e w' => e = .returned (.bool (sameR l m)) ∧ Below w.heap.size w w' := by
  obtain ⟨A, c, rfl, hc, hr⟩ := h
  obtain ⟨A', c', rfl, hc', hr'⟩ := h'
  have HR := Lib.hid hr
  have HR' := Lib.hid hr'
  clear hr hr'
  by_cases hlen : l.length = m.length
  · have hb : ((l.length : Int) != (m.length : Int)) = false := by simp [hlen]
    have HL := Lib.hid hlen
    have hle : m.length ≤ l.length := by omega
    have hle2 : l.length ≤ m.length := by omega
    clear hlen
    go_enter Tryz.func23, Tryz.ntmps23
    go_wp2
    go_loopw [5] (fun i wr => ∃ k : Nat, k ≤ l.length ∧ i = .int .i64 (k : Int) ∧ (∀ (j : Nat) r q, j < k → l[j]? = some r → m[j]? = some q → rcE r q = true) ∧ Below w.heap.size w wr) (fun i _ => l.length - (intOf i).toNat)
    case atStart => exact ⟨0, Nat.zero_le _, rfl, fun j _ _ hj => absurd hj (Nat.not_lt_zero _), Below.refl _ _⟩
    case round =>
      obtain ⟨k, hk, rfl, hg, hB⟩ := hrel
      have HG := Lib.hid hg
      have HB := Lib.hid hB
      clear hg
      by_cases hlt : k < l.length
      · obtain ⟨r, hx⟩ : ∃ r, l[k]? = some r := ⟨_, List.getElem?_eq_getElem hlt⟩
        obtain ⟨q, hy⟩ : ∃ q, m[k]? = some q := ⟨_, List.getElem?_eq_getElem (by omega)⟩
        obtain ⟨g, rfl, hg', q0, q1, q2⟩ := HR.out k r hx
        obtain ⟨g2, rfl, hg2, s0, s1, s2⟩ := HR'.out k q hy
        have p0 := (hB.cell (World.block_lt_of_cell? _ _ q0)).trans q0
        have p1 := (hB.cell (World.block_lt_of_cell? _ _ q1)).trans q1
        have p2 := (hB.cell (World.block_lt_of_cell? _ _ q2)).trans q2
        have t0 := (hB.cell (World.block_lt_of_cell? _ _ s0)).trans s0
        have t1 := (hB.cell (World.block_lt_of_cell? _ _ s1)).trans s1
        have t2 := (hB.cell (World.block_lt_of_cell? _ _ s2)).trans s2
        have hlt2 : k < m.length := by omega
        have hi1 : (0 : Int) ≤ (k : Int) := by omega
        have hi2 : (k : Int) < (l.length : Int) := by omega
        have hi3 : (k : Int) < (m.length : Int) := by omega
        have HX := Lib.hid hx
        have HY := Lib.hid hy
        have hne := rc_neq r q
        clear q0 q1 q2 s0 s1 s2 hB hx hy
        cases hb2 : rcE r q with
        | true =>
          have HBR := Lib.hid hb2
          rw [hb2] at hne
          clear hb2
          go_wp2
          go_quiet (fail)
          go_wp2
          go_roundw
          case rel =>
            refine ⟨k + 1, by omega, by go_num, fun j r' q' hj h1 h2 => ?_, cdrewN HB.out _⟩
            by_cases e : j = k
            · subst e
              rw [HX.out] at h1
              rw [HY.out] at h2
              cases h1
              cases h2
              exact HBR.out
            · exact HG.out j r' q' (by omega) h1 h2
          case measure => simp [intOf]; omega
        | false =>
          have HBR := Lib.hid hb2
          rw [hb2] at hne
          clear hb2
          go_wp2
          go_quiet (fail)
          go_wp2
          go_ret
          exact ⟨by rw [sameR_at HL.out HX.out HY.out HBR.out]; rfl, cdrewN HB.out _⟩
      · obtain rfl : k = l.length := by omega
        clear hB
        go_wp2
        go_ret
        refine ⟨?_, HB.out⟩
        rw [sameR_all HL.out fun k r q h1 h2 => HG.out k r q (by exact (List.getElem?_eq_some_iff.1 h1).1) h1 h2]
        rfl
  · have hb : ((l.length : Int) != (m.length : Int)) = true := by simp; omega
    have hs : sameR l m = false := by
      cases h : sameR l m with
      | false => rfl
      | true => rw [sameR_iff] at h; exact absurd (congrArg List.length h) hlen
    have HS := Lib.hid hs
    clear hs hlen
    go_enter Tryz.func23, Tryz.ntmps23
    go_wp2
    go_ret
    exact ⟨by rw [HS.out]; rfl, Below.refl _ _⟩

set_option maxRecDepth 100000 in
set_option maxHeartbeats 2000000 in
theorem rlay_any17 (n : Nat) (v : Value) (l : List Rc) (w : World) (h : RcsOwn n w v l) (hf : FitR l) (hl : l.length ≤ 400) :
    Calls Tryz.prog 20 #[v] w fun e w' => e = .returned (.tuple #[.string (layRv l).1, .int .i64 (layRv l).2]) ∧ Below w.heap.size w w' := by
  obtain ⟨A, c, rfl, hc, hr⟩ := h
  have HR := Lib.hid hr
  have HF := Lib.hid hf
  clear hr hf
  go_enter Tryz.func20, Tryz.ntmps20
  go_wp2
  go_loopw [4, 5] (fun sv i wr => ∃ k : Nat, k ≤ l.length ∧ i = .int .i64 (k : Int) ∧ sv = .string ⟨(layL (l.take k)).toArray⟩ ∧ rcsB (l.take k) = true ∧ Below w.heap.size w wr) (fun _ i _ => l.length - (intOf i).toNat)
  case atStart => exact ⟨0, Nat.zero_le _, rfl, rfl, rfl, Below.refl _ _⟩
  case round =>
    obtain ⟨k, hk, rfl, rfl, hg, hB⟩ := hrel
    have HG := Lib.hid hg
    have HB := Lib.hid hB
    have hLk := layL_le _ hg
    rw [List.length_take] at hLk
    obtain ⟨L, hL⟩ : ∃ L : ByteArray, (⟨(layL (l.take k)).toArray⟩ : ByteArray) = L := ⟨_, rfl⟩
    have hLs : L.size ≤ 805600 := by
      rw [← hL]
      show (layL _).toArray.size ≤ _
      rw [List.size_toArray]
      omega
    have HL := Lib.hid hL
    simp only [hL]
    clear hg hLk hL
    by_cases hlt : k < l.length
    · obtain ⟨r, hx⟩ : ∃ r, l[k]? = some r := ⟨_, List.getElem?_eq_getElem hlt⟩
      obtain ⟨g, rfl, hg', q0, q1, q2⟩ := HR.out k r hx
      have p0 := (hB.cell (World.block_lt_of_cell? _ _ q0)).trans q0
      have p1 := (hB.cell (World.block_lt_of_cell? _ _ q1)).trans q1
      have p2 := (hB.cell (World.block_lt_of_cell? _ _ q2)).trans q2
      have hfr := HF.out r (List.mem_of_getElem? hx)
      have HX := Lib.hid hx
      have hts := fencR_size r
      clear q0 q1 q2 hB hx
      cases hb : rcB r with
      | true =>
        have he : fencR r = (⟨(frL r).toArray⟩, 0) := by unfold fencR; rw [hb]; rfl
        rw [he] at hts
        have HE := Lib.hid he
        have HBR := Lib.hid hb
        clear hb he
        go_wp2_with fail
        refine (rencode_any r _ hfr).mono ?_
        rintro e w1 ⟨rfl, hb1⟩
        have HB1 := Lib.hid (HB.out.trans (hb1.mono HB.out.size))
        obtain ⟨t, ht⟩ : ∃ t : ByteArray, (⟨(frL r).toArray⟩ : ByteArray) = t := ⟨_, rfl⟩
        rw [ht] at hts
        have hct := fun w => cat_str L t (by omega) w
        have HT := Lib.hid ht
        have he2 := HE.out
        rw [ht] at he2
        rw [he2]
        clear hb1 p0 p1 p2 ht he2
        go_wp2
        go_roundw
        case rel =>
          refine ⟨k + 1, by omega, by go_num, ?_, ?_, HB1.out⟩
          · congr 1
            apply ba_eq
            rw [List.take_add_one, HX.out, ba_app, ← HL.out, ← HT.out]
            show _ = layL (l.take k ++ [r])
            rw [layL_snoc]
          · have := HG.out
            unfold rcsB at this ⊢
            rw [List.take_add_one, HX.out, List.all_append, this]
            simp [HBR.out]
        case measure => simp [intOf]; omega
      | false =>
        have he : fencR r = (⟨#[]⟩, 170) := by unfold fencR; rw [hb]; rfl
        have HE := Lib.hid he
        have HBR := Lib.hid hb
        clear hb he hts
        go_wp2_with fail
        refine (rencode_any r _ hfr).mono ?_
        rintro e w1 ⟨rfl, hb1⟩
        rw [HE.out]
        have HB1 := Lib.hid (HB.out.trans (hb1.mono HB.out.size))
        have HV := Lib.hid (show layRv l = (⟨#[]⟩, 170) by
          have : rcsB l = false := by
            unfold rcsB
            rw [List.all_eq_false]
            exact ⟨r, List.mem_of_getElem? HX.out, by rw [HBR.out]; decide⟩
          unfold layRv
          rw [this]
          rfl)
        clear hb1 p0 p1 p2
        go_wp2
        go_ret2
        exact ⟨by rw [HV.out]; rfl, HB1.out⟩
    · obtain rfl : k = l.length := by omega
      have HV := Lib.hid (show layRv l = (L, 0) by
        have h1 := HG.out
        rw [List.take_length] at h1
        have h2 := HL.out
        rw [List.take_length] at h2
        unfold layRv
        rw [h1, ← h2]
        rfl)
      clear hB
      go_wp2
      go_ret2
      exact ⟨by rw [HV.out]; rfl, HB.out⟩
end Go.Proofs.YtdlkmdjhjdpmeaaGreatDoor
