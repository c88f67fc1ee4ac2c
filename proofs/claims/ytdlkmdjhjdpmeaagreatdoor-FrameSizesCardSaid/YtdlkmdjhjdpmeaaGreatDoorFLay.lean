/- lay, Lay and Encode of package frame. -/
import Derived.Test.YtdlkmdjhjdpmeaaGreatDoorFRead
import Derived.LoopTactic
set_option linter.unusedVariables false
set_option linter.unusedSimpArgs false
namespace Go.Proofs.YtdlkmdjhjdpmeaaGreatDoor
open Go.RowKit

/-- Texts that fit. -/
def FitR (l : List Rc) : Prop := ∀ r ∈ l, r.data.size ≤ 9223372036854775807
/-- Are all right? -/
def rcsB (l : List Rc) : Bool := l.all rcB

set_option maxRecDepth 100000 in
set_option maxHeartbeats 2000000 in
theorem findex_any (n : Nat) (v : Value) (l : List Rc) (w : World) (h : RcsOwn n w v l) (hf : FitR l) (hl : l.length ≤ 1000000) :
    Calls Tryz.prog 50 #[v, .func (.func 37) #[] #[]] w fun e w' => (∃ i : Int, e = .returned (.int .i64 i) ∧ decide (0 ≤ i) = !rcsB l) ∧ Below w.heap.size w w' := by
  obtain ⟨A, c, rfl, hc, hr⟩ := h
  have HR := Lib.hid hr
  have HF := Lib.hid hf
  clear hr hf
  go_enter Tryz.func50, Tryz.ntmps50
  go_wp2
  go_loopw [8] (fun i wr => ∃ k : Nat, k ≤ l.length ∧ i = .int .i64 (k : Int) ∧ (∀ r ∈ l.take k, rcB r = true) ∧ Below w.heap.size w wr) (fun i _ => l.length - (intOf i).toNat)
  case atStart => exact ⟨0, Nat.zero_le _, rfl, by simp, Below.refl _ _⟩
  case round =>
    obtain ⟨k, hk, rfl, hg, hB⟩ := hrel
    have HG := Lib.hid hg
    have HB := Lib.hid hB
    clear hg
    by_cases hlt : k < l.length
    · obtain ⟨r, hx⟩ : ∃ r, l[k]? = some r := ⟨_, List.getElem?_eq_getElem hlt⟩
      obtain ⟨g, rfl, hg', q0, q1, q2⟩ := HR.out k r hx
      have p0 := (hB.cell (World.block_lt_of_cell? _ _ q0)).trans q0
      have p1 := (hB.cell (World.block_lt_of_cell? _ _ q1)).trans q1
      have p2 := (hB.cell (World.block_lt_of_cell? _ _ q2)).trans q2
      have hfr := HF.out r (List.mem_of_getElem? hx)
      have HX := Lib.hid hx
      clear q0 q1 q2 hB hx
      cases hb : rcB r with
      | true =>
        have HBR := Lib.hid hb
        clear hb
        go_wp2_with fail
        refine (fwrong_f HBR.out _ hfr).mono ?_
        rintro e w1 ⟨rfl, hb1⟩
        have HB1 := Lib.hid (HB.out.trans (hb1.mono HB.out.size))
        clear hb1 p0 p1 p2
        go_wp2
        go_roundw
        case rel =>
          refine ⟨k + 1, by omega, by go_num, fun q hq => ?_, HB1.out⟩
          rw [List.take_add_one, HX.out] at hq
          rcases List.mem_append.1 hq with hq | hq
          · exact HG.out q hq
          · simp at hq
            rw [hq]; exact HBR.out
        case measure => simp [intOf]; omega
      | false =>
        have HBR := Lib.hid hb
        clear hb
        go_wp2_with fail
        refine (fwrong_t HBR.out _ hfr).mono ?_
        rintro e w1 ⟨rfl, hb1⟩
        have HB1 := Lib.hid (HB.out.trans (hb1.mono HB.out.size))
        clear hb1 p0 p1 p2
        go_wp2
        go_ret
        refine ⟨⟨_, rfl, ?_⟩, HB1.out⟩
        have : rcsB l = false := by
          unfold rcsB
          rw [List.all_eq_false]
          exact ⟨r, List.mem_of_getElem? HX.out, by rw [HBR.out]; decide⟩
        rw [this]
        simp
    · obtain rfl : k = l.length := by omega
      clear hB
      go_wp2
      go_ret
      refine ⟨⟨_, rfl, ?_⟩, HB.out⟩
      have : rcsB l = true := by
        unfold rcsB
        rw [List.all_eq_true]
        intro r hr
        exact HG.out r (by rwa [List.take_length])
      rw [this]
      decide

set_option maxRecDepth 100000 in
set_option maxHeartbeats 2000000 in
theorem fcontains_any (n : Nat) (v : Value) (l : List Rc) (w : World) (h : RcsOwn n w v l) (hf : FitR l) (hl : l.length ≤ 1000000) :
    Calls Tryz.prog 36 #[v, .func (.func 37) #[] #[]] w fun e w' => e = .returned (.bool (!rcsB l)) ∧ Below w.heap.size w w' := by
  have HH := Lib.hid h
  go_enter Tryz.func36, Tryz.ntmps36
  clear h
  go_wp2_with fail
  refine (findex_any n v l _ HH.out hf hl).mono ?_
  rintro e w1 ⟨⟨i, rfl, hi⟩, hb1⟩
  have HI := Lib.hid (show decide (i ≥ 0) = !rcsB l from hi)
  clear hi
  go_wp2
  go_ret
  exact ⟨by rw [HI.out]; rfl, hb1⟩

theorem layL_le : ∀ (l : List Rc), rcsB l = true → (layL l).length ≤ 2014 * l.length
  | [], _ => by simp [layL]
  | r :: l, h => by
    unfold rcsB at h
    simp only [List.all_cons, Bool.and_eq_true] at h
    have ih := layL_le l h.2
    obtain ⟨p, i, _, _, _, _, _, h6⟩ := rcB_iff.1 h.1
    rw [layL_cons, List.length_append, frL_length, List.length_cons]
    omega
theorem rcsB_take {l : List Rc} (h : rcsB l = true) (k : Nat) : rcsB (l.take k) = true := by
  unfold rcsB at *
  rw [List.all_eq_true] at *
  exact fun x hx => h x (List.mem_of_mem_take hx)

/-- What lay answers. -/
def layRv (l : List Rc) : ByteArray × Int := if rcsB l = true then (⟨(layL l).toArray⟩, 0) else (⟨#[]⟩, 170)

theorem lay_res {B : Nat} {x y : Value} {W : World} {tmps : Array Value} (c0 : W.cell? ⟨B, 0, none⟩ = some x) (c1 : W.cell? ⟨B, 1, none⟩ = some y) (h2 : tmps[2]?.getD undef = .pointer (some ⟨B, 0, none⟩) := by rfl) : (results Tryz.f25 tmps).run Tryz.prog W = .ok (.agg #[x, y]) W := by
  simp [results, Tryz.results25, go_sem, h2, c0, c1]
theorem set2_cells {B : Nat} {a b x y : Value} {W : World} (k0 : W.cell? ⟨B, 0, none⟩ = some a) (k1 : W.cell? ⟨B, 1, none⟩ = some b) : ((W.setCell ⟨B, 0, none⟩ x).setCell ⟨B, 1, none⟩ y).cell? ⟨B, 0, none⟩ = some x ∧ ((W.setCell ⟨B, 0, none⟩ x).setCell ⟨B, 1, none⟩ y).cell? ⟨B, 1, none⟩ = some y := by
  constructor
  · simp [go_sem, k0]
  · simp [go_sem, k1]

/-- What memory holds while frames are laid. -/
structure LSt (R F nn : Nat) (l : List Rc) (k : Nat) (w0 W : World) : Prop where
  tab : ∃ tv, Blk W F 64 #[tv] ∧ TabV F W tv
  env : FrN nn W
  bld : IsBld (F + 1) (layL (l.take k)) W
  res : Blk W R 45 #[.string ⟨#[]⟩, .int .i64 0]
  below : Below nn w0 W

theorem LSt.alloc {R F nn : Nat} {l : List Rc} {k : Nat} {w0 W : World} (h : LSt R F nn l k w0 W) (hn : nn ≤ W.heap.size) (o : Obj) : LSt R F nn l k w0 (W.alloc o) := by
  have hb : Below W.heap.size W (W.alloc o) := (Below.refl _ _).alloc (Nat.le_refl _) _
  obtain ⟨tv, h1, h2⟩ := h.tab
  exact ⟨⟨tv, h1.here hb, h2.below hb⟩, h.env.below hb, h.bld.below hb, h.res.here hb, h.below.trans (hb.mono hn)⟩

theorem no32F {X : Nat} {w : World} {tv : Value} (h : TabV X w tv) : NoU32 #[tv] := by
  intro j x
  rcases h with rfl | ⟨A, c, rfl, _⟩
  all_goals (rcases j with _ | j <;> simp)
theorem LSt.only {R F nn : Nat} {l : List Rc} {k : Nat} {w0 W W' : World} {tv v' : Value} (h : LSt R F nn l k w0 W) (ho : Only F F W W') (hn : nn ≤ F ∧ R ≠ F ∧ nn ≤ w0.heap.size) (hX : Blk W F 64 #[tv]) (hX' : Blk W' F 64 #[v']) (hT' : TabV F W' v') : LSt R F nn l k w0 W' :=
  ⟨⟨v', hX', hT'⟩, h.env.only ho hn.1 hn.1, h.bld.only hX (by decide) (by omega) ho, h.res.only ho hn.2.1 hn.2.1, ho.toBelow h.below hn.1 hn.1 (Nat.le_trans hn.2.2 h.below.size)⟩
theorem LSt.wrote {R F nn : Nat} {l : List Rc} {k : Nat} {r : Rc} {w0 W W' : World} (h : LSt R F nn l k w0 W) (hn : nn ≤ F) (hR : R < F) (hx : l[k]? = some r) (hb : IsBld (F + 1) (layL (l.take k) ++ (⟨(frL r).toArray⟩ : ByteArray).data.toList) W') (hB : Below (F + 1) W W') (hO : Lib.OthersKept 5 (some (F + 1)) W W') : LSt R F nn l (k + 1) w0 W' := by
  obtain ⟨tv, h1, h2⟩ := h.tab
  obtain ⟨cs, hcs⟩ := h.bld.at_
  refine ⟨⟨tv, h1.below hB (by omega), h2.of fun A zs _ e => ?_⟩, ?_, ?_, h.res.below hB (by omega), h.below.trans (hB.mono (by omega))⟩
  · refine (hO _ _ e (fun e' => ?_) (fun c fz e' => by cases e')).trans e.symm
    injection e' with e'
    rw [e', hcs] at e
    cases e
  · obtain ⟨u, hu, k1, k2⟩ := h.env
    exact ⟨u, hu, k1, k2.trans (hB.mono (by omega))⟩
  · rw [List.take_add_one, hx]
    show IsBld _ (layL (l.take k ++ [r])) _
    rw [layL_snoc]
    simpa using hb

set_option maxRecDepth 100000 in
set_option maxHeartbeats 2000000 in
theorem flay_any (n : Nat) (v : Value) (l : List Rc) (w : World) (hE : FrOK w) (h : RcsOwn n w v l) (hnw : n ≤ w.heap.size) (hf : FitR l) (hl : l.length ≤ 1000000) :
    Calls Tryz.prog 25 #[v] w fun e w' => e = .returned (.agg #[.string (layRv l).1, .int .i64 (layRv l).2]) ∧ Below w.heap.size w w' := by
  have HH := Lib.hid h
  have HF := Lib.hid hf
  obtain ⟨A, c, rfl, hc, _⟩ := h
  clear hf
  cases hb : rcsB l with
  | false =>
    have HR := Lib.hid (show layRv l = (⟨#[]⟩, 170) by unfold layRv; rw [hb]; rfl)
    have HB := Lib.hid hb
    clear hb
    go_enter Tryz.func25, Tryz.ntmps25
    go_wp2_with fail
    refine (fcontains_any n _ l _ (HH.out.below ((Below.refl _ _).alloc (Nat.le_refl _) _)) HF.out hl).mono ?_
    rintro e w1 ⟨rfl, hb1⟩
    rw [HB.out]
    have hr1 : Blk w1 w.heap.size 45 #[.string ⟨#[]⟩, .int .i64 0] := (Blk.new w _ _).here hb1
    have HB1 := Lib.hid (((Below.refl _ w).alloc (Nat.le_refl _) (.cells #[.string ⟨#[]⟩, .int .i64 0] 45)).trans (hb1.mono (by simp)))
    clear hb1
    go_wp2_with fail
    refine (fbads_any _).mono ?_
    rintro e w2 ⟨rfl, hb2⟩
    have hr2 := hr1.here hb2
    have k0 : w2.cell? ⟨w.heap.size, 0, none⟩ = some (.string ⟨#[]⟩) := hr2.cell 0
    have k1 : w2.cell? ⟨w.heap.size, 1, none⟩ = some (.int .i64 0) := hr2.cell 1
    have f0 := hr2.frozen 0
    have f1 := hr2.frozen 1
    have HB2 := Lib.hid (HB1.out.trans (hb2.mono HB1.out.size))
    clear hr1 hr2 hb2
    go_wp2
    refine bodyPost_ret (v := .agg #[.string ⟨#[]⟩, .int .i64 170]) (lay_res (B := w.heap.size) (set2_cells k0 k1).1 (set2_cells k0 k1).2) rfl ⟨by simp only [HR.out], ?_⟩
    exact (HB2.out.setCell (Nat.le_refl _) _).setCell (Nat.le_refl _) _
  | true =>
    have HR := Lib.hid (show layRv l = (⟨(layL l).toArray⟩, 0) by unfold layRv; rw [hb]; rfl)
    have HB := Lib.hid hb
    have HLE := Lib.hid (fun k => layL_le (l.take k) (rcsB_take hb k))
    clear hb
    go_enter Tryz.func25, Tryz.ntmps25
    go_wp2_with fail
    refine (fcontains_any n _ l _ (HH.out.below ((Below.refl _ _).alloc (Nat.le_refl _) _)) HF.out hl).mono ?_
    rintro e w1 ⟨rfl, hb1⟩
    rw [HB.out]
    have hr1 : Blk w1 w.heap.size 45 #[.string ⟨#[]⟩, .int .i64 0] := (Blk.new w _ _).here hb1
    have hB1 : Below w.heap.size w w1 := ((Below.refl _ w).alloc (Nat.le_refl _) (.cells #[.string ⟨#[]⟩, .int .i64 0] 45)).trans (hb1.mono (by simp))
    clear hb1
    go_wp2
    have hbb : Below w1.heap.size w1 ((w1.alloc (.cells #[.slice none 0 0] 64)).alloc (.cells #[.pointer none, .slice none 0 0] 75)) := ((Below.refl _ _).alloc (Nat.le_refl _) _).alloc (by simp) _
    have hst : LSt w.heap.size w1.heap.size w.heap.size l 0 w ((w1.alloc (.cells #[.slice none 0 0] 64)).alloc (.cells #[.pointer none, .slice none 0 0] 75)) := by
      refine ⟨⟨.slice none 0 0, (Blk.new w1 _ _).alloc _, .inl rfl⟩, ⟨w, rfl, hE, hB1.trans (hbb.mono hB1.size)⟩, ?_, hr1.here hbb, hB1.trans (hbb.mono hB1.size)⟩
      have := bld_new (w1.alloc (.cells #[.slice none 0 0] 64))
      rw [World.size_alloc] at this
      exact this
    have hz1 : w.heap.size < w1.heap.size := hr1.lt
    generalize (w1.alloc (.cells #[.slice none 0 0] 64)).alloc (.cells #[.pointer none, .slice none 0 0] 75) = w2 at *
    have HST := Lib.hid hst
    clear hst hr1 hB1 hbb
    go_loopw [12] (fun i wr => ∃ k : Nat, k ≤ l.length ∧ i = .int .i64 (k : Int) ∧ LSt w.heap.size w1.heap.size w.heap.size l k w wr) (fun i _ => l.length - (intOf i).toNat)
    case atStart => exact ⟨0, Nat.zero_le _, rfl, HST.out⟩
    case round =>
      obtain ⟨k, hk, rfl, hst⟩ := hrel
      clear HST
      by_cases hlt : k < l.length
      · obtain ⟨r, hx⟩ : ∃ r, l[k]? = some r := ⟨_, List.getElem?_eq_getElem hlt⟩
        have ho := HH.out.kept (w' := wr) fun p x hp e => (hst.below.cell (by omega)).trans e
        obtain ⟨A', c', hv, _, hO⟩ := ho
        obtain ⟨g, hA, hg', q0, q1, q2⟩ := hO k r hx
        obtain rfl : A = some ⟨g, 0, none⟩ := by injection hv with e; exact e.trans hA
        have hnw2 : w.heap.size ≤ wr.heap.size := hst.below.size
        have HS1 := Lib.hid (hst.alloc hnw2 (.cells #[.int .i64 r.op, .int .i64 r.id, .string r.data] 23))
        have hrb : rcB r = true := by have := HB.out; unfold rcsB at this; rw [List.all_eq_true] at this; exact this r (List.mem_of_getElem? hx)
        have HX := Lib.hid hx
        have HRB := Lib.hid hrb
        clear hst hO hv hA hx hrb
        go_wp2_with fail
        obtain ⟨tv, hX, hT⟩ := HS1.out.tab
        refine (fframe_any w1.heap.size 0 w.heap.size _ _ tv r _ HS1.out.env (by omega) hX rfl (no32F hT) hT HRB.out).mono ?_
        rintro e w3 ⟨rfl, ho3, v', hX3, hT3⟩
        have HS3 := Lib.hid (HS1.out.only ho3 ⟨by omega, by omega, Nat.le_refl _⟩ hX (by simpa using hX3) hT3)
        clear hX hT ho3 hX3 hT3 q0 q1 q2
        go_wp2_with fail
        refine (wstr_any (w1.heap.size + 1) _ _ _ HS3.out.bld ?_).mono ?_
        · have h1 := HLE.out k
          have h2 := frL_length r
          obtain ⟨p, i, _, _, _, _, _, h6⟩ := rcB_iff.1 HRB.out
          show _ + (frL r).toArray.size ≤ _
          rw [List.size_toArray, h2]
          have h3 : (l.take k).length ≤ 1000000 := by rw [List.length_take]; omega
          omega
        rintro e w4 ⟨rfl, hb4, hB4, hO4⟩
        have HS4 := Lib.hid (HS3.out.wrote (by omega) (by omega) (r := r) HX.out hb4 hB4 hO4)
        clear hb4 hB4 hO4
        go_wp2
        go_roundw
        case rel => exact ⟨k + 1, by omega, by go_num, HS4.out⟩
        case measure => simp [intOf]; omega
      · obtain rfl : k = l.length := by omega
        have HS := Lib.hid hst
        clear hst
        go_wp2_with fail
        refine (bstr_any (w1.heap.size + 1) _ _ HS.out.bld).mono ?_
        rintro e w3 ⟨rfl, hb3⟩
        rw [List.take_length]
        have hr3 := HS.out.res.below hb3 (by omega)
        have HB3 := Lib.hid (HS.out.below.trans (hb3.mono (by omega)))
        clear hb3
        go_wp2_with fail
        refine (fgoods_any _ _).mono ?_
        rintro e w4 ⟨rfl, hb4⟩
        have hr4 := hr3.here hb4
        have k0 : w4.cell? ⟨w.heap.size, 0, none⟩ = some (.string ⟨#[]⟩) := hr4.cell 0
        have k1 : w4.cell? ⟨w.heap.size, 1, none⟩ = some (.int .i64 0) := hr4.cell 1
        have f0 := hr4.frozen 0
        have f1 := hr4.frozen 1
        have HB4 := Lib.hid (HB3.out.trans (hb4.mono HB3.out.size))
        clear hr3 hr4 hb4
        go_wp2
        refine bodyPost_ret (v := .agg #[.string ⟨(layL l).toArray⟩, .int .i64 0]) (lay_res (B := w.heap.size) (set2_cells k0 k1).1 (set2_cells k0 k1).2) rfl ⟨by simp only [HR.out], ?_⟩
        exact (HB4.out.setCell (Nat.le_refl _) _).setCell (Nat.le_refl _) _

theorem one_own {w : World} {b : Nat} {r : Rc} (h : w.heap[b]? = some (.cells #[.int .i64 r.op, .int .i64 r.id, .string r.data] 23 (0, 0))) : RcsOwn w.heap.size w (.slice (some ⟨b, 0, none⟩) 1 1) [r] := by
  obtain ⟨h0, h1, h2⟩ := box_cells h
  refine ⟨_, 1, rfl, by simp, fun j q hj => ?_⟩
  obtain ⟨rfl, rfl⟩ : j = 0 ∧ q = r := by
    rcases j with _ | j
    · simpa using hj.symm
    · simp at hj
  exact ⟨b, rfl, lt_of_heap h, by simpa using h0, by simpa using h1, by simpa using h2⟩

/-- What Encode answers. -/
def fencR (r : Rc) : ByteArray × Int := if rcB r = true then (⟨(frL r).toArray⟩, 0) else (⟨#[]⟩, 170)
theorem layRv_one (r : Rc) : layRv [r] = fencR r := by
  unfold layRv fencR rcsB
  simp [layL]

set_option maxRecDepth 100000 in
set_option maxHeartbeats 1000000 in
theorem fencode_any (r : Rc) (w : World) (hE : FrOK w) (hf : r.data.size ≤ 9223372036854775807) :
    Calls Tryz.prog 13 #[.agg #[.int .i64 r.op, .int .i64 r.id, .string r.data]] w fun e w' => e = .returned (.tuple #[.string (fencR r).1, .int .i64 (fencR r).2]) ∧ Below w.heap.size w w' := by
  have HQ := Lib.hid (layRv_one r)
  have HT := Lib.hid (show (fencR r).2 = 0 ∨ ((fencR r).2 = 170 ∧ (fencR r).1 = ⟨#[]⟩) by unfold fencR; split <;> simp)
  go_enter Tryz.func13, Tryz.ntmps13
  go_wp2_with fail
  have hb0 : Below w.heap.size w ((w.alloc (.cells #[.int .i64 r.op, .int .i64 r.id, .string r.data] 23)).alloc (.cells #[.int .i64 r.op, .int .i64 r.id, .string r.data] 23)) := ((Below.refl _ w).alloc (Nat.le_refl _) _).alloc (by simp) _
  have hbk : ((w.alloc (.cells #[.int .i64 r.op, .int .i64 r.id, .string r.data] 23)).alloc (.cells #[.int .i64 r.op, .int .i64 r.id, .string r.data] 23)).heap[w.heap.size + 1]? = some (.cells #[.int .i64 r.op, .int .i64 r.id, .string r.data] 23 (0, 0)) := by
    have := heap_alloc_new (w.alloc (.cells #[.int .i64 r.op, .int .i64 r.id, .string r.data] 23)) (.cells #[.int .i64 r.op, .int .i64 r.id, .string r.data] 23)
    rwa [World.size_alloc] at this
  have ho := one_own (r := r) hbk
  generalize ((w.alloc (.cells #[.int .i64 r.op, .int .i64 r.id, .string r.data] 23)).alloc (.cells #[.int .i64 r.op, .int .i64 r.id, .string r.data] 23)) = w0 at *
  refine (flay_any _ _ [r] w0 (hE.below hb0) ho (Nat.le_refl _) (fun q hq => by rw [List.mem_singleton.1 hq]; exact hf) (by simp)).mono ?_
  rintro e w1 ⟨rfl, hb1⟩
  rw [HQ.out]
  have HB1 := Lib.hid (hb0.trans (hb1.mono hb0.size))
  clear hb0 hb1 hbk ho
  go_wp2_with fail
  refine (ftells_any _ _ _ HT.out).mono ?_
  rintro e w2 ⟨rfl, hb2⟩
  go_wp2
  go_ret2
  exact ⟨rfl, HB1.out.trans (hb2.mono HB1.out.size)⟩

set_option maxRecDepth 100000 in
set_option maxHeartbeats 1000000 in
theorem flays_any (n : Nat) (v : Value) (l : List Rc) (w : World) (hE : FrOK w) (h : RcsOwn n w v l) (hnw : n ≤ w.heap.size) (hf : FitR l) (hl : l.length ≤ 1000000) :
    Calls Tryz.prog 19 #[v] w fun e w' => e = .returned (.tuple #[.string (layRv l).1, .int .i64 (layRv l).2]) ∧ Below w.heap.size w w' := by
  have HT := Lib.hid (show (layRv l).2 = 0 ∨ ((layRv l).2 = 170 ∧ (layRv l).1 = ⟨#[]⟩) by unfold layRv; split <;> simp)
  have HH := Lib.hid h
  clear h
  go_enter Tryz.func19, Tryz.ntmps19
  go_wp2_with fail
  refine (flay_any n v l _ hE HH.out hnw hf hl).mono ?_
  rintro e w1 ⟨rfl, hb1⟩
  go_wp2_with fail
  refine (ftells_any _ _ _ HT.out).mono ?_
  rintro e w2 ⟨rfl, hb2⟩
  go_wp2
  go_ret2
  exact ⟨rfl, hb1.trans (hb2.mono hb1.size)⟩
end Go.Proofs.YtdlkmdjhjdpmeaaGreatDoor
