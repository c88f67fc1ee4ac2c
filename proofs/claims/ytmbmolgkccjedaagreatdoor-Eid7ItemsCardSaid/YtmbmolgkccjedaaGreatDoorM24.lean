/- Contracts of read, readWhole, Decode, Whole of package item. -/
import Derived.Test.YtmbmolgkccjedaaGreatDoorM23
import Derived.Test.YtmbmolgkccjedaaGreatDoorApp
import Derived.Deep.RegionLaw
set_option linter.unusedVariables false
set_option linter.unusedSimpArgs false
namespace Go.Proofs.YtmbmolgkccjedaaGreatDoor
open Go.RowKit

/-- What is read at a place of a text. -/
def rdAt (s : ByteArray) (at0 : Int) : Except Int (Itm × List UInt8 × Nat) := if at0 < 0 ∨ (s.size : Int) ≤ at0 then .error 11 else rd 6 0 (s.data.toList.drop at0.toNat)
/-- What is decoded at a place of a text: the item, the place behind it, the error's number. -/
def decI (s : ByteArray) (at0 : Int) : Itm × Int × Int := match rdAt s at0 with
  | .error e => (.mk 0 0 [] [], 0, e)
  | .ok (x, r, _) => (x, ((s.size - r.length : Nat) : Int), 0)
/-- What is decoded of a whole text. -/
def wholeI (s : ByteArray) : Itm × Int := match rdAt s 0 with
  | .error e => (.mk 0 0 [] [], e)
  | .ok (x, r, _) => if r.length = 0 then (x, 0) else (.mk 0 0 [] [], 20)

theorem RdS.of_heap {R : Nat} {s : ByteArray} {a c d : Int} {t : TypeId} {W : World} (h : W.heap[R]? = some (.cells #[.string s, .int .i64 a, .int .i64 c, .int .i64 d] t (0, 0))) : RdS R s a c d W :=
  ⟨heap_cell h 0 _ rfl, heap_cell h 1 _ rfl, heap_cell h 2 _ rfl, heap_cell h 3 _ rfl, heap_frozen h 0, heap_frozen h 1, heap_frozen h 2, heap_frozen h 3⟩
theorem ItV.zero {ok : Nat → Prop} {W : World} : ItV ok W (.mk 0 0 [] []) (.agg #[.int .i64 0, .int .i64 0, .string ⟨#[]⟩, .slice none 0 0]) := ItV.leaf 0 0 ⟨#[]⟩ (by decide) (by decide) (by decide)

theorem next_top (R : Nat) (s : ByteArray) (at0 : Int) (w : World) (hH : HeadB R w) (hS : RdS R s at0 0 1 w) (hs : s.size ≤ 1000000) :
    Calls Tryz.prog 114 #[.pointer (some ⟨R, 0, none⟩)] w (KindR R s 1 w (rdAt s at0)) := by
  unfold rdAt
  by_cases h : at0 < 0 ∨ (s.size : Int) ≤ at0
  · rw [if_pos h]
    refine (next_err R s at0 0 1 0 0 0 11 w hH hS hs (by omega) (by omega) (hdecR_out h) (by decide)).mono ?_
    rintro e w' ⟨rfl, hf⟩
    exact ⟨_, rfl, hf⟩
  · rw [if_neg h]
    obtain ⟨i, rfl⟩ := Int.eq_ofNat_of_zero_le (show 0 ≤ at0 by omega)
    have := next_any 6 1 (by omega) R s i 0 w hH hS hs (by omega) (by omega)
    rw [NextR_kind] at this
    exact this

/-- What read answers. -/
def ReadR (s : ByteArray) (w : World) (t : Except Int (Itm × List UInt8 × Nat)) (e' : Ending) (w' : World) : Prop :=
  match t with
  | .error e => ∃ p, e' = .returned (.agg #[.int .i64 0, .int .i64 0, .string ⟨#[]⟩, .slice none 0 0, .int .i64 0, placedV p e]) ∧ Below w.heap.size w w'
  | .ok (x, r, c') => ∃ (k nn : Int) (q : ByteArray) (p : Option Addr) (l cap : Nat), e' = .returned (.agg #[.int .i64 k, .int .i64 nn, .string q, .slice p l cap, .int .i64 ((s.size - r.length : Nat) : Int), .nilIface]) ∧ ItV (fun b => w.heap.size ≤ b) w' x (.agg #[.int .i64 k, .int .i64 nn, .string q, .slice p l cap]) ∧ Below w.heap.size w w'

set_option maxRecDepth 100000 in
set_option maxHeartbeats 4000000 in
theorem read_any (s : ByteArray) (at0 : Int) (w : World) (hH : HeadOK w) (hs : s.size ≤ 1000000) :
    Calls Tryz.prog 88 #[.string s, .int .i64 at0] w (ReadR s w (rdAt s at0)) := by
  have hB0 : Below w.heap.size w ((w.alloc (.cells #[.int .i64 0, .int .i64 0, .string ⟨#[]⟩, .slice none 0 0, .int .i64 0, .nilIface] 133)).alloc (.cells #[.string s, .int .i64 at0, .int .i64 0, .int .i64 1] 171)) := ((Below.refl _ _).alloc (Nat.le_refl _) _).alloc (by simp) _
  have hR : ((w.alloc (.cells #[.int .i64 0, .int .i64 0, .string ⟨#[]⟩, .slice none 0 0, .int .i64 0, .nilIface] 133)).alloc (.cells #[.string s, .int .i64 at0, .int .i64 0, .int .i64 1] 171)).heap[w.heap.size + 1]? = some (.cells #[.string s, .int .i64 at0, .int .i64 0, .int .i64 1] 171 (0, 0)) := by
    have := World.alloc_heap_new (w.alloc (.cells #[.int .i64 0, .int .i64 0, .string ⟨#[]⟩, .slice none 0 0, .int .i64 0, .nilIface] 133)) (.cells #[.string s, .int .i64 at0, .int .i64 0, .int .i64 1] 171)
    rw [show (w.alloc (.cells #[.int .i64 0, .int .i64 0, .string ⟨#[]⟩, .slice none 0 0, .int .i64 0, .nilIface] 133)).heap.size = w.heap.size + 1 by simp] at this
    exact this
  have hZ : ((w.alloc (.cells #[.int .i64 0, .int .i64 0, .string ⟨#[]⟩, .slice none 0 0, .int .i64 0, .nilIface] 133)).alloc (.cells #[.string s, .int .i64 at0, .int .i64 0, .int .i64 1] 171)).heap[w.heap.size]? = some (.cells #[.int .i64 0, .int .i64 0, .string ⟨#[]⟩, .slice none 0 0, .int .i64 0, .nilIface] 133 (0, 0)) := (Below.heap_alloc _ _ _ (by simp)).trans (World.alloc_heap_new w _)
  have HC := Lib.hid (next_top (w.heap.size + 1) s at0 _ ⟨w, hH, hB0, by omega⟩ (RdS.of_heap hR) hs)
  have hW0 : ((w.alloc (.cells #[.int .i64 0, .int .i64 0, .string ⟨#[]⟩, .slice none 0 0, .int .i64 0, .nilIface] 133)).alloc (.cells #[.string s, .int .i64 at0, .int .i64 0, .int .i64 1] 171)).heap.size = w.heap.size + 1 + 1 := by simp
  have HB0 := Lib.hid hB0
  have HZ := Lib.hid hZ
  clear hH hB0 hR hZ
  generalize rdAt s at0 = t at *
  go_enter Tryz.func88, Tryz.ntmps88
  go_wp2_with fail
  refine HC.out.mono ?_
  clear HC
  unfold KindR ReadR
  cases t with
  | error e =>
    unfold badA placedV
    rintro e' w1 ⟨p, rfl, hF1⟩
    have hB1 := HB0.out.trans ((hF1.toBelow (by omega)).mono (by omega))
    have hZ1 := (hF1.block _ (lt_of_heap HZ.out) (by simp)).trans HZ.out
    have hz1 : w.heap.size < w1.heap.size := lt_of_heap hZ1
    have HB1 := Lib.hid hB1
    have HZ1 := Lib.hid hZ1
    clear hB1 hZ1 hF1 HB0 HZ hW0
    go_wp2_with fail
    refine (ibadp_any _ _ _).mono ?_
    rintro e2 w2 ⟨rfl, hb2⟩
    have hZ2 := (hb2.block _ (by simp; omega)).trans ((Below.heap_alloc _ _ _ (by omega)).trans HZ1.out)
    have k0 := heap_cell hZ2 0 _ rfl
    have f0 := heap_frozen hZ2 0
    have k1 := heap_cell hZ2 1 _ rfl
    have f1 := heap_frozen hZ2 1
    have k2 := heap_cell hZ2 2 _ rfl
    have f2 := heap_frozen hZ2 2
    have k3 := heap_cell hZ2 3 _ rfl
    have f3 := heap_frozen hZ2 3
    have k4 := heap_cell hZ2 4 _ rfl
    have f4 := heap_frozen hZ2 4
    have k5 := heap_cell hZ2 5 _ rfl
    have f5 := heap_frozen hZ2 5
    have HB := Lib.hid ((HB1.out.alloc (by omega) (.cells #[.int .i64 0, .int .i64 0, .string ⟨#[]⟩, .slice none 0 0, .iface 247 (.agg #[.int .i64 p, .iface 106 (.agg #[.int .i64 e])])] 173)).trans (hb2.mono (by simp; omega)))
    clear hb2 hZ2 HB1 HZ1
    go_wp2_with fail
    refine bodyPost_ret (v := .agg #[.int .i64 0, .int .i64 0, .string ⟨#[]⟩, .slice none 0 0, .int .i64 0, .iface 247 (.agg #[.int .i64 p, .iface 106 (.agg #[.int .i64 _])])]) (by simp [results, Tryz.results88, go_sem, k0, k1, k2, k3, k4, k5]) rfl ⟨p, rfl, ?_⟩
    exact ((((((HB.out.setCell (by simp) _).setCell (by simp) _).setCell (by simp) _).setCell (by simp) _).setCell (by simp) _).setCell (by simp) _)
  | ok t =>
    obtain ⟨x, r, c'⟩ := t
    rintro e' w1 ⟨k, nn, q, p, l, cap, rfl, hx, hS1, hF1⟩
    have hB1 := HB0.out.trans ((hF1.toBelow (by omega)).mono (by omega))
    have hZ1 := (hF1.block _ (lt_of_heap HZ.out) (by simp)).trans HZ.out
    have hz1 : w.heap.size < w1.heap.size := lt_of_heap hZ1
    have hRl := hS1.lt
    have r1 := hS1.c1
    have hx1 : ItV (fun b => w.heap.size + 1 + 1 ≤ b) w1 x (.agg #[.int .i64 k, .int .i64 nn, .string q, .slice p l cap]) := by rw [hW0] at hx; exact hx
    have HX := Lib.hid hx1
    have HB1 := Lib.hid hB1
    have HZ1 := Lib.hid hZ1
    clear hB1 hZ1 hF1 HB0 HZ hW0 hx hx1 hS1
    go_wp2_with fail
    refine (igoodp_any _ _ _ _ _ _ _ _).mono ?_
    rintro e2 w2 ⟨rfl, hb2⟩
    have hZ2 := (hb2.block _ (by simp; omega)).trans ((Below.heap_alloc _ _ _ (by omega)).trans HZ1.out)
    have k0 := heap_cell hZ2 0 _ rfl
    have f0 := heap_frozen hZ2 0
    have k1 := heap_cell hZ2 1 _ rfl
    have f1 := heap_frozen hZ2 1
    have k2 := heap_cell hZ2 2 _ rfl
    have f2 := heap_frozen hZ2 2
    have k3 := heap_cell hZ2 3 _ rfl
    have f3 := heap_frozen hZ2 3
    have k4 := heap_cell hZ2 4 _ rfl
    have f4 := heap_frozen hZ2 4
    have k5 := heap_cell hZ2 5 _ rfl
    have f5 := heap_frozen hZ2 5
    have HB := Lib.hid ((HB1.out.alloc (by omega) (.cells #[.int .i64 k, .int .i64 nn, .string q, .slice p l cap, .nilIface] 173)).trans (hb2.mono (by simp; omega)))
    have HX2 := Lib.hid ((HX.out.below ((Below.refl _ _).alloc (Nat.le_refl _) _)).below hb2)
    clear hb2 hZ2 HB1 HZ1 HX
    go_wp2_with fail
    refine bodyPost_ret (v := .agg #[.int .i64 k, .int .i64 nn, .string q, .slice p l cap, .int .i64 ((s.size - r.length : Nat) : Int), .nilIface]) (by simp [results, Tryz.results88, go_sem, k0, k1, k2, k3, k4, k5]) rfl ⟨k, nn, q, p, l, cap, rfl, ?_, ?_⟩
    · refine ItV.keep (fun a v hb e => ⟨?_, by omega⟩) x _ HX2.out
      have hne : a.block ≠ w.heap.size := by omega
      exact ((cell_heap (Below.heap_setCell _ _ _ _ hne)).trans ((cell_heap (Below.heap_setCell _ _ _ _ hne)).trans ((cell_heap (Below.heap_setCell _ _ _ _ hne)).trans ((cell_heap (Below.heap_setCell _ _ _ _ hne)).trans ((cell_heap (Below.heap_setCell _ _ _ _ hne)).trans ((cell_heap (Below.heap_setCell _ _ _ _ hne)).trans e))))))
    · exact ((((((HB.out.setCell (by simp) _).setCell (by simp) _).setCell (by simp) _).setCell (by simp) _).setCell (by simp) _).setCell (by simp) _)

set_option maxRecDepth 100000 in
set_option maxHeartbeats 4000000 in
theorem idecode_any (s : ByteArray) (at0 : Int) (w : World) (hH : HeadOK w) (hE : EnvE w) (hs : s.size ≤ 1000000) :
    Calls Tryz.prog 55 #[.string s, .int .i64 at0] w fun e' w' => ∃ (k nn : Int) (q : ByteArray) (p : Option Addr) (l cap : Nat), e' = .returned (.tuple #[.agg #[.int .i64 k, .int .i64 nn, .string q, .slice p l cap], .int .i64 (decI s at0).2.1, .int .i64 (decI s at0).2.2]) ∧ ItV (fun b => w.heap.size ≤ b) w' (decI s at0).1 (.agg #[.int .i64 k, .int .i64 nn, .string q, .slice p l cap]) ∧ Below w.heap.size w w' := by
  have hB0 : Below w.heap.size w (w.alloc (.cells #[.int .i64 0, .int .i64 0, .string ⟨#[]⟩, .slice none 0 0] 26)) := (Below.refl _ _).alloc (Nat.le_refl _) _
  have hZ : (w.alloc (.cells #[.int .i64 0, .int .i64 0, .string ⟨#[]⟩, .slice none 0 0] 26)).heap[w.heap.size]? = some (.cells #[.int .i64 0, .int .i64 0, .string ⟨#[]⟩, .slice none 0 0] 26 (0, 0)) := World.alloc_heap_new w _
  have HC := Lib.hid (read_any s at0 _ (hH.below hB0) hs)
  have HE := Lib.hid (hE.below hB0)
  have hW0 : (w.alloc (.cells #[.int .i64 0, .int .i64 0, .string ⟨#[]⟩, .slice none 0 0] 26)).heap.size = w.heap.size + 1 := by simp
  have HB0 := Lib.hid hB0
  have HZ := Lib.hid hZ
  clear hH hE hB0 hZ
  unfold decI
  generalize rdAt s at0 = t at *
  go_enter Tryz.func55, Tryz.ntmps55
  go_wp2_with fail
  refine HC.out.mono ?_
  clear HC
  unfold ReadR
  cases t with
  | error e =>
    rintro e' w1 ⟨p, rfl, hb1⟩
    have hB1 := HB0.out.trans (hb1.mono (by omega))
    have hZ1 := (hb1.block _ (lt_of_heap HZ.out)).trans HZ.out
    have hz1 : w.heap.size < w1.heap.size := lt_of_heap hZ1
    have HB1 := Lib.hid hB1
    have HZ1 := Lib.hid hZ1
    have HE1 := Lib.hid (HE.out.below hb1)
    clear hB1 hZ1 hb1 HB0 HZ hW0 HE
    have hw := placedV_wrong p e
    generalize placedV p e = pv at *
    have HW := Lib.hid hw
    clear hw
    go_wp2_with fail
    refine (itellp_bad _ _ _ _ _ _ _ pv e _ HE1.out HW.out).mono ?_
    rintro e' w2 ⟨rfl, hb2⟩
    have hZ2 := (hb2.block _ (by omega)).trans HZ1.out
    have hz2 : w.heap.size < w2.heap.size := lt_of_heap hZ2
    have k0 := heap_cell hZ2 0 _ rfl
    have f0 := heap_frozen hZ2 0
    have k1 := heap_cell hZ2 1 _ rfl
    have f1 := heap_frozen hZ2 1
    have k2 := heap_cell hZ2 2 _ rfl
    have f2 := heap_frozen hZ2 2
    have k3 := heap_cell hZ2 3 _ rfl
    have f3 := heap_frozen hZ2 3
    have HB := Lib.hid (HB1.out.trans (hb2.mono (by omega)))
    clear hb2 hZ2 HB1 HZ1 HE1
    go_wp2_with fail
    go_region
    all_goals go_wp2_with fail
    all_goals refine bodyPost_ret (v := .tuple #[.agg #[.int .i64 0, .int .i64 0, .string ⟨#[]⟩, .slice none 0 0], .int .i64 0, .int .i64 e]) (by simp [results, Tryz.results55, go_sem, hz2, Nat.lt_succ_of_lt hz2, Nat.ne_of_lt hz2, k0, k1, k2, k3]) rfl ⟨0, 0, ⟨#[]⟩, none, 0, 0, rfl, ItV.zero, ?_⟩
    all_goals exact (((((HB.out.setCell (by simp) _).setCell (by simp) _).setCell (by simp) _).setCell (by simp) _).alloc (by simp; omega) _).drew
  | ok t =>
    obtain ⟨x, r, c'⟩ := t
    rintro e' w1 ⟨k, nn, q, p, l, cap, rfl, hx, hb1⟩
    have hB1 := HB0.out.trans (hb1.mono (by omega))
    have hZ1 := (hb1.block _ (lt_of_heap HZ.out)).trans HZ.out
    have hz1 : w.heap.size < w1.heap.size := lt_of_heap hZ1
    have hx1 : ItV (fun b => w.heap.size + 1 ≤ b) w1 x (.agg #[.int .i64 k, .int .i64 nn, .string q, .slice p l cap]) := by rw [hW0] at hx; exact hx
    have HX := Lib.hid hx1
    have HB1 := Lib.hid hB1
    have HZ1 := Lib.hid hZ1
    clear hB1 hZ1 hb1 HB0 HZ hW0 HE hx hx1
    go_wp2_with fail
    refine (itellp_ok _ _ _ _ _ _ _ _).mono ?_
    rintro e' w2 ⟨rfl, hb2⟩
    have hZ2 := (hb2.block _ (by omega)).trans HZ1.out
    have hz2 : w.heap.size < w2.heap.size := lt_of_heap hZ2
    have k0 := heap_cell hZ2 0 _ rfl
    have f0 := heap_frozen hZ2 0
    have k1 := heap_cell hZ2 1 _ rfl
    have f1 := heap_frozen hZ2 1
    have k2 := heap_cell hZ2 2 _ rfl
    have f2 := heap_frozen hZ2 2
    have k3 := heap_cell hZ2 3 _ rfl
    have f3 := heap_frozen hZ2 3
    have HB := Lib.hid (HB1.out.trans (hb2.mono (by omega)))
    have HX2 := Lib.hid (HX.out.below hb2)
    clear hb2 hZ2 HB1 HZ1 HX
    go_wp2_with fail
    go_region
    all_goals go_wp2_with fail
    all_goals refine bodyPost_ret (v := .tuple #[.agg #[.int .i64 k, .int .i64 nn, .string q, .slice p l cap], .int .i64 ((s.size - r.length : Nat) : Int), .int .i64 0]) (by simp [results, Tryz.results55, go_sem, hz2, Nat.lt_succ_of_lt hz2, Nat.ne_of_lt hz2, k0, k1, k2, k3]) rfl ⟨k, nn, q, p, l, cap, rfl, ?_, ?_⟩
    all_goals first
      | exact (((((HB.out.setCell (by simp) _).setCell (by simp) _).setCell (by simp) _).setCell (by simp) _).alloc (by simp; omega) _).drew
      | (refine ItV.drew (ItV.below ?_ ((Below.refl _ _).alloc (Nat.le_refl _) _))
         refine ItV.keep (fun a v hb e => ⟨?_, by omega⟩) x _ HX2.out
         have hne : a.block ≠ w.heap.size := by omega
         exact ((cell_heap (Below.heap_setCell _ _ _ _ hne)).trans ((cell_heap (Below.heap_setCell _ _ _ _ hne)).trans ((cell_heap (Below.heap_setCell _ _ _ _ hne)).trans ((cell_heap (Below.heap_setCell _ _ _ _ hne)).trans e)))))

/-- What readWhole answers. -/
def ReadWR (w : World) (t : Itm × Int) (e' : Ending) (w' : World) : Prop :=
  if t.2 = 0 then ∃ (k nn : Int) (q : ByteArray) (p : Option Addr) (l cap : Nat), e' = .returned (.agg #[.int .i64 k, .int .i64 nn, .string q, .slice p l cap, .nilIface]) ∧ ItV (fun b => w.heap.size ≤ b) w' t.1 (.agg #[.int .i64 k, .int .i64 nn, .string q, .slice p l cap]) ∧ Below w.heap.size w w'
  else ∃ p, e' = .returned (badA (placedV p t.2)) ∧ Below w.heap.size w w'

theorem rd_err_ne : ∀ (f c : Nat) (l : List UInt8) (e : Int), rd f c l = .error e → e ≠ 0 := by
  intro f
  induction f with
  | zero => intro c l e h; simp only [rd, Except.error.injEq] at h; subst h; decide
  | succ f ih =>
    have ihs : ∀ (n c : Nat) (l : List UInt8) (e : Int), rdN (rd f) n c l = .error e → e ≠ 0 := by
      intro n
      induction n with
      | zero => intro c l e h; simp [rdN] at h
      | succ n ihn =>
        intro c l e h
        rw [rdN] at h
        cases h1 : rd f c l with
        | error e1 => rw [h1] at h; simp only [Except.error.injEq] at h; subst h; exact ih _ _ _ h1
        | ok y =>
          obtain ⟨y, r1, c1⟩ := y
          rw [h1] at h
          simp only [] at h
          cases h2 : rdN (rd f) n c1 r1 with
          | error e2 => rw [h2] at h; simp only [Except.error.injEq] at h; subst h; exact ihn _ _ _ h2
          | ok ys => obtain ⟨ys, r2, c2⟩ := ys; rw [h2] at h; cases h
    intro c l e h
    rw [rd] at h
    by_cases h60 : 60 ≤ c
    · rw [if_pos h60] at h; simp only [Except.error.injEq] at h; subst h; decide
    rw [if_neg h60] at h
    cases hd : hdL l with
    | error e1 => rw [hd] at h; simp only [Except.error.injEq] at h; subst h; rcases hdL_err hd with rfl | rfl | rfl <;> decide
    | ok t =>
      obtain ⟨m, n, k⟩ := t
      rw [hd] at h
      simp only [] at h
      by_cases h0 : m = 0
      · rw [if_pos h0] at h; cases h
      rw [if_neg h0] at h
      by_cases h4 : m = 4
      · rw [if_pos h4] at h
        cases h2 : rdN (rd f) n (c + 1) (l.drop k) with
        | error e2 => rw [h2] at h; simp only [Except.error.injEq] at h; subst h; exact ihs _ _ _ _ h2
        | ok ys => obtain ⟨ys, r2, c2⟩ := ys; rw [h2] at h; cases h
      rw [if_neg h4] at h
      by_cases h6 : 600 < n
      · rw [if_pos h6] at h; simp only [Except.error.injEq] at h; subst h; decide
      rw [if_neg h6] at h
      by_cases hl : (l.drop k).length < n
      · rw [if_pos hl] at h; simp only [Except.error.injEq] at h; subst h; decide
      rw [if_neg hl] at h
      by_cases ht : m = 3 ∧ txtB ((l.drop k).take n) = false
      · rw [if_pos ht] at h; simp only [Except.error.injEq] at h; subst h; decide
      rw [if_neg ht] at h
      cases h
theorem rdAt_err_ne {s : ByteArray} {at0 e : Int} (h : rdAt s at0 = .error e) : e ≠ 0 := by
  unfold rdAt at h
  by_cases h1 : at0 < 0 ∨ (s.size : Int) ≤ at0
  · rw [if_pos h1] at h; simp only [Except.error.injEq] at h; subst h; decide
  · rw [if_neg h1] at h; exact rd_err_ne _ _ _ _ h
theorem rdAt_ok {s : ByteArray} {at0 : Int} {x : Itm} {r : List UInt8} {c : Nat} (h : rdAt s at0 = .ok (x, r, c)) : ∃ i : Nat, at0 = i ∧ i < s.size ∧ r.length ≤ s.size ∧ irdR (s.data.toList.drop i) = .ok (x, r) := by
  unfold rdAt at h
  by_cases h1 : at0 < 0 ∨ (s.size : Int) ≤ at0
  · rw [if_pos h1] at h; cases h
  · rw [if_neg h1] at h
    obtain ⟨i, rfl⟩ := Int.eq_ofNat_of_zero_le (show 0 ≤ at0 by omega)
    rw [Int.toNat_natCast] at h
    obtain ⟨_, _, _, _, h5⟩ := rd_back _ _ _ _ _ _ h
    refine ⟨i, rfl, by omega, ?_, by unfold irdR; rw [h]⟩
    have := congrArg List.length h5
    rw [drop_len_ba, List.length_append] at this
    omega

theorem wholeI_bad (s : ByteArray) (h : (wholeI s).2 ≠ 0) : (wholeI s).1 = .mk 0 0 [] [] := by
  unfold wholeI at h ⊢
  cases hr : rdAt s 0 with
  | error e => rfl
  | ok t =>
    obtain ⟨x, r, c⟩ := t
    rw [hr] at h
    simp only at h ⊢
    by_cases h0 : r.length = 0
    · rw [if_pos h0] at h; exact absurd rfl h
    · rw [if_neg h0]

end Go.Proofs.YtmbmolgkccjedaaGreatDoor

/- The statements' cut of an item: so deep, so many items, so many bytes. -/
set_option linter.unusedVariables false
set_option linter.unusedSimpArgs false
namespace Go.Proofs.YtmbmolgkccjedaaGreatDoor
open Go.RowKit

/-- A cut while it is made: the item's box, the answer's, the cut's own, its row. -/
structure CM (k n : Int) (s : List UInt8) (qs : ByteArray) (p : Option Addr) (len cap : Nat) (w : World) (v : Value) (xs : List Itm) (wr : World) : Prop where
  a0 : wr.heap[w.heap.size]? = some (.cells #[.int .i64 k, .int .i64 n, .string ⟨s.toArray⟩, .slice p len cap] 26 (0, 0))
  a1 : wr.heap[w.heap.size + 1]? = some (.cells #[.int .i64 0, .int .i64 0, .string ⟨#[]⟩, .slice none 0 0] 26 (0, 0))
  a2 : wr.heap[w.heap.size + 1 + 1]? = some (.cells #[.int .i64 k, .int .i64 n, .string qs, v] 26 (0, 0))
  row : RowM (w.heap.size + 1 + 1 + 1) wr v xs
  be : Below w.heap.size w wr

/-- What a cut of an item is. -/
def CutR (x : Itm) (w : World) (e' : Ending) (w' : World) : Prop := ∃ (k nn : Int) (q : ByteArray) (p : Option Addr) (l cap : Nat), e' = .returned (.agg #[.int .i64 k, .int .i64 nn, .string q, .slice p l cap]) ∧ ItV (fun b => w.heap.size ≤ b) w' x (.agg #[.int .i64 k, .int .i64 nn, .string q, .slice p l cap]) ∧ Below w.heap.size w w'

theorem snoc_map {l : List Itm} {j : Nat} {x : Itm} (f : Itm → Itm) (h : l[j]? = some x) : (l.take (j + 1)).map f = (l.take j).map f ++ [f x] := by
  rw [List.take_add_one, h]
  simp

/-- One item more. -/
theorem CM.step {k n : Int} {s : List UInt8} {qs : ByteArray} {p : Option Addr} {len cap : Nat} {w : World} {v : Value} {xs : List Itm} {wr w1 w4 : World} {x' : Itm} {k' nn : Int} {q : ByteArray} {p' : Option Addr} {l' cap' g4 cap4 j : Nat} {cs : List Value} (hM : CM k n s qs p len cap w v xs wr) (hxl : xs.length = j) (hb2 : Below wr.heap.size wr w1) (hxv : ItV (fun b => wr.heap.size ≤ b) w1 x' (.agg #[.int .i64 k', .int .i64 nn, .string q, .slice p' l' cap']))
    (hrow : RowM (w.heap.size + 1 + 1 + 1) (w1.alloc (.cells #[.int .i64 k', .int .i64 nn, .string q, .slice p' l' cap'] 26)) v xs) (hown3 : (w1.alloc (.cells #[.int .i64 k', .int .i64 nn, .string q, .slice p' l' cap'] 26)).ownsRow (w.heap.size + 1 + 1 + 1) 26 4 v j cs)
    (hr3 : ItRow (fun b => w.heap.size + 1 + 1 + 1 ≤ b ∧ v.ownBlock ≠ some b) (w1.alloc (.cells #[.int .i64 k', .int .i64 nn, .string q, .slice p' l' cap'] 26)) xs cs)
    (hown4 : w4.ownsRow (w.heap.size + 1 + 1 + 1) 26 4 (.slice (some ⟨g4, 0, none⟩) (j + 1) cap4) (j + 1) (cs ++ [.int .i64 k', .int .i64 nn, .string q, .slice p' l' cap'])) (hg4 : (w1.alloc (.cells #[.int .i64 k', .int .i64 nn, .string q, .slice p' l' cap'] 26)).grownBy w4 v.ownBlock)
    (hf4 : ∀ g, (Value.slice (some ⟨g4, 0, none⟩) (j + 1) cap4).ownBlock = some g → v.ownBlock = some g ∨ g = (w1.alloc (.cells #[.int .i64 k', .int .i64 nn, .string q, .slice p' l' cap'] 26)).heap.size) :
    CM k n s qs p len cap w (.slice (some ⟨g4, 0, none⟩) (j + 1) cap4) (xs ++ [x']) (w4.setCell ⟨w.heap.size + 1 + 1, 3, none⟩ (.slice (some ⟨g4, 0, none⟩) (j + 1) cap4)) := by
  subst hxl
  have hz := lt_of_heap hM.a2
  have hz1 := hb2.size
  have hne : ∀ b, b < w.heap.size + 1 + 1 + 1 → some b ≠ v.ownBlock := fun b hb e => by have := (hown3.lt b e.symm).1; omega
  have key : ∀ (b : Nat) (o : Obj), b < w.heap.size + 1 + 1 + 1 → wr.heap[b]? = some o → w4.heap[b]? = some o := fun b o hb e =>
    (hg4.block b (by simp; omega) (hne b hb)).trans ((Below.heap_alloc _ _ _ (by omega)).trans ((hb2.block b (by omega)).trans e))
  have hvn : ∀ g, v.ownBlock = some g → g < wr.heap.size := fun g hg => by obtain ⟨cs', ho', _⟩ := hM.row; exact (ho'.lt g hg).2
  have hB3 : Below w1.heap.size w1 (w1.alloc (.cells #[.int .i64 k', .int .i64 nn, .string q, .slice p' l' cap'] 26)) := (Below.refl _ _).alloc (Nat.le_refl _) _
  have hRowN := hrow.append (n := wr.heap.size) (by omega) hvn (by simp; omega) (hxv.below hB3) hown3 hr3 (v' := .slice (some ⟨g4, 0, none⟩) (xs.length + 1) cap4) hown4 hg4 hf4
  have hBe : Below w.heap.size w (w1.alloc (.cells #[.int .i64 k', .int .i64 nn, .string q, .slice p' l' cap'] 26)) := (hM.be.trans (hb2.mono hM.be.size)).alloc (by omega) _
  refine ⟨?_, ?_, ?_, ?_, ?_⟩
  · exact (Below.heap_setCell _ _ _ _ (by show w.heap.size ≠ w.heap.size + 1 + 1; omega)).trans (key _ _ (by omega) hM.a0)
  · exact (Below.heap_setCell _ _ _ _ (by show w.heap.size + 1 ≠ w.heap.size + 1 + 1; omega)).trans (key _ _ (by omega) hM.a1)
  · exact heap_set (key _ _ (by omega) hM.a2) 3 _
  · exact hRowN.stay (.inr ⟨w.heap.size + 1 + 1, Fr.set (w.heap.size + 1 + 1) 3 w4 _, by omega⟩)
  · exact (hBe.grown hg4 hBe.size (fun g e => by have := (hown3.lt g e).1; omega)).setCell (by show w.heap.size ≤ w.heap.size + 1 + 1; omega) _

theorem cut_str (s : List UInt8) : (⟨s.toArray⟩ : ByteArray).extract 0 (min (s.length : Int) 601).toNat = ⟨(s.take 601).toArray⟩ := by
  have h : ((⟨s.toArray⟩ : ByteArray).extract 0 (min (s.length : Int) 601).toNat).data.toList = s.take 601 := by
    have e := extract_drop (⟨s.toArray⟩ : ByteArray) 0 (min (s.length : Int) 601).toNat
    rw [Nat.zero_add] at e
    rw [e]
    simp only [List.drop_zero]
    by_cases hl : s.length ≤ 601
    · rw [show (min (s.length : Int) 601).toNat = s.length by omega, List.take_length, List.take_of_length_le hl]
    · rw [show (min (s.length : Int) 601).toNat = 601 by omega]
  apply ByteArray.ext
  apply Array.ext'
  rw [h]

set_option maxRecDepth 100000 in
set_option maxHeartbeats 4000000 in
theorem cutAt_go (ok : Nat → Prop) (g : Itm → Itm) (f : Nat) (k n : Int) (s : List UInt8) (l : List Itm) (len : Nat) (hlen : l.length = len) (hlx : len ≤ maxLen) (hs : s.length ≤ maxLen) (p : Option Addr) (cap : Nat) (w : World) (hf : f ≤ 6) (hk : (Lit.int .i64 k).wf = true) (hn : (Lit.int .i64 n).wf = true) (h1 : ItsV ok w l p 0)
    (m : Nat) (hm : m = if f = 0 then 0 else min len 62) (qs : ByteArray) (hqs : (⟨s.toArray⟩ : ByteArray).extract 0 (min (s.length : Int) 601).toNat = qs)
    (ih : 0 < f → ∀ (x : Itm) (v : Value) (W : World), ItV ok W x v → Calls Tryz.prog 25 #[v, .int .i64 (f : Int)] W (CutR (g x) W)) :
    Calls Tryz.prog 25 #[.agg #[.int .i64 k, .int .i64 n, .string ⟨s.toArray⟩, .slice p len cap], .int .i64 ((f : Int) + 1)] w (CutR (.mk k n (s.take 601) ((l.take m).map g)) w) := by
  unfold maxLen at hlx hs
  have hsz : (⟨s.toArray⟩ : ByteArray).size = s.length := by show s.toArray.size = _; simp
  have H1 := Lib.hid h1
  have HI := Lib.hid ih
  have HL := Lib.hid hlen
  have HM := Lib.hid hm
  have HQ := Lib.hid hqs
  have HK := Lib.hid hk
  have HN := Lib.hid hn
  clear h1 ih hlen hm hk hn
  go_enter Tryz.func25, Tryz.ntmps25
  go_wp2_with fail
  go_region
  have hC0 : CM k n s qs p len cap w (.slice none 0 0) [] (((w.alloc (.cells #[.int .i64 k, .int .i64 n, .string ⟨s.toArray⟩, .slice p len cap] 26)).alloc (.cells #[.int .i64 0, .int .i64 0, .string ⟨#[]⟩, .slice none 0 0] 26)).alloc (.cells #[.int .i64 k, .int .i64 n, .string qs, .slice none 0 0] 26)).drew := by
    refine ⟨?_, ?_, ?_, RowM.nil _ _, ((((Below.refl _ _).alloc (Nat.le_refl _) _).alloc (by simp) _).alloc (by simp; omega) _).drew⟩
    · exact (Below.heap_alloc _ _ _ (by simp; omega)).trans ((Below.heap_alloc _ _ _ (by simp)).trans (World.alloc_heap_new w _))
    · have := World.alloc_heap_new (w.alloc (.cells #[.int .i64 k, .int .i64 n, .string ⟨s.toArray⟩, .slice p len cap] 26)) (.cells #[.int .i64 0, .int .i64 0, .string ⟨#[]⟩, .slice none 0 0] 26)
      rw [show (w.alloc (.cells #[.int .i64 k, .int .i64 n, .string ⟨s.toArray⟩, .slice p len cap] 26)).heap.size = w.heap.size + 1 by simp] at this
      exact (Below.heap_alloc _ _ _ (by simp)).trans this
    · have := World.alloc_heap_new ((w.alloc (.cells #[.int .i64 k, .int .i64 n, .string ⟨s.toArray⟩, .slice p len cap] 26)).alloc (.cells #[.int .i64 0, .int .i64 0, .string ⟨#[]⟩, .slice none 0 0] 26)) (.cells #[.int .i64 k, .int .i64 n, .string qs, .slice none 0 0] 26)
      rw [show ((w.alloc (.cells #[.int .i64 k, .int .i64 n, .string ⟨s.toArray⟩, .slice p len cap] 26)).alloc (.cells #[.int .i64 0, .int .i64 0, .string ⟨#[]⟩, .slice none 0 0] 26)).heap.size = w.heap.size + 1 + 1 by simp] at this
      exact this
  have HC0 := Lib.hid hC0
  clear hC0 hqs
  generalize (((w.alloc (.cells #[.int .i64 k, .int .i64 n, .string ⟨s.toArray⟩, .slice p len cap] 26)).alloc (.cells #[.int .i64 0, .int .i64 0, .string ⟨#[]⟩, .slice none 0 0] 26)).alloc (.cells #[.int .i64 k, .int .i64 n, .string qs, .slice none 0 0] 26)).drew = w0 at *
  go_wp2_with fail
  go_loopw [6] (fun ii wr => ∃ (j : Nat) (v : Value), j ≤ m ∧ ii = .int .i64 (j : Int) ∧ CM k n s qs p len cap w v ((l.take j).map g) wr) (fun ii _ => m - (intOf ii).toNat)
  case atStart => exact ⟨0, _, Nat.zero_le _, rfl, HC0.out⟩
  case round =>
    obtain ⟨j, v, hj, rfl, hM⟩ := hrel
    have HMM := Lib.hid hM
    have x3 := heap_cell hM.a0 3 _ rfl
    by_cases hlt : j < m
    · have hm62 : m ≤ 62 ∧ m ≤ len ∧ 0 < f := by
        have := HM.out
        by_cases h0 : f = 0
        · rw [if_pos h0] at this; omega
        · rw [if_neg h0] at this; omega
      obtain ⟨h62, hml, hf0⟩ := hm62
      obtain ⟨x, hx⟩ : ∃ x, l[j]? = some x := ⟨_, List.getElem?_eq_getElem (by have := HL.out; omega)⟩
      obtain ⟨a, c0, c1, c2, c3, rfl, _, e0, e1, e2, e3, hvx⟩ := ItsV.reads l j x (H1.out.below hM.be) hx
      have b1 : decide ((j : Int) < (len : Int)) = true := by simp; omega
      have b2 : decide ((j : Int) < 62) = true := by simp; omega
      have b3 : decide (1 < (f : Int) + 1) = true := by simp; omega
      have hjl : j < len := by omega
      have y3 := heap_cell hM.a2 3 _ rfl
      have z3 := heap_frozen hM.a2 3
      have HX := Lib.hid hx
      have HVX := Lib.hid hvx
      have hxl : ((l.take j).map g).length = j := by have := HL.out; rw [List.length_map, List.length_take]; omega
      have hzz : w.heap.size + 1 + 1 < wr.heap.size := lt_of_heap hM.a2
      clear hM hx hvx
      obtain ⟨i0, hi0, hz0, hzs, hzb⟩ := info_parts it_info
      go_wp2_with fail
      have hwf : IntKind.i64.wrap (f : Int) = (f : Int) := by rw [IntKind.wrap_i64]; omega
      go_region_law (first
        | (refine step_append_new rfl _ _ 24 rfl (w.heap.size + 1 + 1 + 1) 26 i0 (.agg #[.int .i64 0, .int .i64 0, .string ⟨#[]⟩, .slice none 0 0]) 4 56 Tryz.underlying24 hi0 hz0 hzs hzb rfl (by decide) v j cs rfl hown3 ⟨w1.heap.size, 0, none⟩ 1 [.int .i64 k', .int .i64 nn, .string q, .slice p' l' cap'] rfl rfl hc1 hc2 hc3 hc4 hc5 ?_
           intro v' w4 hown4 hg4 hf4
           have hex : ∃ g4 cap4, v' = .slice (some ⟨g4, 0, none⟩) (j + 1) cap4 := ownsRow_pos hown4 (Nat.succ_pos _)
           obtain ⟨g4, cap4, rfl⟩ := hex
           have hne : ∀ b, b < w.heap.size + 1 + 1 + 1 → some b ≠ v.ownBlock := fun b hb e => by have := (hown3.lt b e.symm).1; omega
           have hA24 := (hg4.block _ (lt_of_heap HA2.out) (hne _ (by omega))).trans HA2.out
           have u3 := heap_cell hA24 3 _ rfl
           have t3 := heap_frozen hA24 3
           have HO4 := Lib.hid hown4
           have HG4 := Lib.hid hg4
           have HF4 := Lib.hid hf4
           clear hown4 hg4 hf4 hA24 hne)
        | (go_simp
           go_at_call 25
           refine (HI.out hf0 x _ _ (HVX.out.drew)).mono ?_
           rintro e' w1 ⟨k', nn, q, p', l', cap', rfl, hxv, hb1⟩
           have hb2 : Below wr.heap.size wr w1 := (Below.refl wr.heap.size wr).drew.trans (hb1.mono (by simp))
           have hA2 := (hb2.block _ hzz).trans HMM.out.a2
           have y3' := heap_cell hA2 3 _ rfl
           have z3' := heap_frozen hA2 3
           have hz1 : w.heap.size + 1 + 1 < w1.heap.size := lt_of_heap hA2
           have hz1n : w.heap.size + 1 + 1 ≠ w1.heap.size := by omega
           have hB3 : Below w1.heap.size w1 (w1.alloc (.cells #[.int .i64 k', .int .i64 nn, .string q, .slice p' l' cap'] 26)) := (Below.refl _ _).alloc (Nat.le_refl _) _
           have hrow3 := (HMM.out.row.stay (.inl ⟨hb2.os, hb2.tape, hb2.output, hb2.size, fun b hb _ => hb2.block b hb⟩)).stay (.inl ⟨hB3.os, hB3.tape, hB3.output, hB3.size, fun b hb _ => hB3.block b hb⟩)
           obtain ⟨cs, hown3, hr3⟩ := id hrow3
           rw [hxl] at hown3
           have hc1 : ∀ (j' : Nat) (u : Value), [Value.int .i64 k', .int .i64 nn, .string q, .slice p' l' cap'][j']? = some u → (w1.alloc (.cells #[.int .i64 k', .int .i64 nn, .string q, .slice p' l' cap'] 26)).cell? ((⟨w1.heap.size, 0, none⟩ : Addr).add j') = some u := by
             intro j' u hj'
             rw [base_add]
             rcases j' with _ | _ | _ | _ | j' <;> simp at hj'
             all_goals (subst hj'; go_simp)
           have hc2 : ∀ u ∈ [Value.int .i64 k', .int .i64 nn, .string q, .slice p' l' cap'], u.oneCell' = true := by
             intro u hu
             simp only [List.mem_cons, List.not_mem_nil, or_false] at hu
             rcases hu with rfl | rfl | rfl | rfl <;> rfl
           have hc3 : j + 1 ≤ maxLen := by unfold maxLen; omega
           have hc4 : (j + 1) * 56 ≤ 140737488355328 := by omega
           have hc5 : w.heap.size + 1 + 1 + 1 ≤ (w1.alloc (.cells #[.int .i64 k', .int .i64 nn, .string q, .slice p' l' cap'] 26)).heap.size := by simp; omega
           have HA2 := Lib.hid ((hB3.block _ hz1).trans hA2)
           have HROW := Lib.hid hrow3
           have HR3 := Lib.hid hr3
           have HXV := Lib.hid hxv
           have HB2 := Lib.hid hb2
           clear hrow3 hr3 hxv hb1 hb2 hA2 hB3))
      all_goals
        have HS := Lib.hid (HMM.out.step hxl HB2.out HXV.out HROW.out hown3 HR3.out HO4.out HG4.out HF4.out)
        clear HMM HB2 HXV HROW hown3 HR3 HO4 HG4 HF4 hc1 hc2 hc3 hc4 hc5 y3 z3 y3' z3' u3 t3 x3 e0 e1 e2 e3
        go_wp2_with fail
        go_roundw
        case rel => exact ⟨j + 1, _, by omega, by go_num, by rw [snoc_map g HX.out]; exact HS.out⟩
        case measure => simp [intOf]; omega
    · have hjm : j = m := by omega
      have hb : (¬ j < len) ∨ (j < len ∧ decide ((j : Int) < 62) = false) ∨ (j < len ∧ decide ((j : Int) < 62) = true ∧ decide (1 < (f : Int) + 1) = false) := by
        have := HM.out
        by_cases h0 : f = 0
        · rw [if_pos h0] at this; simp; omega
        · rw [if_neg h0] at this; simp; omega
      obtain ⟨p2, cap2, rfl, hpc, hpm, _⟩ := hM.row.list
      have w0 := heap_cell hM.a2 0 _ rfl
      have w1 := heap_cell hM.a2 1 _ rfl
      have w2 := heap_cell hM.a2 2 _ rfl
      have w3 := heap_cell hM.a2 3 _ rfl
      have k0 := heap_cell hM.a1 0 _ rfl
      have f0 := heap_frozen hM.a1 0
      have k1 := heap_cell hM.a1 1 _ rfl
      have f1 := heap_frozen hM.a1 1
      have k2 := heap_cell hM.a1 2 _ rfl
      have f2 := heap_frozen hM.a1 2
      have k3 := heap_cell hM.a1 3 _ rfl
      have f3 := heap_frozen hM.a1 3
      have hzz := lt_of_heap hM.a2
      have HJ := Lib.hid hjm
      obtain ⟨ll, hll⟩ : ∃ ll : Nat, ((l.take j).map g).length = ll := ⟨_, rfl⟩
      rw [hll] at w3
      have HLL := Lib.hid hll
      clear hM hjm hll
      rcases hb with hb1 | ⟨hb1, hb2⟩ | ⟨hb1, hb2, hb3⟩
      all_goals
        go_wp2_with fail
        refine bodyPost_ret (v := .agg #[.int .i64 k, .int .i64 n, .string qs, .slice p2 ll cap2]) (by simp [results, Tryz.results25, go_sem, k0, k1, k2, k3]) rfl ?_
        have e6 : ∀ (W : World) (o : Nat) (u : Value), RowM (w.heap.size + 1 + 1 + 1) W (.slice p2 ((l.take j).map g).length cap2) ((l.take j).map g) → RowM (w.heap.size + 1 + 1 + 1) (W.setCell ⟨w.heap.size + 1, o, none⟩ u) (.slice p2 ((l.take j).map g).length cap2) ((l.take j).map g) := fun W o u h => h.stay (.inr ⟨w.heap.size + 1, Fr.set (w.heap.size + 1) o W u, by omega⟩)
        refine ⟨k, n, qs, p2, ll, cap2, rfl, ?_, ?_⟩
        · obtain ⟨p3, cap3, e, _, _, hits⟩ := (e6 _ 3 (.slice p2 ll cap2) (e6 _ 2 (.string qs) (e6 _ 1 (.int .i64 n) (e6 _ 0 (.int .i64 k) HMM.out.row)))).list
          simp only [Value.slice.injEq] at e
          obtain ⟨rfl, _, rfl⟩ := e
          rw [← HJ.out]
          simp only [ItV]
          exact ⟨p2, cap2, by rw [HLL.out, ← HQ.out, cut_str], hpc, hpm, by rw [List.length_take]; unfold maxLen; omega, HK.out, HN.out, ItsV.mono hits (fun b _ hb => by omega)⟩
        · exact (((HMM.out.be.setCell (by show w.heap.size ≤ w.heap.size + 1; omega) _).setCell (by show w.heap.size ≤ w.heap.size + 1; omega) _).setCell (by show w.heap.size ≤ w.heap.size + 1; omega) _).setCell (by show w.heap.size ≤ w.heap.size + 1; omega) _

theorem cutAt_any (ok : Nat → Prop) : ∀ (f : Nat), f ≤ 6 → ∀ (x : Itm) (v : Value) (W : World), ItV ok W x v → Calls Tryz.prog 25 #[v, .int .i64 ((f : Int) + 1)] W (CutR (cutI f x) W) := by
  intro f
  induction f with
  | zero =>
    intro hf x v W hx
    cases x with
    | mk k n s l =>
      simp only [ItV] at hx
      obtain ⟨p, cap, rfl, h1, h2, h3, h4, h5, h6⟩ := hx
      have := cutAt_go ok id 0 k n s l l.length rfl (Nat.le_trans h1 h2) h3 p cap W (by omega) h4 h5 h6 0 rfl _ rfl (fun h => by omega)
      simpa [cutI] using this
  | succ f ih =>
    intro hf x v W hx
    cases x with
    | mk k n s l =>
      simp only [ItV] at hx
      obtain ⟨p, cap, rfl, h1, h2, h3, h4, h5, h6⟩ := hx
      have := cutAt_go ok (cutI f) (f + 1) k n s l l.length rfl (Nat.le_trans h1 h2) h3 p cap W (by omega) h4 h5 h6 (min l.length 62) rfl _ rfl (fun h x v W hv => by
        have := ih (by omega) x v W hv
        rw [show ((f + 1 : Nat) : Int) = (f : Int) + 1 by omega]
        exact this)
      have e : l.take (min l.length 62) = l.take 62 := by
        by_cases hl : l.length ≤ 62
        · rw [Nat.min_eq_left hl, List.take_length, List.take_of_length_le hl]
        · rw [Nat.min_eq_right (by omega)]
      rw [e] at this
      simp only [cutI]
      exact this
end Go.Proofs.YtmbmolgkccjedaaGreatDoor
