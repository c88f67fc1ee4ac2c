/- A reader's next of package item: the item that stands at the place, with all that is in it. -/
import Derived.Test.YtmbmolgkccjedaaGreatDoorM22
set_option linter.unusedVariables false
set_option linter.unusedSimpArgs false
namespace Go.Proofs.YtmbmolgkccjedaaGreatDoor
open Go.RowKit

set_option maxRecDepth 100000 in
set_option maxHeartbeats 2000000 in
theorem next_full (R : Nat) (s : ByteArray) (at0 : Int) (c d : Nat) (w : World) (hS : RdS R s at0 (c : Int) (d : Int) w) (hc : c ≤ 60) (hd : d ≤ 7) (h : 60 ≤ c ∨ 7 ≤ d) :
    Calls Tryz.prog 114 #[.pointer (some ⟨R, 0, none⟩)] w fun e' w' => e' = .returned (badA (placedV at0 40)) ∧ Fr R w w' := by
  have hl := hS.lt
  have r2 := hS.c2
  have q2 := hS.f2
  have r3 := hS.c3
  have hS1 := (hS.count ((c : Int) + 1)).below ((Below.refl _ _).alloc (Nat.le_refl _) (.cells #[.int .i64 0, .int .i64 0, .string ⟨#[]⟩, .slice none 0 0, .nilIface] 173))
  have hF1 : Fr R w ((w.setCell ⟨R, 2, none⟩ (.int .i64 ((c : Int) + 1))).alloc (.cells #[.int .i64 0, .int .i64 0, .string ⟨#[]⟩, .slice none 0 0, .nilIface] 173)) := frAlloc (Fr.set R 2 w _) _
  have hA0 : ((w.setCell ⟨R, 2, none⟩ (.int .i64 ((c : Int) + 1))).alloc (.cells #[.int .i64 0, .int .i64 0, .string ⟨#[]⟩, .slice none 0 0, .nilIface] 173)).heap[w.heap.size]? = some (.cells #[.int .i64 0, .int .i64 0, .string ⟨#[]⟩, .slice none 0 0, .nilIface] 173 (0, 0)) := by
    have := World.alloc_heap_new (w.setCell ⟨R, 2, none⟩ (.int .i64 ((c : Int) + 1))) (.cells #[.int .i64 0, .int .i64 0, .string ⟨#[]⟩, .slice none 0 0, .nilIface] 173)
    rw [show (w.setCell ⟨R, 2, none⟩ (.int .i64 ((c : Int) + 1))).heap.size = w.heap.size by simp] at this
    exact this
  have hRne : w.heap.size ≠ R := by omega
  have HS1 := Lib.hid hS1
  have HF1 := Lib.hid hF1
  have HA0 := Lib.hid hA0
  have hw : ∃ b1 b2 : Bool, decide (60 < (c : Int) + 1) = b1 ∧ decide (6 < (d : Int)) = b2 ∧ (b1 = true ∨ b1 = false ∧ b2 = true) := ⟨_, _, rfl, rfl, by simp; omega⟩
  obtain ⟨b1, b2, hb1, hb2, hb⟩ := hw
  clear hS hS1 hF1 hA0 h
  unfold badA
  rcases hb with rfl | ⟨rfl, rfl⟩
  all_goals
    go_enter Tryz.func114, Tryz.ntmps114
    go_wp2_with fail
    refine (wrong_any R s at0 ((c : Int) + 1) (d : Int) 40 _ HS1.out).mono ?_
    rintro e' w' ⟨rfl, rfl⟩
    unfold placedV
    go_wp2_with fail
    refine (ibadi_any _ _ _).mono ?_
    rintro e w1 ⟨rfl, hb1⟩
    have hA1 := (hb1.block _ (lt_of_heap HA0.out)).trans HA0.out
    have k0 := heap_cell hA1 0 _ rfl
    have f0 := heap_frozen hA1 0
    have k1 := heap_cell hA1 1 _ rfl
    have f1 := heap_frozen hA1 1
    have k2 := heap_cell hA1 2 _ rfl
    have f2 := heap_frozen hA1 2
    have k3 := heap_cell hA1 3 _ rfl
    have f3 := heap_frozen hA1 3
    have k4 := heap_cell hA1 4 _ rfl
    have f4 := heap_frozen hA1 4
    have HF := Lib.hid (HF1.out.trans (Fr.below hb1))
    clear hb1 hA1 r2 q2 r3
    go_wp2_with fail
    refine bodyPost_ret (v := .agg #[.int .i64 0, .int .i64 0, .string ⟨#[]⟩, .slice none 0 0, .iface 247 (.agg #[.int .i64 at0, .iface 106 (.agg #[.int .i64 40])])]) (by simp [results, Tryz.results114, go_sem, k0, k1, k2, k3, k4]) rfl ⟨rfl, ?_⟩
    exact frNew (frNew (frNew (frNew (frNew HF.out (Nat.le_refl _) _ _) (Nat.le_refl _) _ _) (Nat.le_refl _) _ _) (Nat.le_refl _) _ _) (Nat.le_refl _) _ _

set_option maxRecDepth 100000 in
set_option maxHeartbeats 2000000 in
theorem next_err (R : Nat) (s : ByteArray) (at0 : Int) (c d : Nat) (m n b e : Int) (w : World) (hH : HeadB R w) (hS : RdS R s at0 (c : Int) (d : Int) w) (hs : s.size ≤ 1000000) (hc : c < 60) (hd : d ≤ 6) (hD : hdecR s at0 = (m, n, b, e)) (he : e ≠ 0) :
    Calls Tryz.prog 114 #[.pointer (some ⟨R, 0, none⟩)] w fun e' w' => e' = .returned (badA (placedV at0 e)) ∧ Fr R w w' := by
  have hl := hS.lt
  have r2 := hS.c2
  have q2 := hS.f2
  have r3 := hS.c3
  have hS1 := (hS.count ((c : Int) + 1)).below ((Below.refl _ _).alloc (Nat.le_refl _) (.cells #[.int .i64 0, .int .i64 0, .string ⟨#[]⟩, .slice none 0 0, .nilIface] 173))
  have hF1 : Fr R w ((w.setCell ⟨R, 2, none⟩ (.int .i64 ((c : Int) + 1))).alloc (.cells #[.int .i64 0, .int .i64 0, .string ⟨#[]⟩, .slice none 0 0, .nilIface] 173)) := frAlloc (Fr.set R 2 w _) _
  have hA0 : ((w.setCell ⟨R, 2, none⟩ (.int .i64 ((c : Int) + 1))).alloc (.cells #[.int .i64 0, .int .i64 0, .string ⟨#[]⟩, .slice none 0 0, .nilIface] 173)).heap[w.heap.size]? = some (.cells #[.int .i64 0, .int .i64 0, .string ⟨#[]⟩, .slice none 0 0, .nilIface] 173 (0, 0)) := by
    have := World.alloc_heap_new (w.setCell ⟨R, 2, none⟩ (.int .i64 ((c : Int) + 1))) (.cells #[.int .i64 0, .int .i64 0, .string ⟨#[]⟩, .slice none 0 0, .nilIface] 173)
    rw [show (w.setCell ⟨R, 2, none⟩ (.int .i64 ((c : Int) + 1))).heap.size = w.heap.size by simp] at this
    exact this
  have hRne : w.heap.size ≠ R := by omega
  have hH1 := (hH.fr hF1 (by omega)).ok
  have HC := Lib.hid (ahead_any R s at0 ((c : Int) + 1) (d : Int) m n b e _ hH1 hS1 hs hD)
  simp only [if_neg he] at HC
  have HF1 := Lib.hid hF1
  have HA0 := Lib.hid hA0
  have b1 : decide (60 < (c : Int) + 1) = false := by simp; omega
  have b2 : decide (6 < (d : Int)) = false := by simp; omega
  clear hS hS1 hF1 hA0 hH hH1 hD he
  unfold badA
  unfold placedV at HC ⊢
  go_enter Tryz.func114, Tryz.ntmps114
  go_wp2_with fail
  refine HC.out.mono ?_
  clear HC
  rintro e' w1 ⟨rfl, hF2⟩
  have hA1 := (hF2.block _ (lt_of_heap HA0.out) (by intro e; cases e; omega)).trans HA0.out
  have HF2 := Lib.hid (HF1.out.trans hF2)
  have HA1 := Lib.hid hA1
  clear hA1 hF2 HF1 HA0
  go_wp2_with fail
  refine (ibadi_any _ _ _).mono ?_
  rintro e w2 ⟨rfl, hb1⟩
  have hA1 := (hb1.block _ (lt_of_heap HA1.out)).trans HA1.out
  have k0 := heap_cell hA1 0 _ rfl
  have f0 := heap_frozen hA1 0
  have k1 := heap_cell hA1 1 _ rfl
  have f1 := heap_frozen hA1 1
  have k2 := heap_cell hA1 2 _ rfl
  have f2 := heap_frozen hA1 2
  have k3 := heap_cell hA1 3 _ rfl
  have f3 := heap_frozen hA1 3
  have k4 := heap_cell hA1 4 _ rfl
  have f4 := heap_frozen hA1 4
  have HF := Lib.hid (HF2.out.trans (Fr.below hb1))
  clear hb1 hA1 r2 q2 r3
  go_wp2_with fail
  refine bodyPost_ret (v := .agg #[.int .i64 0, .int .i64 0, .string ⟨#[]⟩, .slice none 0 0, .iface 247 (.agg #[.int .i64 at0, .iface 106 (.agg #[.int .i64 e])])]) (by simp [results, Tryz.results114, go_sem, k0, k1, k2, k3, k4]) rfl ⟨rfl, ?_⟩
  exact frNew (frNew (frNew (frNew (frNew HF.out (Nat.le_refl _) _ _) (Nat.le_refl _) _ _) (Nat.le_refl _) _ _) (Nat.le_refl _) _ _) (Nat.le_refl _) _ _

theorem enterF {P : Program} {f : FuncId} {fn : Func} {c : Code} (hf : P.funcs[f]? = some fn) (hname : (fn.name == "runtime.NumGoroutine") = false) (hb : fn.body = some c) (args : Array Value) (w : World) : (callFunc f args).run P w = .ok (.enter f args) w := by
  have h1 : fn.name ≠ "runtime.NumGoroutine" := by simpa using hname
  simp [callFunc, hf, h1, hb]

/-- What one that reads what stands behind a head answers: what is wrong, or an item. -/
def KindR (R : Nat) (s : ByteArray) (d : Nat) (W : World) (t : Except Int (Itm × List UInt8 × Nat)) (e' : Ending) (w' : World) : Prop :=
  match t with
  | .error e => ∃ p, e' = .returned (badA (placedV p e)) ∧ Fr R W w'
  | .ok (x, r, c') => ∃ (k n : Int) (q : ByteArray) (p : Option Addr) (m cap : Nat), e' = .returned (.agg #[.int .i64 k, .int .i64 n, .string q, .slice p m cap, .nilIface]) ∧ ItV (fun b => W.heap.size ≤ b) w' x (.agg #[.int .i64 k, .int .i64 n, .string q, .slice p m cap]) ∧ RdS R s ((s.size - r.length : Nat) : Int) (c' : Int) (d : Int) w' ∧ Fr R W w'
theorem NextR_kind (R : Nat) (s : ByteArray) (i c d f : Nat) (w : World) : NextR R s i c d f w = KindR R s d w (rd f c (s.data.toList.drop i)) := by
  funext e' w'
  unfold NextR KindR
  rfl

set_option maxRecDepth 100000 in
set_option maxHeartbeats 4000000 in
theorem next_go (R : Nat) (s : ByteArray) (at0 : Int) (c d : Nat) (m n b : Int) (g : Nat) (t : Except Int (Itm × List UInt8 × Nat)) (w : World) (hH : HeadB R w) (hS : RdS R s at0 (c : Int) (d : Int) w) (hs : s.size ≤ 1000000) (hc : c < 60) (hd : d ≤ 6) (hD : hdecR s at0 = (m, n, b, 0))
    (hk : ∀ (W : World) (B : Nat), W.heap[B]? = some (.map (kindsE R) 4) → (Instr.lookup 227 (.map (some B)) (.int .i64 m) false).run Tryz.prog W = .ok (.func (.func g) #[.pointer (some ⟨R, 0, none⟩)] #[]) W)
    (hcf : ∀ (args : Array Value) (W : World), (callFunc g args).run Tryz.prog W = .ok (.enter g args) W)
    (hg : ∀ W : World, HeadB R W → RdS R s b ((c : Int) + 1) (d : Int) W → Calls Tryz.prog g #[.pointer (some ⟨R, 0, none⟩), .int .i64 n] W (KindR R s d W t)) :
    Calls Tryz.prog 114 #[.pointer (some ⟨R, 0, none⟩)] w (KindR R s d w t) := by
  have hl := hS.lt
  have r2 := hS.c2
  have q2 := hS.f2
  have r3 := hS.c3
  have hS1 := (hS.count ((c : Int) + 1)).below ((Below.refl _ _).alloc (Nat.le_refl _) (.cells #[.int .i64 0, .int .i64 0, .string ⟨#[]⟩, .slice none 0 0, .nilIface] 173))
  have hF1 : Fr R w ((w.setCell ⟨R, 2, none⟩ (.int .i64 ((c : Int) + 1))).alloc (.cells #[.int .i64 0, .int .i64 0, .string ⟨#[]⟩, .slice none 0 0, .nilIface] 173)) := frAlloc (Fr.set R 2 w _) _
  have hA0 : ((w.setCell ⟨R, 2, none⟩ (.int .i64 ((c : Int) + 1))).alloc (.cells #[.int .i64 0, .int .i64 0, .string ⟨#[]⟩, .slice none 0 0, .nilIface] 173)).heap[w.heap.size]? = some (.cells #[.int .i64 0, .int .i64 0, .string ⟨#[]⟩, .slice none 0 0, .nilIface] 173 (0, 0)) := by
    have := World.alloc_heap_new (w.setCell ⟨R, 2, none⟩ (.int .i64 ((c : Int) + 1))) (.cells #[.int .i64 0, .int .i64 0, .string ⟨#[]⟩, .slice none 0 0, .nilIface] 173)
    rw [show (w.setCell ⟨R, 2, none⟩ (.int .i64 ((c : Int) + 1))).heap.size = w.heap.size by simp] at this
    exact this
  have hRne : w.heap.size ≠ R := by omega
  have hH1 := hH.fr hF1 (by omega)
  have HC := Lib.hid (ahead_any R s at0 ((c : Int) + 1) (d : Int) m n b 0 _ hH1.ok hS1 hs hD)
  simp only [if_true] at HC
  have HF1 := Lib.hid hF1
  have HA0 := Lib.hid hA0
  have HH1 := Lib.hid hH1
  have HG := Lib.hid hg
  have b1 : decide (60 < (c : Int) + 1) = false := by simp; omega
  have b2 : decide (6 < (d : Int)) = false := by simp; omega
  clear hS hS1 hF1 hA0 hH hH1 hD hg
  go_enter Tryz.func114, Tryz.ntmps114
  go_wp2_with fail
  refine HC.out.mono ?_
  clear HC
  rintro e' w1 ⟨rfl, hS2, hF2⟩
  have hRl := hS2.lt
  have HH2 := Lib.hid (HH1.out.fr hF2 (by simp; omega))
  have HA1 := Lib.hid ((hF2.block _ (lt_of_heap HA0.out) (by intro e; cases e; omega)).trans HA0.out)
  have hz1 : w.heap.size < w1.heap.size := lt_of_heap HA1.out
  have HF2 := Lib.hid (HF1.out.trans hF2)
  have HS2 := Lib.hid hS2
  clear hF2 HF1 HA0 HH1 hS2 r2 q2 r3
  go_wp2_with fail
  refine (kinds_any R _).mono ?_
  rintro e' w2 ⟨rfl, hM, hb2⟩
  have hlk := hk w2 _ hM
  have hz2 : w1.heap.size ≤ w2.heap.size := hb2.size
  have HC2 := Lib.hid (HG.out w2 (HH2.out.fr (Fr.below hb2) (by omega)) (HS2.out.below hb2))
  have HF3 := Lib.hid (HF2.out.trans (Fr.below hb2))
  have HA2 := Lib.hid ((hb2.block _ hz1).trans HA1.out)
  clear hb2 hM HS2 HF2 HA1 HG HH2 hk
  go_wp2_with fail
  refine HC2.out.mono ?_
  clear HC2
  unfold KindR
  cases t with
  | error e =>
    unfold badA placedV
    rintro e' w3 ⟨p, rfl, hF4⟩
    have hA3 := (hF4.block _ (lt_of_heap HA2.out) (by intro e; cases e; omega)).trans HA2.out
    have k0 := heap_cell hA3 0 _ rfl
    have f0 := heap_frozen hA3 0
    have k1 := heap_cell hA3 1 _ rfl
    have f1 := heap_frozen hA3 1
    have k2 := heap_cell hA3 2 _ rfl
    have f2 := heap_frozen hA3 2
    have k3 := heap_cell hA3 3 _ rfl
    have f3 := heap_frozen hA3 3
    have k4 := heap_cell hA3 4 _ rfl
    have f4 := heap_frozen hA3 4
    have HF := Lib.hid (HF3.out.trans hF4)
    clear hF4 hA3 HF3 HA2
    go_wp2_with fail
    refine bodyPost_ret (v := .agg #[.int .i64 0, .int .i64 0, .string ⟨#[]⟩, .slice none 0 0, .iface 247 (.agg #[.int .i64 p, .iface 106 (.agg #[.int .i64 e])])]) (by simp [results, Tryz.results114, go_sem, k0, k1, k2, k3, k4]) rfl ⟨p, rfl, ?_⟩
    exact frNew (frNew (frNew (frNew (frNew HF.out (Nat.le_refl _) _ _) (Nat.le_refl _) _ _) (Nat.le_refl _) _ _) (Nat.le_refl _) _ _) (Nat.le_refl _) _ _
  | ok t =>
    obtain ⟨x, r, c'⟩ := t
    rintro e' w3 ⟨k, nn, q, p, l, cap, rfl, hx, hS4, hF4⟩
    have hA3 := (hF4.block _ (lt_of_heap HA2.out) (by intro e; cases e; omega)).trans HA2.out
    have k0 := heap_cell hA3 0 _ rfl
    have f0 := heap_frozen hA3 0
    have k1 := heap_cell hA3 1 _ rfl
    have f1 := heap_frozen hA3 1
    have k2 := heap_cell hA3 2 _ rfl
    have f2 := heap_frozen hA3 2
    have k3 := heap_cell hA3 3 _ rfl
    have f3 := heap_frozen hA3 3
    have k4 := heap_cell hA3 4 _ rfl
    have f4 := heap_frozen hA3 4
    have HF := Lib.hid (HF3.out.trans hF4)
    have HS := Lib.hid hS4
    have HX := Lib.hid hx
    clear hF4 hA3 HF3 HA2 hx hS4
    go_wp2_with fail
    refine bodyPost_ret (v := .agg #[.int .i64 k, .int .i64 nn, .string q, .slice p l cap, .nilIface]) (by simp [results, Tryz.results114, go_sem, k0, k1, k2, k3, k4]) rfl ⟨k, nn, q, p, l, cap, rfl, ?_, ?_, ?_⟩
    · refine ItV.keep (fun a v hb e => ⟨?_, by omega⟩) x _ HX.out
      have hne : a.block ≠ w.heap.size := by omega
      exact (cell_heap (Below.heap_setCell _ _ _ _ hne)).trans ((cell_heap (Below.heap_setCell _ _ _ _ hne)).trans ((cell_heap (Below.heap_setCell _ _ _ _ hne)).trans ((cell_heap (Below.heap_setCell _ _ _ _ hne)).trans ((cell_heap (Below.heap_setCell _ _ _ _ hne)).trans e))))
    · exact ((((HS.out.other hRne _ _).other hRne _ _).other hRne _ _).other hRne _ _).other hRne _ _
    · exact frNew (frNew (frNew (frNew (frNew HF.out (Nat.le_refl _) _ _) (Nat.le_refl _) _ _) (Nat.le_refl _) _ _) (Nat.le_refl _) _ _) (Nat.le_refl _) _ _
end Go.Proofs.YtmbmolgkccjedaaGreatDoor

/- A reader's number, data, letters, list by what is read; next by what is read. -/
set_option linter.unusedVariables false
set_option linter.unusedSimpArgs false
namespace Go.Proofs.YtmbmolgkccjedaaGreatDoor
open Go.RowKit

/-- Bytes behind a head of kind m. -/
def dat (m n : Nat) (l : List UInt8) (c : Nat) : Except Int (Itm × List UInt8 × Nat) :=
  if 600 < n then .error 40 else
  if l.length < n then .error 11 else
  if m = 3 ∧ txtB (l.take n) = false then .error 20 else
  .ok (.mk m 0 (l.take n) [], l.drop n, c)

theorem drop_len_ba (s : ByteArray) (i : Nat) : (s.data.toList.drop i).length = s.size - i := by
  rw [List.length_drop, Array.length_toList]
  rfl
theorem drop_place (s : ByteArray) {i : Nat} (hi : i ≤ s.size) : s.size - (s.data.toList.drop i).length = i := by
  rw [drop_len_ba]; omega
theorem extract_drop (s : ByteArray) (i n : Nat) : (s.extract i (i + n)).data.toList = (s.data.toList.drop i).take n := by
  rw [ByteArray.data_extract, Array.toList_extract, List.extract_eq_take_drop]
  congr 1
  omega

/-- An item without a list. -/
theorem ItV.leaf {ok : Nat → Prop} {W : World} (k n : Int) (q : ByteArray) (hq : q.size ≤ maxLen) (hk : (Lit.int .i64 k).wf = true) (hn : (Lit.int .i64 n).wf = true) : ItV ok W (.mk k n q.data.toList []) (.agg #[.int .i64 k, .int .i64 n, .string q, .slice none 0 0]) := by
  have hs : (⟨q.data.toList.toArray⟩ : ByteArray) = q := by simp
  simp only [ItV]
  exact ⟨none, 0, by rw [hs]; rfl, Nat.le_refl _, Nat.zero_le _, by rw [Array.length_toList]; exact hq, hk, hn, by simp [ItsV]⟩
theorem wf_nat {n : Nat} (h : n ≤ 281474976710655) : (Lit.int .i64 (n : Int)).wf = true := by
  have h1 : IntKind.min .i64 = -9223372036854775808 := by decide
  have h2 : IntKind.max .i64 = 9223372036854775807 := by decide
  simp only [Lit.wf, h1, h2, Bool.and_eq_true, decide_eq_true_eq]
  omega

theorem kind_number (R : Nat) (s : ByteArray) (i c d n : Nat) (W : World) (hS : RdS R s (i : Int) (c : Int) (d : Int) W) (hi : i ≤ s.size) (hn : n ≤ 281474976710655) :
    Calls Tryz.prog 154 #[.pointer (some ⟨R, 0, none⟩), .int .i64 (n : Int)] W (KindR R s d W (.ok (.mk 0 n [] [], s.data.toList.drop i, c))) := by
  refine (number_item R n W).mono ?_
  rintro e w' ⟨rfl, hb⟩
  unfold KindR
  refine ⟨0, n, ⟨#[]⟩, none, 0, 0, rfl, ItV.leaf 0 n ⟨#[]⟩ (by decide) (by decide) (wf_nat hn), ?_, Fr.below hb⟩
  rw [drop_place s hi]
  exact hS.below hb

theorem kind_data (R : Nat) (s : ByteArray) (i c d n : Nat) (W : World) (hH : HeadB R W) (hS : RdS R s (i : Int) (c : Int) (d : Int) W) (hs : s.size ≤ 1000000) (hi : i ≤ s.size) (hn : n ≤ 281474976710655) :
    Calls Tryz.prog 155 #[.pointer (some ⟨R, 0, none⟩), .int .i64 (n : Int)] W (KindR R s d W (dat 2 n (s.data.toList.drop i) c)) := by
  unfold dat
  by_cases h6 : 600 < n
  · rw [if_pos h6]
    refine (data_great R s i c d n W hS (by omega)).mono ?_
    rintro e w' ⟨rfl, hf⟩
    exact ⟨_, rfl, hf⟩
  rw [if_neg h6, drop_len_ba]
  by_cases hl : s.size - i < n
  · rw [if_pos hl]
    have hc : cutR s (i : Int) (n : Int) = (⟨#[]⟩, 11) := cutR_bad (by unfold fitsB; omega)
    refine (data_any R s i c d n ⟨#[]⟩ 11 W hH.ok hS hs hc (by omega) (by omega) (by omega) (by omega)).mono ?_
    intro e w' h
    exact h
  rw [if_neg hl, if_neg (by omega)]
  have hc : cutR s (i : Int) (n : Int) = (s.extract i (i + n), 0) := by
    rw [cutR_ok (by unfold fitsB; omega)]
    rfl
  refine (data_any R s i c d n _ 0 W hH.ok hS hs hc (by omega) (by omega) (by omega) (by omega)).mono ?_
  rintro e w' ⟨rfl, h1, h2⟩
  unfold KindR
  refine ⟨2, 0, s.extract i (i + n), none, 0, 0, rfl, ?_, ?_, h2⟩
  · rw [← extract_drop]
    exact ItV.leaf 2 0 _ (by rw [ByteArray.size_extract]; unfold maxLen; omega) (by decide) (by decide)
  · rw [List.drop_drop, drop_place s (by omega)]
    exact h1

theorem kind_letters (R : Nat) (s : ByteArray) (i c d n : Nat) (W : World) (hH : HeadB R W) (hS : RdS R s (i : Int) (c : Int) (d : Int) W) (hs : s.size ≤ 1000000) (hi : i ≤ s.size) (hn : n ≤ 281474976710655) :
    Calls Tryz.prog 156 #[.pointer (some ⟨R, 0, none⟩), .int .i64 (n : Int)] W (KindR R s d W (dat 3 n (s.data.toList.drop i) c)) := by
  have hl := hS.lt
  have hBA := (Below.refl W.heap.size W).alloc (Nat.le_refl _) (.cells #[.int .i64 0, .int .i64 0, .string ⟨#[]⟩, .slice none 0 0, .nilIface] 173)
  have hS1 := hS.below hBA
  have hH1 := hH.fr (Fr.below (R := R) hBA) (by omega)
  unfold dat
  by_cases h6 : 600 < n
  · rw [if_pos h6]
    refine (letters_bad R n 40 W hl ((data_great R s i c d n _ hS1 (by omega)).mono ?_)).mono ?_
    · rintro e w' ⟨rfl, hf⟩
      exact ⟨_, rfl, hf⟩
    · intro e w' h
      exact h
  rw [if_neg h6, drop_len_ba]
  by_cases hln : s.size - i < n
  · rw [if_pos hln]
    have hc : cutR s (i : Int) (n : Int) = (⟨#[]⟩, 11) := cutR_bad (by unfold fitsB; omega)
    refine (letters_bad R n 11 W hl ((data_any R s i c d n ⟨#[]⟩ 11 _ hH1.ok hS1 hs hc (by omega) (by omega) (by omega) (by omega)).mono ?_)).mono ?_
    · intro e w' h
      exact h
    · intro e w' h
      exact h
  rw [if_neg hln]
  have hc : cutR s (i : Int) (n : Int) = (s.extract i (i + n), 0) := by
    rw [cutR_ok (by unfold fitsB; omega)]
    rfl
  have hqs : (s.extract i (i + n)).size ≤ maxLen := by rw [ByteArray.size_extract]; unfold maxLen; omega
  refine (letters_ok R s i c d n (s.extract i (i + n)) W hl hqs ((data_any R s i c d n _ 0 _ hH1.ok hS1 hs hc (by omega) (by omega) (by omega) (by omega)).mono ?_)).mono ?_
  · intro e w' h
    exact h
  intro e w' h
  rw [extract_drop] at h
  by_cases ht : txtB ((s.data.toList.drop i).take n) = true
  · rw [if_pos ht] at h
    rw [if_neg (by rw [ht]; simp)]
    obtain ⟨rfl, h1, h2⟩ := h
    unfold KindR
    refine ⟨3, 0, s.extract i (i + n), none, 0, 0, rfl, ?_, ?_, h2⟩
    · rw [← extract_drop]
      exact ItV.leaf 3 0 _ hqs (by decide) (by decide)
    · rw [List.drop_drop, drop_place s (by omega)]
      exact h1
  · rw [if_neg ht] at h
    rw [if_pos ⟨rfl, by simpa using ht⟩]
    exact h

/-- What is read, by its head. -/
theorem rd_head {f c : Nat} {l : List UInt8} {m n k : Nat} (hc : c < 60) (h : hdL l = .ok (m, n, k)) : rd (f + 1) c l =
    if m = 0 then .ok (.mk 0 n [] [], l.drop k, c + 1) else
    if m = 4 then (match rdN (rd f) n (c + 1) (l.drop k) with
        | .error e => .error e
        | .ok (xs, r, c') => .ok (.mk 4 0 [] xs, r, c')) else dat m n (l.drop k) (c + 1) := by
  rw [rd, if_neg (by omega), h]
  rfl
theorem rd_herr {f c : Nat} {l : List UInt8} {e : Int} (hc : c < 60) (h : hdL l = .error e) : rd (f + 1) c l = .error e := by
  rw [rd, if_neg (by omega), h]

theorem hdecR_list (s : ByteArray) (i : Nat) (hi : i ≤ s.size) : (∃ e, hdL (s.data.toList.drop i) = .error e ∧ hdecR s (i : Int) = (0, 0, 0, e) ∧ e ≠ 0) ∨ ∃ m n k : Nat, hdL (s.data.toList.drop i) = .ok (m, n, k) ∧ hdecR s (i : Int) = ((m : Int), (n : Int), ((i + k : Nat) : Int), 0) ∧ Maj m ∧ n ≤ 281474976710655 ∧ i + k ≤ s.size := by
  by_cases hl : i < s.size
  · cases hd : hdL (s.data.toList.drop i) with
    | error e => exact .inl ⟨e, rfl, hdecR_err hl hd, by rcases hdL_err hd with rfl | rfl | rfl <;> decide⟩
    | ok t =>
      obtain ⟨m, n, k⟩ := t
      obtain ⟨h1, h2, h3, h4, h5⟩ := hdL_back hd
      rw [drop_len_ba] at h4
      exact .inr ⟨m, n, k, rfl, by rw [hdecR_ok hl hd]; simp, h1, h2, by omega⟩
  · refine .inl ⟨11, ?_, hdecR_out (.inr (by omega)), by decide⟩
    rw [List.drop_of_length_le (by rw [Array.length_toList]; show s.size ≤ i; omega)]
    rfl

theorem look_at (R : Nat) {i : Nat} {k : Int} {v : Value} (hf : Instr.findNow (.int .i64) (.int .i64 k) (kindsE R).toList 0 = some (some (i, v))) (W : World) (B : Nat) (h : W.heap[B]? = some (.map (kindsE R) 4)) : (Instr.lookup 227 (.map (some B)) (.int .i64 k) false).run Tryz.prog W = .ok v W := look_run B 4 i (kindsE R) k v W h hf

theorem next_any : ∀ (f d : Nat), d + f = 7 → ∀ (R : Nat) (s : ByteArray) (i c : Nat) (w : World), HeadB R w → RdS R s (i : Int) (c : Int) (d : Int) w → s.size ≤ 1000000 → i ≤ s.size → c ≤ 60 →
    Calls Tryz.prog 114 #[.pointer (some ⟨R, 0, none⟩)] w (NextR R s i c d f w) := by
  intro f
  induction f with
  | zero =>
    intro d hd R s i c w hH hS hs hi hc
    rw [NextR_kind]
    refine (next_full R s i c d w hS hc (by omega) (.inr (by omega))).mono ?_
    rintro e w' ⟨rfl, hf⟩
    exact ⟨_, rfl, hf⟩
  | succ f ih =>
    intro d hd R s i c w hH hS hs hi hc
    rw [NextR_kind]
    by_cases h60 : 60 ≤ c
    · have e : rd (f + 1) c (s.data.toList.drop i) = .error 40 := by rw [rd, if_pos h60]
      rw [e]
      refine (next_full R s i c d w hS hc (by omega) (.inl h60)).mono ?_
      rintro e w' ⟨rfl, hf⟩
      exact ⟨_, rfl, hf⟩
    rcases hdecR_list s i hi with ⟨e, h1, h2, h3⟩ | ⟨m, n, k, h1, h2, hM, hN, hk⟩
    · rw [rd_herr (by omega) h1]
      refine (next_err R s i c d 0 0 0 e w hH hS hs (by omega) (by omega) h2 h3).mono ?_
      rintro e w' ⟨rfl, hf⟩
      exact ⟨_, rfl, hf⟩
    rw [rd_head (by omega) h1, List.drop_drop]
    have hm : m = 0 ∨ m = 2 ∨ m = 3 ∨ m = 4 := by unfold Maj at hM; omega
    have e1 : ((c : Int) + 1) = ((c + 1 : Nat) : Int) := by omega
    rcases hm with rfl | rfl | rfl | rfl
    · rw [if_pos rfl]
      exact next_go R s i c d _ _ _ _ _ w hH hS hs (by omega) (by omega) h2 (look_at R rfl) (enterF Tryz.func154 (by kernel_rfl) rfl) (fun W hW hSW => kind_number R s (i + k) (c + 1) d n W (by rw [← e1]; exact hSW) hk hN)
    · rw [if_neg (by omega), if_neg (by omega)]
      exact next_go R s i c d _ _ _ _ _ w hH hS hs (by omega) (by omega) h2 (look_at R rfl) (enterF Tryz.func155 (by kernel_rfl) rfl) (fun W hW hSW => kind_data R s (i + k) (c + 1) d n W hW (by rw [← e1]; exact hSW) hs hk hN)
    · rw [if_neg (by omega), if_neg (by omega)]
      exact next_go R s i c d _ _ _ _ _ w hH hS hs (by omega) (by omega) h2 (look_at R rfl) (enterF Tryz.func156 (by kernel_rfl) rfl) (fun W hW hSW => kind_letters R s (i + k) (c + 1) d n W hW (by rw [← e1]; exact hSW) hs hk hN)
    · rw [if_neg (by omega), if_pos rfl]
      refine next_go R s i c d _ _ _ _ _ w hH hS hs (by omega) (by omega) h2 (look_at R rfl) (enterF Tryz.func157 (by kernel_rfl) rfl) (fun W hW hSW => ?_)
      refine (list_any f R s (i + k) (c + 1) d n W hW (by rw [← e1]; exact hSW) hs hk (by omega) (by omega) hN (fun i c W h1 h2 h3 h4 => ih (d + 1) (by omega) R s i c W h1 h2 hs h3 h4)).mono ?_
      intro e w' h
      unfold ListR at h
      unfold KindR
      cases hr : rdN (rd f) n (c + 1) (s.data.toList.drop (i + k)) with
      | error e => rw [hr] at h; exact h
      | ok t =>
        obtain ⟨xs, r, c'⟩ := t
        rw [hr] at h
        obtain ⟨p, cap, h1, h2, h3, h4⟩ := h
        exact ⟨4, 0, ⟨#[]⟩, p, xs.length, cap, h1, h2, h3, h4⟩
end Go.Proofs.YtmbmolgkccjedaaGreatDoor
