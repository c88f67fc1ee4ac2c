/- The iterator of each of package eid again, over parts that bear a fact each. -/
import Derived.Test.YtmpokhdljlnllaaDoorEEach
set_option linter.unusedVariables false
set_option linter.unusedSimpArgs false
namespace Go.Proofs.YtmpokhdljlnllaaDoor
open Go.RowKit Go.Shelf

attribute [local go_sem] Oper.semAt_some

set_option maxRecDepth 100000 in
set_option maxHeartbeats 2000000 in
theorem each1_of {α : Type} (val : α → ByteArray × Bool) (l n : Nat) (J Jx : List α → World → Prop) (A Q m : Nat) (ps : List α) (hm : ps.length = m) (hmx : m ≤ 1000)
    (hJ : ∀ pre W o, J pre W → J pre (W.alloc o))
    (hY : ∀ pre (x : α) W, J pre W → pre.length < m → YieldAt Fence.wide (n - 1) Tryd.prog l #[.agg #[.string (val x).1, .bool (val x).2]] W fun e W' =>
      (e = .returned (.bool true) ∧ J (pre ++ [x]) W' ∧ KeepA A W W') ∨ (e = .returned (.bool false) ∧ Jx (pre ++ [x]) W'))
    (W : World) (hQ : W.cell? ⟨Q, 0, none⟩ = some (.slice (some ⟨A, 0, none⟩) m m)) (hP : PtsRd A (ps.map val) W) (h0 : J [] W) :
    CallsIn Fence.wide n Tryd.prog 61 #[.func (.yield l) #[] #[], .pointer (some ⟨Q, 0, none⟩)] W fun e W' => (∃ v, e = .returned v) ∧
      ((∃ ys, ys = ps ∧ J ys W') ∨ (∃ pre, pre <+: ps ∧ Jx pre W')) := by
  have HP := Lib.hid hP
  have HL := Lib.hid hm
  clear hP hm
  refine callsIn_of_wp Tryd.func61 rfl trivial ?_ rfl
  simp only [Tryd.ntmps61, List.size_toArray, List.length_cons, List.length_nil, Nat.reduceAdd, Nat.reduceSub, Array.replicate_succ, Array.replicate_zero, List.push_toArray, List.append_toArray, List.nil_append, List.cons_append]
  gi_wp2
  clear hQ
  gi_loopw [7] (fun i wr => ∃ k : Nat, k ≤ m ∧ i = .int .i64 (k : Int) ∧ J (ps.take k) wr ∧ KeepA A W wr) (fun i _ => m - (intOf i).toNat)
  case atStart => exact ⟨0, Nat.zero_le _, rfl, h0, KeepA.refl _ _⟩
  case round =>
    obtain ⟨k, hk, rfl, hJs, hkw⟩ := hrel
    have HKW := Lib.hid hkw
    clear hkw
    by_cases hlt : k < m
    · obtain ⟨x, hx⟩ : ∃ x, ps[k]? = some x := ⟨_, List.getElem?_eq_getElem (by have := HL.out; omega)⟩
      have hP1 := HP.out.keep HKW.out
      have hxv : (ps.map val)[k]? = some (val x) := by rw [List.getElem?_map, hx]; rfl
      have k0 := hP1.c0 k _ hxv
      have k1 := hP1.c1 k _ hxv
      have HX := Lib.hid (show ps.take (k + 1) = ps.take k ++ [x] by rw [List.take_add_one, hx]; rfl)
      have HLT := Lib.hid (show (ps.take k).length < m by rw [List.length_take, HL.out]; omega)
      clear hP1 hx hxv
      obtain ⟨fn, tmps, assign, body, hy, hR⟩ := hY (ps.take k) x (wr.alloc (.cells #[.string (val x).1, .bool (val x).2] 69)) (hJ _ _ _ hJs) HLT.out
      have HR := Lib.hid hR
      have HJ := Lib.hid hJ
      have HY := Lib.hid hY
      clear hR hJ hY hJs h0
      generalize val x = vx at k0 k1 HR hy
      obtain ⟨xs, xb⟩ := vx
      simp only at k0 k1 HR hy
      gi_wp2
      refine ⟨fun h => (by cases h), ?_⟩
      refine HR.out.mono ?_
      clear HR k0 k1
      rintro e W3 (⟨rfl, hJ3, hk3⟩ | ⟨rfl, hJx3⟩)
      · have HK3 := Lib.hid (HKW.out.trans ((KeepA.alloc _ _).trans hk3))
        have HJ3 := Lib.hid hJ3
        clear hk3 hJ3
        gi_wp2
        go_roundw
        case rel => exact ⟨k + 1, by omega, by go_num, by rw [HX.out]; exact HJ3.out, HK3.out⟩
        case measure => simp [intOf]; omega
      · have HJ3 := Lib.hid hJx3
        clear hJx3
        gi_wp2
        refine bodyPost_ret (results_none rfl _ _ _) rfl ?_
        refine ⟨⟨_, rfl⟩, .inr ⟨_, ?_, HJ3.out⟩⟩
        rw [← HX.out]
        exact List.take_prefix _ _
    · obtain rfl : k = m := by omega
      have HJS := Lib.hid hJs
      clear hJs h0
      gi_wp2
      go_end0
      exact ⟨⟨_, rfl⟩, .inl ⟨_, rfl, by rw [List.take_of_length_le (by rw [HL.out]; exact Nat.le_refl _)] at HJS; exact HJS.out⟩⟩

/-- The parts in a row, as an iterator that a round may stop. -/
theorem each_stops_of {α : Type} (val : α → ByteArray × Bool) (n : Nat) (A Q m : Nat) (ps : List α) (hm : ps.length = m) (hmx : m ≤ 1000) (w : World) (hQ : w.cell? ⟨Q, 0, none⟩ = some (.slice (some ⟨A, 0, none⟩) m m)) (hP : PtsRd A (ps.map val) w) :
    SeqStopsK Fence.wide n Tryd.prog 61 #[.pointer (some ⟨Q, 0, none⟩)] (fun x : α => #[Value.agg #[.string (val x).1, .bool (val x).2]]) (KeepA A) (fun ys => ys = ps) (fun pre => pre <+: ps) m w := fun l J Jx W hW hJ _ hY h0 => by
  refine (each1_of val l n J Jx A Q m ps hm hmx (fun pre W' o h => hJ _ _ _ none h (World.grownBy_alloc W' o none) (fun r e => by cases e)) hY W ((hW.cell (World.block_lt_of_cell? _ _ hQ)).trans hQ) (hP.keep (KeepA.below hW)) h0).mono ?_
  rintro e W' ⟨he, ⟨ys, hk, hj⟩ | ⟨ys, hk, hj⟩⟩
  · exact ⟨he, .inl ⟨_, hk, hj⟩⟩
  · exact ⟨he, .inr ⟨_, hk, hj⟩⟩
end Go.Proofs.YtmpokhdljlnllaaDoor
