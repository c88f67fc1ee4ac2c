/- each of package disk: the sectors, as an iterator. -/
import Derived.RangeFuncNested
import Derived.RangeFuncBound
import Derived.RangeFuncCalls
import Derived.RangeFuncLeaves
import Derived.RangeFuncFrom
import Derived.Shelf.Abstract
import Derived.Shelf.RegionOpen
import Derived.WalkKit
import Derived.OwnWalkIn
import Derived.TacticsInMore
import Derived.LoopNIn
import Derived.LoopIn
import Derived.Scope
import Derived.Deep.WholeRow
import Derived.Test.YtpafpmefhfmndaaDoorKWriteW
set_option linter.unusedVariables false
set_option linter.unusedSimpArgs false
namespace Go.Proofs.YtpafpmefhfmndaaDoor
open Go.RowKit Go.Shelf

attribute [local go_sem] Oper.semAt_some

/-- A sector's cells. -/
def scells (s : ByteArray) : Array Value := (Lib.byteCells s.data.toList).toArray
theorem scells_size {s : ByteArray} (h : s.size = 64) : (scells s).size = 64 := by
  unfold scells; rw [List.size_toArray, Lib.byteCells_length, Array.length_toList]; exact h

/-- The bytes of one sector. -/
abbrev S64 := { s : ByteArray // s.size = 64 }
def raw (xs : List S64) : List ByteArray := xs.map (·.1)
theorem raw_all (xs : List S64) : All64 (raw xs) := fun s hs => by
  obtain ⟨x, _, rfl⟩ := List.mem_map.1 hs
  exact x.2
theorem raw_snoc (xs : List S64) (x : S64) : raw (xs ++ [x]) = raw xs ++ [x.1] := by simp [raw]
theorem raw_take (xs : List S64) (k : Nat) : raw (xs.take k) = (raw xs).take k := by simp [raw, List.map_take]
theorem raw_length (xs : List S64) : (raw xs).length = xs.length := by simp [raw]
theorem raw_of {ss : List ByteArray} (h : All64 ss) : ∃ xs, raw xs = ss := by
  induction ss with
  | nil => exact ⟨[], rfl⟩
  | cons s r ih =>
    obtain ⟨xs, e⟩ := ih (fun x hx => h x (List.mem_cons_of_mem _ hx))
    exact ⟨⟨s, h s (List.mem_cons_self ..)⟩ :: xs, by simp [raw, ← e]⟩

/-- The sectors ss lie in the block b. -/
def SecAt (b : Nat) (ss : List ByteArray) (w : World) : Prop := ∀ i s, ss[i]? = some s → w.rangeAt b (i * 64) (Lib.byteCells s.data.toList)
/-- What a round keeps: the cells of the block b. -/
def KeepBlk (b : Nat) (W W' : World) : Prop := ∀ j v, W.cell? ⟨b, j, none⟩ = some v → W'.cell? ⟨b, j, none⟩ = some v
theorem keepBlk_t {b : Nat} {A B C : World} (h : KeepBlk b A B) (k : KeepBlk b B C) : KeepBlk b A C := fun j v e => k j v (h j v e)
theorem keepBlk_b {b : Nat} {w : World} (W : World) (l : Nat) (o o' : Obj) (_ : w.heap.size ≤ l) (h : W.heap[l]? = some o) (hc : o.isCells = false) (_ : o.isWalk = false) : KeepBlk b W (W.putObj l o') :=
  fun j v e => cell_kept e (grownBy_putObj' _ l o') (fun r e => by cases e; exact ⟨_, h, hc⟩)
theorem KeepBlk.sec {b : Nat} {ss : List ByteArray} {W W' : World} (h : KeepBlk b W W') (hs : SecAt b ss W) : SecAt b ss W' := fun i s e j v hv => h _ _ (hs i s e j v hv)
theorem KeepBlk.below {b : Nat} {W W' : World} (hb : Below W.heap.size W W') : KeepBlk b W W' := fun j v e => (hb.cell (World.block_lt_of_cell? _ _ e)).trans e

theorem wpListIn_load_mid {F : Fence} {n : Nat} {P : Program} {ops : Array Oper} {rest : List Oper} {op : Oper} {a : Act} {w : World} {Q : Exit → Act → World → Prop} (hgd : op.guard = none) (ty : TypeId) (x : Operand) (ho : op.op = .load ty x)
    (b o : Nat) (hx : a.eval x = .pointer (some ⟨b, o, none⟩)) (cs : List Value) (d : TypeDesc) (hc : w.rangeAt b o cs)
    (hu : P.underlying ty = some d) (hd : d.isRow = true) (hi : (P.info? ty).map (·.size) = some cs.length) (c : Array Value) (hcc : cs.toArray = c)
    (h : wpListIn F n P ops Q rest (a.put op.dst (.agg c)) w) : wpListIn F n P ops Q (op :: rest) a w := by
  subst hcc
  refine wpListIn_plain hgd fun K hK => ?_
  unfold Oper.wpIn
  refine ⟨?_, ?_⟩
  · simp [Oper.about, ho]
  · rw [Oper.semAt_plain F _ _ (by rw [ho]; intro c hc'; cases hc')]
    simp [execOp, ho, hx, Instr.loadAt, Instr.sureAddr, run_loadVar_mid w b o ty cs d hc hu hd hi, Result.andThen]
    exact hK _ _ h

theorem wpListIn_store_new {F : Fence} {n : Nat} {P : Program} {ops : Array Oper} {rest : List Oper} {op : Oper} {a : Act} {w : World} {Q : Exit → Act → World → Prop} (hgd : op.guard = none) (t : TypeId) (x y : Operand) (ho : op.op = .store t x y)
    (c c' : Array Value) (hx : a.eval x = .pointer (some ⟨w.heap.size, 0, none⟩)) (hy : a.eval y = .agg c') (hi : (P.info? t).map (·.size) = some c'.size) (hc : c.size = c'.size) (h1 : c'.all (·.oneCell') = true)
    (h : wpListIn F n P ops Q rest (a.put op.dst undef) (w.alloc (.cells c' t))) : wpListIn F n P ops Q (op :: rest) a (w.alloc (.cells c t)) := by
  refine wpListIn_plain hgd fun K hK => ?_
  unfold Oper.wpIn
  refine ⟨?_, ?_⟩
  · simp [Oper.about, ho]
  · rw [Oper.semAt_plain F _ _ (by rw [ho]; intro c hc'; cases hc')]
    simp [execOp, ho, hx, hy, Instr.storeAt, Instr.sureAddr, run_storeVar_new (P := P) w t c c' hi hc h1, Result.andThen]
    exact hK _ _ h

theorem scells_one (s : ByteArray) : (scells s).all (·.oneCell') = true := all_oneCell_toArray (Lib.byteCells_one _)
theorem sector_size : (Tryd.prog.info? 80).map (·.size) = some 64 := by kernel_rfl
theorem scells_def (s : ByteArray) : (Lib.byteCells s.data.toList).toArray = scells s := rfl
theorem range_new (w : World) (t : TypeId) (s : ByteArray) : (w.alloc (.cells (scells s) t)).rangeAt w.heap.size 0 (Lib.byteCells s.data.toList) := fun j v hv => by
  rw [← scells_def]
  rw [Nat.zero_add, cell_of_row _ _ j _ t (0, 0) (heap_alloc_new w _)]
  simpa using hv

set_option maxRecDepth 100000 in
set_option maxHeartbeats 2000000 in
theorem values1_in (F : Fence) (n : Nat) (hf : F.fn 68) (hro : F.round = none) (hn : 1 ≤ n) (l Bs b : Nat) (xs : List S64) (hm : xs.length ≤ 256) (J Jx : List S64 → World → Prop)
    (hJ : ∀ pre W o, J pre W → J pre (W.alloc o))
    (hY : ∀ pre (x : S64) W, J pre W → pre.length < xs.length → YieldAt F (n - 1) Tryd.prog l #[.agg (scells x.1)] W fun e W' =>
      (e = .returned (.bool true) ∧ J (pre ++ [x]) W' ∧ KeepBlk b W W') ∨ (e = .returned (.bool false) ∧ Jx (pre ++ [x]) W'))
    (W : World) (hBs : W.cell? ⟨Bs, 0, none⟩ = some (.slice (some ⟨b, 0, none⟩) xs.length xs.length)) (hS : SecAt b (raw xs) W) (h0 : J [] W) :
    CallsIn F n Tryd.prog 68 #[.func (.yield l) #[] #[], .pointer (some ⟨Bs, 0, none⟩)] W fun e W' => (∃ v, e = .returned v) ∧
      ((∃ ys, ys = xs ∧ J ys W') ∨ (∃ pre, (∃ k, pre = xs.take k) ∧ Jx pre W')) := by
  refine callsIn_of_wp Tryd.func68 rfl hf ?_ hro
  simp only [Tryd.ntmps68, List.size_toArray, List.length_cons, List.length_nil, Nat.reduceAdd, Nat.reduceSub, Array.replicate_succ, Array.replicate_zero, List.push_toArray, List.append_toArray, List.nil_append, List.cons_append]
  gi_wp2
  clear hBs
  gi_loopw [7] (fun i wr => ∃ k : Nat, k ≤ xs.length ∧ i = .int .i64 k ∧ J (xs.take k) wr ∧ SecAt b (raw xs) wr)
    (fun i _ => xs.length - (intOf i).toNat)
  case atStart => exact ⟨0, Nat.zero_le _, rfl, by simpa using h0, hS⟩
  case round =>
    obtain ⟨k, hk, rfl, hJs, hSr⟩ := hrel
    clear hS
    by_cases hlt : k < xs.length
    · obtain ⟨x0, hx⟩ : ∃ x, xs[k]? = some x := ⟨_, List.getElem?_eq_getElem hlt⟩
      have hr := hSr k x0.1 (by simp [raw, hx])
      have hxv := hx
      obtain ⟨x, hx64⟩ := x0
      clear hxv
      have HXX := Lib.hid (show x.size = 64 from hx64)
      simp only at hr
      have hs1 : (Tryd.prog.info? 80).map (·.size) = some (Lib.byteCells x.data.toList).length := by rw [Lib.byteCells_length, Array.length_toList]; exact sector_size.trans (congrArg some hx64.symm)
      have hs2 : (Tryd.prog.info? 80).map (·.size) = some (scells x).size := by rw [scells_size hx64]; exact sector_size
      have H1 := Lib.hid hs1
      have H2 := Lib.hid hs2
      have HR := Lib.hid hr
      have HX := Lib.hid hx
      have H64 := HXX
      clear hs1 hs2 hr hx
      have hJx := hJ _ _ (.cells (scells x) 80) hJs
      obtain ⟨fn, tmps, assign, body, hy, hRR⟩ := hY (xs.take k) ⟨x, hx64⟩ _ hJx (by rw [List.length_take]; omega)
      have HJS := Lib.hid hJs
      clear hJs hJx
      gi_wp2_with (first
        | (with_reducible refine wpListIn_load_mid rfl 80 _ rfl b (k * 64) rfl (Lib.byteCells x.data.toList) _ HR.out Tryd.underlying80 rfl H1.out (scells x) (scells_def x) ?_)
        | ((with_reducible refine wpListIn_store_new rfl 80 _ _ rfl _ (scells x) rfl rfl H2.out ?hc (scells_one x) ?_); case hc => (rw [scells_size H64.out]; rfl))
        | (with_reducible refine wpListIn_load_mid rfl 80 _ rfl wr.heap.size 0 rfl (Lib.byteCells x.data.toList) _ (range_new wr _ _) Tryd.underlying80 rfl H1.out (scells x) (scells_def x) ?_))
      refine hRR.mono ?_
      rintro e W3 (⟨rfl, hJ3, hk3⟩ | ⟨rfl, hJx3⟩)
      · have hS3 := (keepBlk_t (KeepBlk.below ((Below.refl _ _).alloc (Nat.le_refl _) _)) hk3).sec hSr
        have ht : xs.take (k + 1) = xs.take k ++ [⟨x, hx64⟩] := by rw [List.take_add_one, HX.out]; rfl
        have HT := Lib.hid ht
        clear ht
        gi_wp2
        go_roundw
        case rel => exact ⟨k + 1, by omega, by simp, by rw [HT.out]; exact hJ3, hS3⟩
        case measure => simp [intOf]; omega
      · have ht : xs.take (k + 1) = xs.take k ++ [⟨x, hx64⟩] := by rw [List.take_add_one, HX.out]; rfl
        have HT := Lib.hid ht
        clear ht
        gi_wp2
        refine bodyPost_ret (results_none rfl _ _ _) rfl ?_
        exact ⟨⟨_, rfl⟩, .inr ⟨_, ⟨k + 1, HT.out.symm⟩, hJx3⟩⟩
    · obtain rfl : k = xs.length := by omega
      have HJS := Lib.hid hJs
      clear hJs
      gi_wp2
      go_end0
      have hJe := HJS.out
      rw [List.take_length] at hJe
      exact ⟨⟨_, rfl⟩, .inl ⟨_, rfl, hJe⟩⟩

set_option maxHeartbeats 1000000 in
theorem values_any (p : Option Addr) (m c : Nat) (w : World) :
    Calls Tryd.prog 64 #[.slice p m c] w fun e w' => e = .returned (.func (.func 68) #[] #[.pointer (some ⟨w.heap.size, 0, none⟩)]) ∧ w' = w.alloc (.cells #[.slice p m c] 62) := by
  have hmf : ∀ (fn : Fn) (first cap : Array Value) (w : World), (Instr.makeFunc fn first cap).run Tryd.prog w = .ok (.func fn first cap) w := fun _ _ _ _ => rfl
  go_enter Tryd.func64, Tryd.ntmps64
  go_wp2
  go_ret
  exact ⟨rfl, rfl⟩

set_option maxHeartbeats 1000000 in
theorem deach_any (p : Option Addr) (m c : Nat) (w : World) :
    Calls Tryd.prog 55 #[.agg #[.slice p m c]] w fun e w' => e = .returned (.func (.func 68) #[] #[.pointer (some ⟨w.heap.size + 1, 0, none⟩)]) ∧ w' = (w.alloc (.cells #[.slice p m c] 64)).alloc (.cells #[.slice p m c] 62) := by
  go_enter Tryd.func55, Tryd.ntmps55
  go_wp2_with fail
  refine (values_any _ _ _ _).mono ?_
  rintro e w' ⟨rfl, rfl⟩
  go_wp2
  go_ret
  exact ⟨by simp, rfl⟩

theorem values1_stops (F : Fence) (n : Nat) (hf : F.fn 68) (hro : F.round = none) (hn : 1 ≤ n) (Bs b : Nat) (xs : List S64) (hm : xs.length ≤ 256) (w : World)
    (hBs : w.cell? ⟨Bs, 0, none⟩ = some (.slice (some ⟨b, 0, none⟩) xs.length xs.length)) (hS : SecAt b (raw xs) w) :
    SeqStopsK F n Tryd.prog 68 #[.pointer (some ⟨Bs, 0, none⟩)] (fun x : S64 => #[Value.agg (scells x.1)]) (KeepBlk b) (fun ys => ys = xs) (fun pre => ∃ k, pre = xs.take k) xs.length w := fun l J Jx W hW hJ _ hY h0 => by
  have hlt := World.block_lt_of_cell? _ _ hBs
  have hS' : SecAt b (raw xs) W := fun i s e j v hv => by
    have hc := hS i s e j v hv
    exact (hW.cell (World.block_lt_of_cell? _ _ hc)).trans hc
  refine (values1_in F n hf hro hn l Bs b xs hm J Jx (fun pre W' o h => ?_) hY W ((hW.cell (p := ⟨Bs, 0, none⟩) hlt).trans hBs) hS' h0).mono ?_
  · exact hJ _ _ _ none h (World.grownBy_alloc W' o none) (fun r e => by cases e)
  · rintro e W' ⟨he, ⟨ys, rfl, hj⟩ | ⟨pre, hk, hj⟩⟩
    · exact ⟨he, .inl ⟨_, rfl, hj⟩⟩
    · exact ⟨he, .inr ⟨_, hk, hj⟩⟩
end Go.Proofs.YtpafpmefhfmndaaDoor
