/- Appends of one element to a row of the call's own, as steps; a row of bytes as a text; three texts put together byte by byte: mixed of the statements' package 05. -/
import Derived.Test.YtpccbiopljmnlaaDoorCStr
import Derived.Test.YtpccbiopljmnlaaDoorCLaw
import Derived.OwnWalk
import Derived.Deep.RegionLaw
set_option linter.unusedVariables false
set_option linter.unusedSimpArgs false
namespace Go.Proofs.YtpccbiopljmnlaaDoor
open Go.RowKit

theorem ownsRow_belowL {w w' : World} {base : Nat} {e : TypeId} {size : Nat} {v : Value} {n : Nat} {xs : List Value} (h : w.ownsRow base e size v n xs) (hb : Below w.heap.size w w') : w'.ownsRow base e size v n xs := by
  have hg : w.grownBy w' none := ⟨hb.os, hb.tape, hb.output, hb.size, fun k hk _ => hb.block k hk⟩
  refine h.kept hg ?_
  by_cases e : v.ownBlock = none
  · exact .inl e
  · exact .inr e

/-- A byte as a cell. -/
def bvl (b : UInt8) : Value := .int .u8 (b.toNat : Int)

theorem conv_ownL {w : World} {base : Nat} {v : Value} {l : List UInt8} (h : w.ownsRow base 5 1 v l.length (l.map bvl)) : (convert 39 9 v).run Tryd.prog w = .ok (.string ⟨l.toArray⟩) w := by
  have h' := h
  rcases h'.2 with ⟨rfl, h0⟩ | ⟨g, cap, cur, rfl, _⟩
  · have : l = [] := List.eq_nil_of_length_eq_zero h0
    subst this
    exact run_convert_bytes_nil w _ 5 Tryd.underlying39 Tryd.underlying5 0 0 _ Tryd.underlying9
  · refine run_convert_bytes_back w _ _ 5 _ cap l Tryd.underlying39 Tryd.underlying5 Tryd.underlying9 ?_
    intro j hj
    exact h.cells (g := g) rfl j _ (by simp [hj, bvl])


/-- An append of one element, as a step of a region that draws. -/
theorem step_append1 {P : Program} {ops : Array Oper} {o : Oper} {a : Act} {w : World} {K : Act → World → Prop} {Q : Exit → Act → World → Prop} {E : Prop} (hgd : o.guard = none) (s x : Operand) (t : TypeId)
    (ho : o.op = .call { callee := .builtin .append, args := #[s, x], argTypes := #[t, t] })
    (base : Nat) (e : TypeId) (i : TypeInfo) (z : Value) (bytes : Nat) (ht : P.underlying t = some (.slice e)) (hi : P.info? e = some i) (hz : i.zero = some z)
    (hsize : i.size = 1) (hby : i.bytes = bytes) (hzs : z.cells.size = 1)
    (v : Value) (n : Nat) (xs : List Value) (hs : a.eval s = v) (hown : w.ownsRow base e 1 v n xs)
    (ad : Addr) (c : Nat) (u : Value) (hx : a.eval x = .slice (some ad) 1 c) (hnews : w.cell? (ad.add 0) = some u) (h1 : u.oneCell' = true)
    (h63 : n + 1 ≤ maxLen) (hbytes : (n + 1) * bytes ≤ 140737488355328) (hbase : base ≤ w.heap.size)
    (h : ∀ v' w', w'.ownsRow base e 1 v' (n + 1) (xs ++ [u]) → w.grownBy w' v.ownBlock → K (a.put o.dst v') w') :
    if Region.wanted o (yielded ops a.tmps) = true then Oper.wp P o a w K Q else E := by
  have hw : Region.wanted o (yielded ops a.tmps) = true := by simp [Region.wanted, hgd]
  rw [if_pos hw]
  obtain ⟨v', w', hr, h2, h3, h4⟩ := run_append_own (P := P) w base t o.type e i z 1 bytes ht hi hz hsize hby hzs (by decide) v n xs hown ad 1 c [u] rfl (fun j y hj => by
    rcases j with _ | j
    · obtain rfl : u = y := by simpa using hj
      exact hnews
    · simp at hj) (fun y hy => by obtain rfl : y = u := by simpa using hy
                                  exact h1) h63 hbytes hbase
  unfold Oper.wp execOp
  simp only [ho, resolve, invoke, builtin, Sem.run_bind, Sem.run_pure, Result.andThen_ok, List.map_toArray, List.map_cons, List.map_nil, hs, hx, hr]
  exact h v' w' h2 h3

/-- What holds at a round's head of mixed: j bytes stand in the row. -/
structure MixAt (s t u : ByteArray) (w : World) (j : Nat) (v : Value) (wr : World) : Prop where
  le : j ≤ s.size
  own : wr.ownsRow w.heap.size 5 1 v j ((mix3 (firstB s j) (firstB t j) (firstB u j)).map bvl)
  below : Below w.heap.size w wr

theorem mixT_length (s t u : ByteArray) (j : Nat) (h1 : s.size = t.size) (h2 : s.size = u.size) (hj : j ≤ s.size) : (mix3 (firstB s j) (firstB t j) (firstB u j)).length = j := by
  rw [mix3_length (by rw [firstB_length s j hj, firstB_length t j (by omega)]) (by rw [firstB_length s j hj, firstB_length u j (by omega)]), firstB_length s j hj]

theorem MixAt.step {s t u : ByteArray} {w wr wn : World} {j : Nat} {v v' : Value} {o : Obj} (h : MixAt s t u w j v wr) (h1 : s.size = t.size) (h2 : s.size = u.size) (hj : j < s.size) (y : UInt8) (hy : y = s[j] ^^^ t[j] ^^^ u[j])
    (hown : wn.ownsRow w.heap.size 5 1 v' (j + 1) ((mix3 (firstB s j) (firstB t j) (firstB u j)).map bvl ++ [bvl y])) (hg : ((wr.alloc o).drew).grownBy wn v.ownBlock) : MixAt s t u w (j + 1) v' wn := by
  refine ⟨hj, ?_, ?_⟩
  · rw [firstB_succ s j hj, firstB_succ t j (by omega), firstB_succ u j (by omega), mix3_snoc _ _ _ (by rw [firstB_length s j (by omega), firstB_length t j (by omega)]) (by rw [firstB_length s j (by omega), firstB_length u j (by omega)]), List.map_append, ← hy]
    exact hown
  · have hb : Below w.heap.size w (wr.alloc o).drew := (h.below.alloc h.below.size _).drew
    exact hb.grown hg hb.size (fun g e => (h.own.lt g e).1)

set_option maxRecDepth 100000 in
set_option maxHeartbeats 2000000 in
theorem mixed_any (s t u : ByteArray) (w : World) (h1 : s.size = t.size) (h2 : s.size = u.size) (hs : s.size ≤ 200) :
    Calls Tryd.prog 21 #[.string s, .string t, .string u] w fun e w' => e = .returned (.string ⟨(mix3 s.data.toList t.data.toList u.data.toList).toArray⟩) ∧ Below w.heap.size w w' := by
  obtain ⟨i0, hi, hz0, hz1, hz2⟩ := info_parts u8_info
  have n1 : ((s.size : Int) != (t.size : Int)) = false := by rw [h1]; simp
  have n2 : ((s.size : Int) != (u.size : Int)) = false := by rw [h2]; simp
  have H1 := Lib.hid h1
  have H2 := Lib.hid h2
  clear h1 h2
  go_enter Tryd.func21, Tryd.ntmps21
  go_wp2
  go_loopw [7, 8] (fun v i wr => ∃ j : Nat, i = .int .i64 (j : Int) ∧ MixAt s t u w j v wr) (fun _ i _ => s.size - (intOf i).toNat)
  case atStart => exact ⟨0, rfl, Nat.zero_le _, by simpa [firstB, mix3] using World.ownsRow_nil _ _ _ _, Below.refl _ _⟩
  case round =>
    obtain ⟨j, rfl, hI⟩ := hrel
    have hle := hI.le
    by_cases hlt : j < s.size
    · have hjt : j < t.size := by have := H1.out; omega
      have hju : j < u.size := by have := H2.out; omega
      have x1 := fun w => ix_str s (j : Int) j rfl hlt w
      have x2 := fun w => ix_str t (j : Int) j rfl hjt w
      have x3 := fun w => ix_str u (j : Int) j rfl hju w
      have e1 : bits .xor .u8 ((s[j].toNat : Nat) : Int) ((t[j].toNat : Nat) : Int) = (((s[j] ^^^ t[j]).toNat : Nat) : Int) := by
        rw [u8_xor_nat _ _ (s[j]).toNat_lt (t[j]).toNat_lt, UInt8.toNat_xor]
      have e2 : bits .xor .u8 (((s[j] ^^^ t[j]).toNat : Nat) : Int) ((u[j].toNat : Nat) : Int) = (((s[j] ^^^ t[j] ^^^ u[j]).toNat : Nat) : Int) := by
        rw [u8_xor_nat _ _ (s[j] ^^^ t[j]).toNat_lt (u[j]).toNat_lt, UInt8.toNat_xor (s[j] ^^^ t[j]) u[j]]
      have HST := Lib.hid (fun wn v' o => MixAt.step (wn := wn) (v' := v') (o := o) hI H1.out H2.out hlt _ rfl)
      have HOW := Lib.hid (ownsRow_belowL hI.own (((Below.refl _ wr).alloc (Nat.le_refl _) (.cells #[.int .u8 (((s[j] ^^^ t[j] ^^^ u[j]).toNat : Nat) : Int)] 5)).drew))
      have hsz := hI.below.size
      clear hI
      generalize s[j] ^^^ t[j] ^^^ u[j] = y at *
      generalize s[j] ^^^ t[j] = z at *
      generalize s[j] = b1 at *
      generalize t[j] = b2 at *
      generalize u[j] = b3 at *
      have hc0 : ((wr.alloc (.cells #[.int .u8 ((y.toNat : Nat) : Int)] 5)).drew).cell? ((⟨wr.heap.size, 0, none⟩ : Addr).add 0) = some (bvl y) := by simp [Addr.add, bvl, go_sem]
      have hbs : w.heap.size ≤ ((wr.alloc (.cells #[.int .u8 ((y.toNat : Nat) : Int)] 5)).drew).heap.size := by simp; omega
      have h63 : j + 1 ≤ maxLen := by unfold maxLen; omega
      have hby : (j + 1) * 1 ≤ 140737488355328 := by omega
      go_wp2_with fail
      go_region_law (first
        | (refine step_append1 rfl _ _ 39 rfl w.heap.size 5 i0 (.int .u8 0) 1 Tryd.underlying39 hi hz0 hz1 hz2 rfl u7 j _ rfl HOW.out ⟨wr.heap.size, 0, none⟩ 1 (bvl y) rfl hc0 rfl h63 hby hbs ?_
           intro v' w4 hown4 hg4
           have HO4 := Lib.hid hown4
           have HG4 := Lib.hid hg4
           clear hown4 hg4))
      all_goals
        have HF := Lib.hid (HST.out _ _ _ HO4.out HG4.out)
        clear HO4 HG4 HST HOW x1 x2 x3 e1 e2 hc0
        go_wp2
        go_roundw
        case rel => exact ⟨j + 1, by go_num, HF.out⟩
        case measure => simp [intOf]; omega
    · obtain rfl : j = s.size := by omega
      have hl := mixT_length s t u s.size H1.out H2.out (Nat.le_refl _)
      have eT : firstB t s.size = t.data.toList := by rw [H1.out]; exact firstB_all t
      have eU : firstB u s.size = u.data.toList := by rw [H2.out]; exact firstB_all u
      have hown := hI.own
      rw [firstB_all s, eT, eU] at hown hl
      have hcv := conv_ownL (l := mix3 s.data.toList t.data.toList u.data.toList) (by rw [hl]; exact hown)
      have HB := Lib.hid hI.below
      clear hI hown hl eT eU
      go_wp2
      go_ret
      exact ⟨rfl, HB.out⟩
end Go.Proofs.YtpccbiopljmnlaaDoor
