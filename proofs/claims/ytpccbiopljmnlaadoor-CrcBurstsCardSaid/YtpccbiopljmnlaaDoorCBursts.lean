/- Bytes beside each other that are changed, no more than a sum has, make another sum: the walk of CrcBursts. -/
import Derived.Test.YtpccbiopljmnlaaDoorCStr
import Derived.Test.YtpccbiopljmnlaaDoorCLaw
set_option linter.unusedVariables false
set_option linter.unusedSimpArgs false
namespace Go.Proofs.YtpccbiopljmnlaaDoor
open Go.RowKit

theorem one_b (y : UInt8) (W : World) : (convert 39 9 (.slice (some ⟨W.heap.size, 0, none⟩) 1 1)).run Tryd.prog (W.alloc (.cells #[.int .u8 ((y.toNat : Nat) : Int)] 5)) = .ok (.string ⟨#[y]⟩) (W.alloc (.cells #[.int .u8 ((y.toNat : Nat) : Int)] 5)) := by
  have h := run_convert_bytes_back (P := Tryd.prog) (W.alloc (.cells #[.int .u8 ((y.toNat : Nat) : Int)] 5)) 39 9 5 ⟨W.heap.size, 0, none⟩ 1 [y] Tryd.underlying39 Tryd.underlying5 Tryd.underlying9 (fun j hj => by
    obtain rfl : j = 0 := by simpa using hj
    simp [Addr.add])
  simpa using h
theorem one_bd (y : UInt8) (W : World) : (convert 39 9 (.slice (some ⟨W.heap.size, 0, none⟩) 1 1)).run Tryd.prog (W.alloc (.cells #[.int .u8 ((y.toNat : Nat) : Int)] 5)).drew = .ok (.string ⟨#[y]⟩) (W.alloc (.cells #[.int .u8 ((y.toNat : Nat) : Int)] 5)).drew := by
  have h := run_convert_bytes_back (P := Tryd.prog) (W.alloc (.cells #[.int .u8 ((y.toNat : Nat) : Int)] 5)).drew 39 9 5 ⟨W.heap.size, 0, none⟩ 1 [y] Tryd.underlying39 Tryd.underlying5 Tryd.underlying9 (fun j hj => by
    obtain rfl : j = 0 := by simpa using hj
    simp [Addr.add])
  simpa using h

/-- What holds at a round's head: the four numbers; j bytes are changed. -/
structure BurAt (w : World) (X : Nat) (a b c d : Int) (wr : World) : Prop where
  x0 : wr.cell? ⟨X, 0, none⟩ = some (.int .i64 a)
  x1 : wr.cell? ⟨X, 1, none⟩ = some (.int .i64 b)
  x2 : wr.cell? ⟨X, 2, none⟩ = some (.int .i64 c)
  x3 : wr.cell? ⟨X, 3, none⟩ = some (.int .i64 d)
  below : Below w.heap.size w wr
theorem BurAt.get {w wr : World} {X : Nat} {a b c d e : Int} {j : Nat} (h : BurAt w X a b c d wr) (hj : [a, b, c, d][j]? = some e) : wr.cell? ⟨X, j, none⟩ = some (.int .i64 e) := by
  rcases j with _ | _ | _ | _ | j
  · obtain rfl : a = e := by simpa using hj
    exact h.x0
  · obtain rfl : b = e := by simpa using hj
    exact h.x1
  · obtain rfl : c = e := by simpa using hj
    exact h.x2
  · obtain rfl : d = e := by simpa using hj
    exact h.x3
  · simp at hj
theorem BurAt.later {w wr wn : World} {X : Nat} {a b c d : Int} (h : BurAt w X a b c d wr) (hb : Below wr.heap.size wr wn) : BurAt w X a b c d wn := by
  have hx : X < wr.heap.size := World.block_lt_of_cell? _ _ h.x0
  obtain ⟨hc, hf⟩ := bcell hb
  exact ⟨(hc _ 0 hx).trans h.x0, (hc _ 1 hx).trans h.x1, (hc _ 2 hx).trans h.x2, (hc _ 3 hx).trans h.x3, h.below.trans (hb.mono h.below.size)⟩

set_option maxRecDepth 100000 in
set_option maxHeartbeats 2000000 in
theorem bursts_yes (k : Int) (s q : ByteArray) (at0 n : Nat) (a b c d : Int) (ys : List UInt8) (u v t p1 p4 p5 p12 : ByteArray) (w : World) (hC : CrcOK w) (hs : s.size ≤ maxLen) (hq : s.extract 0 (min s.size 200) = q) (hql : q.size ≤ 200) (hn : sizR k = (n : Int)) (hn1 : 1 ≤ n) (hn4 : n ≤ 4) (hat : at0 + n ≤ q.size) (hyl : ys.length = n)
    (hx : ∀ (j : Nat) (x : Int), [a, b, c, d][j]? = some x → ∀ y : UInt8, ys[j]? = some y → ∃ z : Nat, (∀ w, (Instr.index 9 (.string q) (.int .i64 ((at0 : Int) + (j : Int)))).run Tryd.prog w = .ok (.int .u8 (z : Int)) w) ∧ bits .xor .u8 (z : Int) (x % 256) = ((y.toNat : Nat) : Int))
    (hu : ofR k q = (u, 0)) (hv : ofR k t = (v, 0)) (htl : t.size ≤ 1000)
    (s1 : ∀ w, (Instr.slice 9 (.string q) none (some (.int .i64 (at0 : Int))) none).run Tryd.prog w = .ok (.string p1) w)
    (s4 : ∀ w, (Instr.slice 9 (.string q) (some (.int .i64 ((at0 : Int) + (n : Int)))) none none).run Tryd.prog w = .ok (.string p4) w)
    (s5 : ∀ w, (Instr.slice 9 (.string q) (some (.int .i64 (at0 : Int))) (some (.int .i64 ((at0 : Int) + (n : Int)))) none).run Tryd.prog w = .ok (.string p5) w)
    (c1 : ∀ w, (Op.stringOp .add p1 ⟨ys.toArray⟩).run Tryd.prog w = .ok (.string p12) w) (c2 : ∀ w, (Op.stringOp .add p12 p4).run Tryd.prog w = .ok (.string t) w)
    (hiff : ∃ b : Bool, (u.toList == v.toList) = b ∧ ((⟨ys.toArray⟩ : ByteArray).toList == p5.toList) = b) :
    Calls Tryd.prog 5 #[.int .i64 k, .string s, .int .i64 (at0 : Int), .int .i64 a, .int .i64 b, .int .i64 c, .int .i64 d] w fun e w' => e = .returned (.bool true) ∧ Below w.heap.size w w' := by
  obtain ⟨bb, hb1, hb2⟩ := hiff
  have Q := Lib.hid hq
  have HN := Lib.hid hn
  have HU := Lib.hid hu
  have HV := Lib.hid hv
  have HX := Lib.hid hx
  have HYL := Lib.hid hyl
  have HS1 := Lib.hid s1
  have HS4 := Lib.hid s4
  have HS5 := Lib.hid s5
  have HC1 := Lib.hid c1
  have HC2 := Lib.hid c2
  have HB1 := Lib.hid hb1
  have HB2 := Lib.hid hb2
  clear hq hn hu hv hx hyl s1 s4 s5 c1 c2 hb1 hb2
  have b0 : decide ((at0 : Int) < 0) = false := by simp
  have b1 : decide ((n : Int) < 1) = false := by simp; omega
  have b2 : decide (4 < (n : Int)) = false := by simp; omega
  have b3 : decide ((q.size : Int) - (n : Int) < (at0 : Int)) = false := by simp; omega
  go_enter Tryd.func5, Tryd.ntmps5
  go_wp2_with fail
  refine (shown_any _ hC).mono ?_
  rintro e w1 ⟨rfl, hw1⟩
  go_wp2_with fail
  refine (lawCut_any s _ hs).mono ?_
  rintro e w' ⟨rfl, rfl⟩
  rw [Q.out]
  go_wp2_with fail
  refine (size_any k _ (hC.below hw1)).mono ?_
  rintro e w2 ⟨rfl, hw2⟩
  replace hw2 := hw1.trans (hw2.mono hw1.size)
  rw [HN.out]
  have HI0 := Lib.hid (show BurAt w w2.heap.size a b c d (w2.alloc (.cells #[.int .i64 a, .int .i64 b, .int .i64 c, .int .i64 d] 3)) from ⟨by go_simp, by go_simp, by go_simp, by go_simp, hw2.alloc hw2.size _⟩)
  clear hw1 hw2
  go_wp2_with fail
  go_loopw [18, 19] (fun t i wr => ∃ j : Nat, j ≤ n ∧ t = .string ⟨(ys.take j).toArray⟩ ∧ i = .int .i64 (j : Int) ∧ BurAt w w2.heap.size a b c d wr) (fun _ i _ => n - (intOf i).toNat)
  case atStart => exact ⟨0, by omega, rfl, rfl, HI0.out⟩
  case round =>
    obtain ⟨j, hj, rfl, rfl, hI⟩ := hrel
    clear HI0
    by_cases hlt : j < n
    · obtain ⟨x, hx⟩ : ∃ x, [a, b, c, d][j]? = some x := ⟨_, List.getElem?_eq_getElem (by simp; omega)⟩
      obtain ⟨y, hy⟩ : ∃ y, ys[j]? = some y := ⟨_, List.getElem?_eq_getElem (by have := HYL.out; omega)⟩
      obtain ⟨z, hz1, hz2⟩ := HX.out j x hx y hy
      have hcx := hI.get hx
      have HN1 := Lib.hid (show ys.take (j + 1) = ys.take j ++ [y] by rw [List.take_add_one, hy]; rfl)
      have HI := Lib.hid hI
      have hl : (ys.take j).length ≤ 4 := by rw [List.length_take]; omega
      clear hx hy hI
      generalize ys.take j = l at *
      have hcat := fun w => cat_str ⟨l.toArray⟩ ⟨#[y]⟩ (show l.toArray.size + 1 ≤ 1000000 by simp; omega) w
      have hone := one_b y
      have honed := one_bd y
      have ew : IntKind.i64.wrap ((at0 : Int) + (j : Int)) = (at0 : Int) + (j : Int) := IntWalk.i64_in _ (by omega)
      have t1 : (j : Int) < 4 := by omega
      have hsz : w2.heap.size < wr.heap.size := World.block_lt_of_cell? _ _ HI.out.x0
      go_wp2_with fail
      go_region
      have HC9 := Lib.hid (show (⟨l.toArray⟩ : ByteArray) ++ ⟨#[y]⟩ = ⟨(l ++ [y]).toArray⟩ by apply ByteArray.ext; simp)
      have HI9 := Lib.hid (HI.out.later (((Below.refl _ wr).alloc (Nat.le_refl _) (.cells #[.int .u8 ((y.toNat : Nat) : Int)] 5)).drew))
      clear hcat hone honed hz1 hz2 HI hcx
      go_wp2
      go_roundw
      case rel => exact ⟨j + 1, by omega, by rw [HN1.out, ← HC9.out], by go_num, HI9.out⟩
      case measure => simp [intOf]; omega
    · obtain rfl : j = n := by omega
      have eT : ys.take j = ys := List.take_of_length_le (by have := HYL.out; omega)
      rw [eT]
      clear eT HX hlt hj
      have HB := Lib.hid hI.below
      have hCr := hC.below hI.below
      clear hI
      obtain ⟨ty, hty⟩ : ∃ ty : ByteArray, ty = ⟨ys.toArray⟩ := ⟨_, rfl⟩
      rw [← hty] at HC1 HB2 ⊢
      clear hty
      go_wp2_with fail
      refine (of_any k q _ hCr (by omega)).mono ?_
      rintro e w3 ⟨rfl, hw3⟩
      rw [HU.out]
      have HB3 := Lib.hid (HB.out.trans (hw3.mono HB.out.size))
      clear hw3 hCr
      go_wp2_with fail
      have hC3 := Lib.hid (hC.below HB3.out.drew)
      have s1 := HS1.out
      have s4 := HS4.out
      have c1 := HC1.out
      have c2 := HC2.out
      have ew : IntKind.i64.wrap ((at0 : Int) + (j : Int)) = (at0 : Int) + (j : Int) := IntWalk.i64_in _ (by omega)
      go_region_held3 (fun w' => True)
        (first | exact trivial)
        (first
          | ((go_at_call 16; refine (of_any k t _ hC3.out (by omega)).mono ?_; rintro e w4 ⟨rfl, hw4⟩; rw [HV.out])))
      have HB4 := Lib.hid (HB3.out.drew.trans (hw4.mono HB3.out.drew.size))
      have s5 := HS5.out
      have hb1 := HB1.out
      have hb2 := HB2.out
      clear hw4 HB3 hC3 s1 s4 c1 c2
      go_wp2
      go_ret
      exact ⟨rfl, HB4.out⟩

set_option maxRecDepth 100000 in
set_option maxHeartbeats 2000000 in
theorem bursts_out (k : Int) (s q : ByteArray) (at0 n a b c d : Int) (w : World) (hC : CrcOK w) (hs : s.size ≤ maxLen) (hq : s.extract 0 (min s.size 200) = q) (hql : q.size ≤ 200) (hn : sizR k = n) (hn4 : 0 ≤ n ∧ n ≤ 4)
    (h : decide (at0 < 0) = true ∨ decide (at0 < 0) = false ∧ (decide (n < 1) = true ∨ decide (n < 1) = false ∧ decide (4 < n) = false ∧ decide ((q.size : Int) - n < at0) = true)) :
    Calls Tryd.prog 5 #[.int .i64 k, .string s, .int .i64 at0, .int .i64 a, .int .i64 b, .int .i64 c, .int .i64 d] w fun e w' => e = .returned (.bool true) ∧ Below w.heap.size w w' := by
  have Q := Lib.hid hq
  have HN := Lib.hid hn
  clear hq hn
  rcases h with h1 | ⟨h1, h2 | ⟨h2, h3, h4⟩⟩
  all_goals
    go_enter Tryd.func5, Tryd.ntmps5
    go_wp2_with fail
    refine (shown_any _ hC).mono ?_
    rintro e w1 ⟨rfl, hw1⟩
    go_wp2_with fail
    refine (lawCut_any s _ hs).mono ?_
    rintro e w' ⟨rfl, rfl⟩
    rw [Q.out]
    go_wp2_with fail
    refine (size_any k _ (hC.below hw1)).mono ?_
    rintro e w2 ⟨rfl, hw2⟩
    replace hw2 := hw1.trans (hw2.mono hw1.size)
    rw [HN.out]
    go_wp2
    go_ret
    exact ⟨rfl, hw2⟩

/-- A byte and a number's lowest byte, put together. -/
def xorB (x : UInt8) (a : Int) : UInt8 := x ^^^ UInt8.ofNat (a % 256).toNat
theorem xorB_bits (x : UInt8) (a : Int) : bits .xor .u8 ((x.toNat : Nat) : Int) (a % 256) = (((xorB x a).toNat : Nat) : Int) := by
  have h0 : 0 ≤ a % 256 := Int.emod_nonneg _ (by decide)
  have h1 : a % 256 < 256 := Int.emod_lt_of_pos _ (by decide)
  obtain ⟨m, hm⟩ := Int.eq_ofNat_of_zero_le h0
  have hm2 : m < 256 := by omega
  unfold xorB
  rw [hm, u8_xor_nat _ _ x.toNat_lt hm2, UInt8.toNat_xor]
  simp
  rw [Nat.mod_eq_of_lt hm2]

theorem split_n (l : List UInt8) (i n : Nat) : l = l.take i ++ ((l.drop i).take n ++ l.drop (i + n)) := by
  rw [← List.drop_drop, List.take_append_drop, List.take_append_drop]

theorem bursts_walk (k : Int) (s : ByteArray) (at0 a b c d : Int) (w : World) (hC : CrcOK w) (_ : (Lit.int .i64 k).wf = true) (hs : s.size ≤ maxLen) (_ : (Lit.int .i64 at0).wf = true) (_ : (Lit.int .i64 a).wf = true) (_ : (Lit.int .i64 b).wf = true) (_ : (Lit.int .i64 c).wf = true) (_ : (Lit.int .i64 d).wf = true) :
    Calls Tryd.prog 5 #[.int .i64 k, .string s, .int .i64 at0, .int .i64 a, .int .i64 b, .int .i64 c, .int .i64 d] w fun e w' => e = .returned (.bool true) ∧ Below w.heap.size w w' := by
  have hql := cut_le s
  generalize hq : s.extract 0 (min s.size 200) = q at *
  have h04 : 0 ≤ sizR k ∧ sizR k ≤ 4 := by rcases sizR_cases k with ⟨h, _, _⟩ | ⟨_, h | h⟩ <;> omega
  by_cases h1 : at0 < 0
  · exact bursts_out k s q at0 (sizR k) a b c d w hC hs hq hql rfl h04 (.inl (decide_eq_true h1))
  rcases sizR_cases k with ⟨h0, _, _⟩ | ⟨hk, hsz⟩
  · exact bursts_out k s q at0 (sizR k) a b c d w hC hs hq hql rfl h04 (.inr ⟨decide_eq_false h1, .inl (decide_eq_true (by omega))⟩)
  by_cases h2 : (q.size : Int) - sizR k < at0
  · exact bursts_out k s q at0 (sizR k) a b c d w hC hs hq hql rfl h04 (.inr ⟨decide_eq_false h1, .inr ⟨decide_eq_false (by omega), decide_eq_false (by omega), decide_eq_true h2⟩⟩)
  obtain ⟨i, rfl⟩ := Int.eq_ofNat_of_zero_le (show 0 ≤ at0 by omega)
  obtain ⟨n, hn⟩ := Int.eq_ofNat_of_zero_le h04.1
  have hn' : n = 2 ∨ n = 4 := by omega
  have hi : i + n ≤ q.size := by omega
  have hsq : q.data.toList.length = q.size := by simp
  obtain ⟨ps, hps⟩ : ∃ ps, ps = (q.data.toList.drop i).take n := ⟨_, rfl⟩
  have hpl : ps.length = n := by rw [hps, List.length_take, List.length_drop]; omega
  obtain ⟨ys, hys⟩ : ∃ ys, ys = List.zipWith xorB ps [a, b, c, d] := ⟨_, rfl⟩
  have hyl : ys.length = n := by rw [hys, List.length_zipWith, hpl]; simp; omega
  have hlq := split_n q.data.toList i n
  rw [← hps] at hlq
  have e5 : (q.extract i (i + n)).data.toList = ps := by rw [ext_list, hps, show i + n - i = n by omega]
  obtain ⟨t, ht⟩ : ∃ t, t = q.extract 0 i ++ ⟨ys.toArray⟩ ++ q.extract (i + n) q.size := ⟨_, rfl⟩
  have hlt : t.data.toList = q.data.toList.take i ++ (ys ++ q.data.toList.drop (i + n)) := by
    rw [ht, app_list, app_list, ext_list, ext_list]
    have e3 : (q.data.toList.drop (i + n)).take (q.size - (i + n)) = q.data.toList.drop (i + n) := List.take_of_length_le (by rw [List.length_drop]; omega)
    rw [e3]
    simp
  obtain ⟨u, v, hu, hv, hb, hus, hvs⟩ := of_burst hk (s := ps) (t := ys) (a := q.data.toList.take i) (b := q.data.toList.drop (i + n)) (by omega) (by omega) hlq hlt
  have htl : t.size ≤ 1000 := by
    have : t.size = t.data.toList.length := by simp
    rw [this, hlt]
    simp
    omega
  have hysz : (⟨ys.toArray⟩ : ByteArray).size = n := by show ys.toArray.size = n; simpa using hyl
  have z1 : (q.extract 0 i).size ≤ 200 := by rw [ByteArray.size_extract]; omega
  have z4 : (q.extract (i + n) q.size).size ≤ 200 := by rw [ByteArray.size_extract]; omega
  refine bursts_yes k s q i n a b c d ys u v t (q.extract 0 i) (q.extract (i + n) q.size) (q.extract i (i + n)) (q.extract 0 i ++ ⟨ys.toArray⟩) w hC hs hq hql hn (by omega) (by omega) hi hyl ?_ hu hv htl
    (fun w => sl_to q i (by omega) w) (fun w => sl_from q _ (i + n) (by omega) (by omega) w) (fun w => sl_mid q _ _ i (i + n) rfl (by omega) (by omega) (by omega) w)
    (fun w => cat_str _ _ (by omega) w) (fun w => by rw [ht]; exact cat_str _ _ (by rw [ByteArray.size_append]; omega) w) ⟨decide (ps = ys), hb, ?_⟩
  · intro j x hx y hy
    have hjn : j < n := by have := (List.getElem?_eq_some_iff.1 hy).1; omega
    refine ⟨(q[i + j]'(by omega)).toNat, fun w => ix_str q _ (i + j) (by omega) (by omega) w, ?_⟩
    have hp0 : ps[j]? = q.data.toList[i + j]? := by subst hps; rw [List.getElem?_take, if_pos hjn, List.getElem?_drop]
    have hp1 : q.data.toList[i + j]? = some (q[i + j]'(by omega)) := by rw [List.getElem?_eq_getElem (by omega)]; rfl
    have hp := hp0.trans hp1
    rw [hys, List.getElem?_zipWith, hp, hx] at hy
    obtain rfl : xorB _ x = y := by simpa using hy
    exact xorB_bits _ _
  · rw [ByteArray.toList_eq, ByteArray.toList_eq, e5, Bool.eq_iff_iff]
    simp only [beq_iff_eq, decide_eq_true_eq]
    exact ⟨fun h => h.symm, fun h => h.symm⟩
end Go.Proofs.YtpccbiopljmnlaaDoor
