/- The document's Size, Decode, List and All answer as package sdnv's do. -/
import Derived.Test.YtajeanmmelldnaaDoorSRefs
set_option linter.unusedVariables false
set_option linter.unusedSimpArgs false
namespace Go.Proofs.YtajeanmmelldnaaDoor
open Go.RowKit

theorem refEncode_any (n : Int) (w : World) :
    Calls Tryd.prog 14 #[.int .i64 n] w fun e w' => e = .returned (.tuple #[.string (encR n).1, .int .i64 (encR n).2]) ∧ Below w.heap.size w w' := by
  by_cases h : Num n
  · rw [encR_ok h]
    obtain ⟨m, rfl⟩ := Int.eq_ofNat_of_zero_le h.1
    exact refEncode_ok m w (by have := h.2; omega)
  · rw [encR_bad h]
    exact refEncode_bad n w h

set_option maxHeartbeats 400000 in
theorem refSize_any (n : Int) (w : World) :
    Calls Tryd.prog 16 #[.int .i64 n] w fun e w' => e = .returned (.tuple #[.int .i64 ((encR n).1.size : Int), .int .i64 (encR n).2]) ∧ Below w.heap.size w w' := by
  generalize hR : encR n = R
  have H := Lib.hid hR
  clear hR
  obtain ⟨q, k⟩ := R
  go_enter Tryd.func16, Tryd.ntmps16
  go_wp2_with fail
  refine (refEncode_any n _).mono ?_
  rintro e w1 ⟨rfl, hb1⟩
  rw [H.out]
  go_wp2
  go_ret2
  exact ⟨rfl, hb1⟩

theorem encR_size (n : Int) : (encR n).1.size ≤ 7 := by
  by_cases h : Num n
  · rw [encR_ok h]
    show (grpL n.toNat).toArray.size ≤ 7
    have := grpL_length (n := n.toNat) (by have := h.2; omega)
    simpa using this.2
  · rw [encR_bad h]; decide

theorem dropB_nat (s : ByteArray) (a : Nat) : dropB s (a : Int) = s.data.toList.drop a := by unfold dropB; rw [if_neg (by omega)]; simp
theorem dropB_get (s : ByteArray) (a k : Nat) (h : a + k < s.size) : (dropB s (a : Int))[k]? = some s[a + k] := by
  rw [dropB_nat, List.getElem?_drop, List.getElem?_eq_getElem (by simpa using h)]
  rfl

/-- Where a number's groups end. -/
structure EndAt (s : ByteArray) (a k0 : Nat) (g : List UInt8) : Prop where
  lt : a + k0 < s.size
  g : g = midB s a (k0 + 1)
  big : ∀ k (h : k < k0), 128 ≤ (s[a + k]'(by have := lt; omega)).toNat
  last : (s[a + k0]'lt).toNat < 128
theorem spanG_mid {s : ByteArray} {a : Nat} {g t : List UInt8} (h : spanG (dropB s (a : Int)) = some (g, t)) : ∃ k0, EndAt s a k0 g := by
  obtain ⟨e, ⟨q, b, rfl, hq, hb⟩⟩ := spanG_some h
  have hl := congrArg List.length e
  rw [dropB_nat, List.length_drop] at hl
  simp at hl
  have hlt : a + q.length < s.size := by omega
  refine ⟨q.length, hlt, ?_, ?_, ?_⟩
  · rw [dropB_nat] at e
    unfold midB
    rw [e, List.append_assoc, List.take_append, List.take_of_length_le (by omega)]
    simp
  · intro k hk
    have h1 := dropB_get s a k (by omega)
    rw [e, List.append_assoc, List.getElem?_append_left hk] at h1
    exact hq _ (List.mem_of_getElem? h1)
  · have h1 := dropB_get s a q.length hlt
    rw [e, List.append_assoc, List.getElem?_append_right (Nat.le_refl _)] at h1
    simp at h1
    rw [← h1]
    exact hb
theorem midB_one (s : ByteArray) (a k : Nat) (h : a < s.size) : (midB s a (k + 1)).head? = some s[a] := by
  have h1 := dropB_get s a 0 (by omega)
  rw [dropB_nat] at h1
  unfold midB
  rw [List.head?_eq_getElem?, List.getElem?_take]
  simpa using h1

set_option maxRecDepth 100000 in
set_option maxHeartbeats 1000000 in
theorem refDecode_out (s : ByteArray) (at0 : Int) (w : World) (hs : s.size ≤ 1000000) (h : at0 < 0 ∨ (s.size : Int) < at0) :
    Calls Tryd.prog 18 #[.string s, .int .i64 at0] w fun e w' => e = .returned (.tuple #[.int .i64 0, .int .i64 0, .int .i64 11]) ∧ w = w' := by
  have hkk : decide (at0 < 0) = true ∨ decide (at0 < 0) = false ∧ decide ((s.size : Int) < at0) = true := by
    by_cases h0 : at0 < 0
    · exact .inl (by simpa using h0)
    · exact .inr ⟨by simpa using h0, by simp; omega⟩
  clear h
  rcases hkk with h | ⟨h1, h⟩
  all_goals
    go_enter Tryd.func18, Tryd.ntmps18
    go_wp2
    go_ret3
    exact ⟨rfl, rfl⟩

set_option maxRecDepth 100000 in
set_option maxHeartbeats 2000000 in
theorem refDecode_short (s : ByteArray) (a : Nat) (w : World) (hs : s.size ≤ 1000000) (ha : a ≤ s.size) (h : ∀ k (h : a + k < s.size), 128 ≤ s[a + k].toNat) :
    Calls Tryd.prog 18 #[.string s, .int .i64 (a : Int)] w fun e w' => e = .returned (.tuple #[.int .i64 0, .int .i64 0, .int .i64 11]) ∧ w = w' := by
  have b0 : decide ((a : Int) < 0) = false := by simp
  have b1 : decide (s.size < a) = false := by simp; omega
  have b2 : decide ((s.size : Int) < (a : Int)) = false := by simp; omega
  have H := Lib.hid h
  clear h
  go_enter Tryd.func18, Tryd.ntmps18
  go_wp2
  go_loop [7] (fun e => ∃ k : Nat, a + k ≤ s.size ∧ e = .int .i64 ((a + k : Nat) : Int)) (fun e => s.size - (intOf e).toNat)
  case atStart => exact ⟨0, by omega, by simp⟩
  case round =>
    obtain ⟨k, hk, rfl⟩ := hrel
    by_cases hlt : a + k < s.size
    · have hb := H.out k hlt
      go_wp2
      go_round
      case rel => exact ⟨k + 1, by omega, by first | go_num | (simp; omega)⟩
      case measure => simp [intOf]; omega
    · obtain he : a + k = s.size := by omega
      rw [he]
      clear he
      have b3 : ((s.size : Int) == (s.size : Int)) = true := by simp
      go_wp2
      go_ret3
      exact ⟨rfl, rfl⟩

set_option maxRecDepth 100000 in
set_option maxHeartbeats 2000000 in
theorem refDecode_form (s : ByteArray) (a k0 : Nat) (g : List UInt8) (w : World) (hs : s.size ≤ 1000000) (h : EndAt s a k0 g) (hh : g.head? = some 128) :
    Calls Tryd.prog 18 #[.string s, .int .i64 (a : Int)] w fun e w' => e = .returned (.tuple #[.int .i64 0, .int .i64 0, .int .i64 20]) ∧ w = w' := by
  have hlt0 := h.lt
  have b0 : decide ((a : Int) < 0) = false := by simp
  have b1 : decide (s.size < a) = false := by simp; omega
  have b2 : decide ((s.size : Int) < (a : Int)) = false := by simp; omega
  have hal : a < s.size := by omega
  have hf : (((s[a].toNat : Nat) : Int) == 128) = true := by
    rw [byte_128]
    rw [h.g, midB_one s a k0 hal] at hh
    simpa using hh
  have H := Lib.hid h
  clear h hh
  go_enter Tryd.func18, Tryd.ntmps18
  go_wp2
  go_loop [7] (fun e => ∃ k : Nat, k ≤ k0 ∧ e = .int .i64 ((a + k : Nat) : Int)) (fun e => s.size - (intOf e).toNat)
  case atStart => exact ⟨0, by omega, by simp⟩
  case round =>
    obtain ⟨k, hk, rfl⟩ := hrel
    have hlt : a + k < s.size := by omega
    by_cases hk0 : k < k0
    · have hb := H.out.big k hk0
      go_wp2
      go_round
      case rel => exact ⟨k + 1, by omega, by first | go_num | (simp; omega)⟩
      case measure => simp [intOf]; omega
    · obtain rfl : k = k0 := by omega
      have hb := H.out.last
      have b3 : (((a + k : Nat) : Int) == (s.size : Int)) = false := by simp; omega
      go_wp2
      go_ret3
      exact ⟨rfl, rfl⟩

/-- The first j bytes at a place tell no more than all k do. -/
theorem val7_mid_le (s : ByteArray) (a : Nat) {j k : Nat} (h : j ≤ k) : val7 (midB s a j) ≤ val7 (midB s a k) := by
  have e : midB s a k = midB s a j ++ (midB s a k).drop j := by
    conv => lhs; rw [← List.take_append_drop j (midB s a k)]
    congr 1
    unfold midB
    rw [List.take_take, Nat.min_eq_left h]
  rw [e]
  exact val7_le_append _ _

set_option maxRecDepth 100000 in
set_option maxHeartbeats 4000000 in
theorem refDecode_loop (s : ByteArray) (a k0 : Nat) (g : List UInt8) (w : World) (hs : s.size ≤ 1000000) (h : EndAt s a k0 g) (hh : g.head? ≠ some 128) (r : Int × Int × Int)
    (hr : r = if val7 g ≤ 281474976710655 then (((val7 g : Nat) : Int), ((a + k0 + 1 : Nat) : Int), 0) else (0, 0, 10)) :
    Calls Tryd.prog 18 #[.string s, .int .i64 (a : Int)] w fun e w' => e = .returned (.tuple #[.int .i64 r.1, .int .i64 r.2.1, .int .i64 r.2.2]) ∧ w = w' := by
  have hlt0 := h.lt
  have b0 : decide ((a : Int) < 0) = false := by simp
  have b1 : decide (s.size < a) = false := by simp; omega
  have b2 : decide ((s.size : Int) < (a : Int)) = false := by simp; omega
  have hal : a < s.size := by omega
  have hf : (((s[a].toNat : Nat) : Int) == 128) = false := by
    rw [byte_128]
    rw [h.g, midB_one s a k0 hal] at hh
    simpa using hh
  have H := Lib.hid h
  have HR := Lib.hid hr
  clear h hh hr
  go_enter Tryd.func18, Tryd.ntmps18
  go_wp2
  go_loop [7] (fun e => ∃ k : Nat, k ≤ k0 ∧ e = .int .i64 ((a + k : Nat) : Int)) (fun e => s.size - (intOf e).toNat)
  case atStart => exact ⟨0, by omega, by simp⟩
  case round =>
    obtain ⟨k, hk, rfl⟩ := hrel
    have hlt : a + k < s.size := by omega
    by_cases hk0 : k < k0
    · have hb := H.out.big k hk0
      go_wp2
      go_round
      case rel => exact ⟨k + 1, by omega, by first | go_num | (simp; omega)⟩
      case measure => simp [intOf]; omega
    · obtain rfl : k = k0 := by omega
      have hb := H.out.last
      have b3 : ((a : Int) + (k : Int) == (s.size : Int)) = false := by simp; omega
      go_wp2
      go_loopg [8, 9] (k + 1) (fun q n i wr => ∃ j : Nat, w = wr ∧ j + q = k + 1 ∧ n = .int .i64 ((val7 (midB s a j) : Nat) : Int) ∧ i = .int .i64 ((a + j : Nat) : Int) ∧ val7 (midB s a j) ≤ 281474976710655)
      case atStart => exact ⟨0, rfl, by omega, by simp [midB, val7], by simp, by simp [midB, val7]⟩
      case round =>
        obtain ⟨j, rfl, hj, rfl, rfl, hv⟩ := hrel
        by_cases hjk : j ≤ k
        · have hjl : a + j < s.size := by omega
          have hx := s[a + j].toNat_lt
          have HS := Lib.hid (show val7 (midB s a (j + 1)) = 128 * val7 (midB s a j) + s[a + j].toNat % 128 by rw [midB_succ s a j hjl, val7_snoc])
          have HLE := Lib.hid (val7_mid_le s a (show j + 1 ≤ k + 1 by omega))
          generalize val7 (midB s a j) = x at *
          by_cases hle : 128 * x + s[a + j].toNat % 128 ≤ 281474976710655
          · go_wp2
            go_roundg (gk - 1)
            case measure => omega
            case rel => exact ⟨j + 1, rfl, by omega, by rw [HS.out]; go_num, by go_num, by rw [HS.out]; omega⟩
          · go_wp2
            go_ret3
            refine ⟨?_, rfl⟩
            rw [HR.out, H.out.g, if_neg (by have := HLE.out; have := HS.out; omega)]
            rfl
        · obtain rfl : j = k + 1 := by omega
          rw [← H.out.g] at hv ⊢
          rw [if_pos hv] at HR
          obtain rfl := HR.out
          clear HR
          go_wp2
          go_ret3
          exact ⟨rfl, rfl⟩

theorem refDecode_any (s : ByteArray) (at0 : Int) (w : World) (hs : s.size ≤ 1000000) :
    Calls Tryd.prog 18 #[.string s, .int .i64 at0] w fun e w' => e = .returned (.tuple #[.int .i64 (decR s at0).1, .int .i64 (decR s at0).2.1, .int .i64 (decR s at0).2.2]) ∧ w = w' := by
  by_cases ho : at0 < 0 ∨ (s.size : Int) < at0
  · have e : decR s at0 = (0, 0, 11) := decR_bad (by rw [dropB_out s at0 (by omega)]; rfl)
    rw [e]
    exact refDecode_out s at0 w hs ho
  · obtain ⟨a, rfl⟩ := Int.eq_ofNat_of_zero_le (show 0 ≤ at0 by omega)
    cases h : spanG (dropB s (a : Int)) with
    | none =>
      rw [decR_bad (decL_none h)]
      refine refDecode_short s a w hs (by omega) (fun k hk => ?_)
      exact spanG_none_all h _ (List.mem_of_getElem? (dropB_get s a k hk))
    | some p =>
      obtain ⟨g, t⟩ := p
      obtain ⟨k0, hE⟩ := spanG_mid h
      by_cases hh : g.head? = some 128
      · rw [decR_bad (decL_form h hh)]
        exact refDecode_form s a k0 g w hs hE hh
      · refine refDecode_loop s a k0 g w hs hE hh _ ?_
        by_cases hv : val7 g ≤ 281474976710655
        · have hp := place_behind (spanG_some h).1 (spanG_len h).1
          have hg : g.length = k0 + 1 := by rw [hE.g, midB_length s a _ (by have := hE.lt; omega)]
          rw [if_pos hv, decR_ok (decL_ok h hh hv), ← hp.2.1, hg]
          congr 2
        · rw [if_neg hv, decR_bad (decL_num h hh (by omega))]

set_option maxRecDepth 100000 in
set_option maxHeartbeats 2000000 in
theorem refList_any (xs : List Int) (A : Option Addr) (c : Nat) (w : World) (hl : xs.length ≤ 1000) (hr : IntsRd w A xs) :
    Calls Tryd.prog 21 #[.slice A xs.length c] w fun e w' => e = .returned (.tuple #[.string (listR xs).1, .int .i64 (listR xs).2]) ∧ Below w.heap.size w w' := by
  have HR := Lib.hid hr
  clear hr
  generalize hq : listR xs = R
  obtain ⟨y, z⟩ := R
  have HQ := Lib.hid hq
  clear hq
  go_enter Tryd.func21, Tryd.ntmps21
  go_wp2
  go_loopg [4, 5] xs.length (fun q b i wr => ∃ k : Nat, k + q = xs.length ∧ b = .string ⟨(catI (xs.take k)).toArray⟩ ∧ i = .int .i64 (k : Int) ∧ (∀ x ∈ xs.take k, Num x) ∧ Below w.heap.size w wr)
  case atStart => exact ⟨0, by omega, by simp [catI, catL], rfl, by simp, Below.refl _ _⟩
  case round =>
    obtain ⟨k, hk, rfl, rfl, hN, hB⟩ := hrel
    by_cases hlt : k < xs.length
    · obtain ⟨x, hx⟩ : ∃ x, xs[k]? = some x := ⟨_, List.getElem?_eq_getElem hlt⟩
      obtain ⟨ad, rfl, hc⟩ := (HR.out.below hB) k x hx
      have HX := Lib.hid hx
      have hcl := catI_length _ hN
      have hkl : (xs.take k).length ≤ k := List.length_take_le _ _
      have hsz := hB.size
      have HN := Lib.hid hN
      clear hx hN
      by_cases hn : Num x
      · have HE := Lib.hid (encR_ok hn)
        have hgl := (grpL_length (n := x.toNat) (by have := hn.2; omega)).2
        have HNX := Lib.hid hn
        clear hn
        go_wp2_with fail
        refine (refEncode_any x _).mono ?_
        rintro e w1 ⟨rfl, hb1⟩
        rw [HE.out]
        have HS := Lib.hid (show catI (xs.take (k + 1)) = catI (xs.take k) ++ grpL x.toNat by rw [take_snoc' HX.out, catI_snoc])
        generalize catI (xs.take k) = l at *
        generalize grpL x.toNat = g at *
        go_wp2
        go_roundg (gk - 1)
        case measure => omega
        case rel =>
          refine ⟨k + 1, by omega, ?_, by go_num, ?_, hB.trans (hb1.mono hsz)⟩
          · rw [HS.out]
            exact congrArg Value.string (ByteArray.ext (by rw [ByteArray.data_append]; simp))
          · rw [take_snoc' HX.out]
            intro u hu
            rcases List.mem_append.1 hu with hu | hu
            · exact HN.out u hu
            · have : u = x := by simpa using hu
              subst this
              exact HNX.out
      · have HE := Lib.hid (encR_bad hn)
        have HNX := Lib.hid hn
        clear hn
        go_wp2_with fail
        refine (refEncode_any x _).mono ?_
        rintro e w1 ⟨rfl, hb1⟩
        rw [HE.out]
        go_wp2
        go_ret2
        refine ⟨?_, hB.trans (hb1.mono hsz)⟩
        have h := listR_bad (xs := xs) (fun hA => HNX.out (hA x (List.mem_of_getElem? HX.out)))
        rw [HQ.out] at h
        obtain ⟨rfl, rfl⟩ : y = ⟨#[]⟩ ∧ z = 10 := by simpa using h
        rfl
    · obtain rfl : k = xs.length := by omega
      rw [List.take_length] at hN ⊢
      have h := listR_ok hN
      rw [HQ.out] at h
      obtain ⟨rfl, rfl⟩ : y = ⟨(catI xs).toArray⟩ ∧ z = 0 := by simpa using h
      clear h hN
      go_wp2
      go_ret2
      exact ⟨rfl, hB⟩

theorem decL_err {l : List UInt8} {k : Int} (h : decL l = .error k) : k = 11 ∨ k = 20 ∨ k = 10 := by
  cases hs : spanG l with
  | none => rw [decL_none hs] at h; exact .inl (by injection h with h; exact h.symm)
  | some p =>
    obtain ⟨g, t⟩ := p
    by_cases hh : g.head? = some 128
    · rw [decL_form hs hh] at h; exact .inr (.inl (by injection h with h; exact h.symm))
    · by_cases hv : 281474976710655 < val7 g
      · rw [decL_num hs hh hv] at h; exact .inr (.inr (by injection h with h; exact h.symm))
      · rw [decL_ok hs hh (by omega)] at h; cases h

/-- What holds at a round's head of the document's All. -/
structure BInv (s : ByteArray) (w : World) (p : Nat) (ns : List Nat) (v : Value) (wr : World) : Prop where
  le : p ≤ s.size
  all : preE ns (allL (dropB s (p : Int))) = allL s.data.toList
  len : ns.length ≤ p
  own : wr.ownsRow w.heap.size 3 1 v ns.length (ns.map iv)
  below : Below w.heap.size w wr

/-- What the document's All answers. -/
def AllB (s : ByteArray) (w : World) (e : Ending) (w' : World) : Prop :=
  ((∃ k, allL s.data.toList = .error k ∧ e = .returned (.tuple #[.slice none 0 0, .int .i64 k])) ∨ (∃ ns A c, allL s.data.toList = .ok ns ∧ IntsRd w' A (ns.map fun n : Nat => (n : Int)) ∧ e = .returned (.tuple #[.slice A ns.length c, .int .i64 0]))) ∧ Below w.heap.size w w'

theorem own_reads {w : World} {base : Nat} {ns : List Nat} {A : Option Addr} {c : Nat} (h : w.ownsRow base 3 1 (.slice A ns.length c) ns.length (ns.map iv)) : IntsRd w A (ns.map fun n : Nat => (n : Int)) := by
  intro j x hj
  have hj' : (ns.map iv)[j]? = some (.int .i64 x) := by
    rw [List.getElem?_map] at hj ⊢
    cases hn : ns[j]? with
    | none => rw [hn] at hj; cases hj
    | some n => rw [hn] at hj; simp at hj; subst hj; rfl
  rcases h.2 with ⟨_, h0⟩ | ⟨g, cap, cur, e, _⟩
  · have : ns = [] := List.eq_nil_of_length_eq_zero h0
    subst this
    simp at hj
  · have e1 : A = some ⟨g, 0, none⟩ := by injection e
    subst e1
    exact ⟨_, rfl, h.cells (g := g) rfl j _ hj'⟩

theorem BInv.bad {s : ByteArray} {w wr : World} {p : Nat} {ns : List Nat} {v : Value} {k : Int} (h : BInv s w p ns v wr) (hlt : p < s.size) (hd : decL (dropB s (p : Int)) = .error k) : AllB s w (.returned (.tuple #[.slice none 0 0, .int .i64 k])) wr := by
  refine ⟨.inl ⟨k, ?_, rfl⟩, h.below⟩
  rw [← h.all, allL_error hd]
  · rfl
  · intro e
    have := congrArg List.length e
    rw [dropB_nat, List.length_drop] at this
    simp at this
    omega
theorem BInv.done_ {s : ByteArray} {w wr : World} {p : Nat} {ns : List Nat} {A : Option Addr} {c : Nat} (h : BInv s w p ns (.slice A ns.length c) wr) (hge : s.size ≤ p) : AllB s w (.returned (.tuple #[.slice A ns.length c, .int .i64 0])) wr := by
  have ha := h.all
  rw [dropB_out s p (.inr (by omega)), allL_nil] at ha
  exact ⟨.inr ⟨ns, A, c, by rw [← ha]; simp [preE], own_reads h.own, rfl⟩, h.below⟩
theorem BInv.step {s : ByteArray} {w wr w2 : World} {p m n : Nat} {ns : List Nat} {t : List UInt8} {v v' : Value} {o : Obj} (h : BInv s w p ns v wr) (hd : decL (dropB s (p : Int)) = .ok (n, t)) (hm : (m : Int) = (s.size : Int) - (t.length : Int))
    (hown : w2.ownsRow w.heap.size 3 1 v' (ns.length + 1) (ns.map iv ++ [iv n])) (hg : (wr.alloc o).grownBy w2 v.ownBlock) :
    BInv s w m (ns ++ [n]) v' w2 ∧ p < m := by
  obtain ⟨e, hn⟩ := decL_back hd
  have hg1 := grpL_length hn
  have hp := place_behind e hg1.1
  have hlt : p < m := by have := hp.2.1; omega
  have hB1 : Below w.heap.size w (wr.alloc o) := h.below.alloc h.below.size _
  refine ⟨⟨by omega, ?_, by simp; have := h.len; omega, ?_, hB1.grown hg hB1.size (fun g e => (h.own.lt g e).1)⟩, hlt⟩
  · rw [preE_snoc, hm, ← hp.2.1, ← hp.2.2, ← allL_ok hd]
    exact h.all
  · rw [List.length_append, List.map_append]
    exact hown

set_option maxRecDepth 100000 in
set_option maxHeartbeats 4000000 in
theorem refAll_any (s : ByteArray) (w : World) (hs : s.size ≤ 1000000) :
    Calls Tryd.prog 23 #[.string s] w (AllB s w) := by
  obtain ⟨i0, hi, hz0, hz1, hz2⟩ := info_parts i64_info
  go_enter Tryd.func23, Tryd.ntmps23
  go_wp2
  go_loopg [4, 5] s.size (fun q v i wr => ∃ (p : Nat) (ns : List Nat), s.size ≤ p + q ∧ i = .int .i64 (p : Int) ∧ BInv s w p ns v wr)
  case atStart => exact ⟨0, [], by omega, rfl, ⟨by omega, by rw [preE_nil]; simp [dropB], by simp, World.ownsRow_nil _ _ _ _, Below.refl _ _⟩⟩
  case round =>
    rename_i v0 _ _ _ _ _
    obtain ⟨p, ns, hk, rfl, hI⟩ := hrel
    have hle := hI.le
    by_cases hlt : p < s.size
    · cases hd : decL (dropB s (p : Int)) with
      | error k =>
        have HU := Lib.hid (hI.bad hlt hd)
        have HD := Lib.hid (decR_bad hd)
        have hne : (k != 0) = true := by
          have := decL_err hd
          rcases this with rfl | rfl | rfl <;> rfl
        clear hd hI
        go_wp2_with fail
        refine (refDecode_any s (p : Int) _ hs).mono ?_
        rintro e w1 ⟨rfl, rfl⟩
        rw [HD.out]
        go_wp2
        go_ret2
        exact HU.out
      | ok P =>
        obtain ⟨n, t⟩ := P
        have HD := Lib.hid (decR_ok hd)
        have ht := decL_len hd
        have hdl := dropB_len s (p : Int)
        obtain ⟨m, hm⟩ := Int.eq_ofNat_of_zero_le (show 0 ≤ (s.size : Int) - (t.length : Int) by omega)
        have hst := fun v' w2 => BInv.step (w2 := w2) (v' := v') (o := .cells #[.int .i64 (n : Int)] 3) hI hd hm.symm
        have HST := Lib.hid hst
        have HM := Lib.hid hm
        have HOWN := Lib.hid (hI.own.kept (World.grownBy_alloc wr (.cells #[.int .i64 (n : Int)] 3) none) (Classical.em _))
        have hlen := hI.len
        have hsz := hI.below.size
        have hmle : m ≤ s.size := by omega
        clear hst hm hd hI ht hdl
        go_wp2_with fail
        refine (refDecode_any s (p : Int) _ hs).mono ?_
        rintro e w1 ⟨rfl, rfl⟩
        rw [HD.out]
        simp only [HM.out]
        go_wp2_with (at_builtin; refine wpList_append_own _ rfl _ _ 32 rfl w.heap.size 3 i0 (.int .i64 0) 1 8 Tryd.underlying32 hi hz0 hz1 hz2 rfl (by decide) _ _ _ rfl HOWN.out ⟨wr.heap.size, 0, none⟩ 1 1 [iv n] rfl (by simp) ?c1 ?c2 ?c3 ?c4 ?c5 ?_)
        case c1 =>
          intro j u hj
          rcases j with _ | j
          · have : u = iv n := by simpa using hj.symm
            subst this
            simp [Addr.add, iv, go_sem]
          · simp at hj
        case c2 =>
          intro u hu
          have : u = iv n := by simpa using hu
          subst this
          rfl
        case c3 => unfold maxLen; omega
        case c4 => omega
        case c5 => simp; omega
        intro v' w2 hown' hgrow _
        have HF := Lib.hid (HST.out v' w2 hown' hgrow)
        clear hown' hgrow HST HOWN
        go_wp2
        go_roundg (gk - 1)
        case measure => omega
        case rel => exact ⟨m, _, by have := HF.out.2; omega, rfl, HF.out.1⟩
    · rcases hI.own.2 with ⟨rfl, h0⟩ | ⟨g, cap, cur, rfl, hb, hgg, hcap, _⟩
      · have h00 : ns = [] := List.eq_nil_of_length_eq_zero h0
        subst h00
        have HU := Lib.hid (BInv.done_ (A := none) (c := 0) hI (by omega))
        clear h0 hI
        go_wp2
        go_ret2
        exact HU.out
      · have HU := Lib.hid (BInv.done_ (A := some ⟨g, 0, none⟩) (c := cap) hI (by omega))
        clear hI
        go_wp2
        go_ret2
        exact HU.out
end Go.Proofs.YtajeanmmelldnaaDoor
