/- Contracts of lay, Encode, Size and List of package sdnv: groups of many numbers, of one, how many they are. -/
import Derived.Test.YtajeanmmelldnaaDoorSGroups
import Derived.Laws.BytesArg
import Derived.Laws.AppendOwn
import Derived.OwnWalk
set_option linter.unusedVariables false
set_option linter.unusedSimpArgs false
namespace Go.Proofs.YtajeanmmelldnaaDoor
open Go.RowKit

/-- From the address A on (some, or none) the numbers xs lie, one behind the other. -/
def IntsRd (w : World) (A : Option Addr) (xs : List Int) : Prop := ∀ j x, xs[j]? = some x → ∃ ad, A = some ad ∧ w.cell? (ad.add j) = some (.int .i64 x)
theorem IntsRd.below {w w' : World} {A : Option Addr} {xs : List Int} (h : IntsRd w A xs) (hb : Below w.heap.size w w') : IntsRd w' A xs := fun j x hj => by
  obtain ⟨ad, e, hc⟩ := h j x hj
  exact ⟨ad, e, (hb.cell (World.block_lt_of_cell? _ _ hc)).trans hc⟩
theorem IntsRd.take {w : World} {A : Option Addr} {xs : List Int} (h : IntsRd w A xs) (k : Nat) : IntsRd w A (xs.take k) := fun j x hj => by
  refine h j x ?_
  rw [List.getElem?_take] at hj
  split at hj
  · exact hj
  · cases hj
theorem IntsRd.nil (w : World) (A : Option Addr) : IntsRd w A [] := fun j x h => by simp at h
theorem IntsRd.one (w : World) (x : Int) (t : TypeId) : IntsRd (w.alloc (.cells #[.int .i64 x] t)) (some ⟨w.heap.size, 0, none⟩) [x] := fun j y h => by
  rcases j with _ | j
  · have : x = y := by simpa using h
    subst this
    exact ⟨_, rfl, by simp [Addr.add]⟩
  · simp at h

theorem ownsRow_below {w w' : World} {base : Nat} {e : TypeId} {size : Nat} {v : Value} {n : Nat} {xs : List Value} (h : w.ownsRow base e size v n xs) (hb : Below w.heap.size w w') : w'.ownsRow base e size v n xs := by
  have hg : w.grownBy w' none := ⟨hb.os, hb.tape, hb.output, hb.size, fun k hk _ => hb.block k hk⟩
  refine h.kept hg ?_
  by_cases e : v.ownBlock = none
  · exact .inl e
  · exact .inr e

theorem conv_own {w : World} {base : Nat} {v : Value} {l : List UInt8} (h : w.ownsRow base 5 1 v l.length (l.map bv)) : (convert 49 9 v).run Tryd.prog w = .ok (.string ⟨l.toArray⟩) w := by
  have h' := h
  rcases h'.2 with ⟨rfl, h0⟩ | ⟨g, cap, cur, rfl, _⟩
  · have : l = [] := List.eq_nil_of_length_eq_zero h0
    subst this
    exact run_convert_bytes_nil w _ 5 Tryd.underlying49 Tryd.underlying5 0 0 _ Tryd.underlying9
  · refine run_convert_bytes_back w _ _ 5 _ cap l Tryd.underlying49 Tryd.underlying5 Tryd.underlying9 ?_
    intro j hj
    exact h.cells (g := g) rfl j _ (by simp [hj, bv])

/-- Is it a number? -/
def Num (x : Int) : Prop := 0 ≤ x ∧ x ≤ 281474976710655
instance (x : Int) : Decidable (Num x) := by unfold Num; infer_instance
/-- The groups of many. -/
def catI (xs : List Int) : List UInt8 := catL (xs.map Int.toNat)
theorem catI_snoc (xs : List Int) (x : Int) : catI (xs ++ [x]) = catI xs ++ grpL x.toNat := by unfold catI; rw [List.map_append]; exact catL_snoc _ _
theorem catI_length (xs : List Int) (h : ∀ x ∈ xs, Num x) : (catI xs).length ≤ 7 * xs.length := by
  have := catL_length (xs.map Int.toNat) (fun n hn => by
    obtain ⟨x, hx, rfl⟩ := List.mem_map.1 hn
    have := h x hx
    unfold Num at this
    omega)
  simpa [catI] using this

structure LInv (xs : List Int) (w : World) (k : Nat) (v : Value) (wr : World) : Prop where
  right : ∀ x ∈ xs.take k, Num x
  own : wr.ownsRow w.heap.size 5 1 v (catI (xs.take k)).length ((catI (xs.take k)).map bv)
  below : Below w.heap.size w wr

theorem take_snoc' {α : Type} {xs : List α} {k : Nat} {x : α} (h : xs[k]? = some x) : xs.take (k + 1) = xs.take k ++ [x] := by
  rw [List.take_add_one, h]
  rfl

theorem LInv.step {xs : List Int} {w wr w1 w2 : World} {k : Nat} {v v' : Value} {x : Int} (h : LInv xs w k v wr) (hx : xs[k]? = some x) (hn : Num x) (hb1 : Below wr.heap.size wr w1)
    (hown : w2.ownsRow w.heap.size 5 1 v' ((catI (xs.take k)).length + (grpL x.toNat).length) ((catI (xs.take k)).map bv ++ (grpL x.toNat).map bv)) (hg : w1.grownBy w2 v.ownBlock) : LInv xs w (k + 1) v' w2 := by
  have hs := take_snoc' hx
  refine ⟨?_, ?_, ?_⟩
  · rw [hs]
    intro y hy
    rcases List.mem_append.1 hy with hy | hy
    · exact h.right y hy
    · have : y = x := by simpa using hy
      subst this
      exact hn
  · rw [hs, catI_snoc, List.length_append, List.map_append]
    exact hown
  · have hB := h.below.trans (hb1.mono h.below.size)
    exact hB.grown hg hB.size (fun g e => (h.own.lt g e).1)

/-- What lay answers. -/
def LayR (xs : List Int) (w : World) (e : Ending) (w' : World) : Prop :=
  (((∀ x ∈ xs, Num x) ∧ e = .returned (.tuple #[.string ⟨(catI xs).toArray⟩, .nilIface])) ∨ ((¬ ∀ x ∈ xs, Num x) ∧ ∃ v, Wrong 10 v ∧ e = .returned (.tuple #[.string ⟨#[]⟩, v]))) ∧ Below w.heap.size w w'

theorem LayR.ok {xs : List Int} {w wr : World} {v : Value} (h : LInv xs w xs.length v wr) : LayR xs w (.returned (.tuple #[.string ⟨(catI xs).toArray⟩, .nilIface])) wr := by
  have hr := h.right
  rw [List.take_length] at hr
  exact ⟨.inl ⟨hr, rfl⟩, h.below⟩
theorem LayR.bad {xs : List Int} {w wr : World} {v : Value} {k : Nat} {x p : Int} (h : LInv xs w k v wr) (hx : xs[k]? = some x) (hn : ¬ Num x) : LayR xs w (.returned (.tuple #[.string ⟨#[]⟩, .iface 66 (.agg #[.int .i64 p, .iface 62 (.agg #[.int .i64 10])])])) wr :=
  ⟨.inr ⟨fun hA => hn (hA x (List.mem_of_getElem? hx)), _, .inr ⟨p, rfl⟩, rfl⟩, h.below⟩

set_option maxRecDepth 100000 in
set_option maxHeartbeats 2000000 in
theorem lay_any (xs : List Int) (A : Option Addr) (c : Nat) (w : World) (hl : xs.length ≤ 1000) (hr : IntsRd w A xs) :
    Calls Tryd.prog 26 #[.slice A xs.length c] w (LayR xs w) := by
  obtain ⟨i0, hi, hz0, hz1, hz2⟩ := info_parts u8_info
  have HR := Lib.hid hr
  clear hr
  go_enter Tryd.func26, Tryd.ntmps26
  go_wp2
  go_loopw [4, 9] (fun v i wr => ∃ k : Nat, k ≤ xs.length ∧ i = .int .i64 (k : Int) ∧ LInv xs w k v wr) (fun _ i _ => xs.length - (intOf i).toNat)
  case atStart => exact ⟨0, Nat.zero_le _, rfl, by simp, World.ownsRow_nil _ _ _ _, Below.refl _ _⟩
  case round =>
    obtain ⟨k, hk, rfl, hI⟩ := hrel
    by_cases hlt : k < xs.length
    · obtain ⟨x, hx⟩ : ∃ x, xs[k]? = some x := ⟨_, List.getElem?_eq_getElem hlt⟩
      obtain ⟨ad, rfl, hc⟩ := (HR.out.below hI.below) k x hx
      have HX := Lib.hid hx
      clear hx
      by_cases hn : Num x
      · have hrt : rightB x = true := by unfold rightB; unfold Num at hn; simp [hn]
        obtain ⟨n, rfl⟩ := Int.eq_ofNat_of_zero_le hn.1
        have hmax : n ≤ 281474976710655 := by have := hn.2; omega
        have HN := Lib.hid hn
        clear hn
        have hcl := catI_length _ hI.right
        have hkl : (xs.take k).length ≤ k := List.length_take_le _ _
        have hgl := grpL_length hmax
        have hsz := hI.below.size
        go_wp2_with fail
        refine (right_any _ _).mono ?_
        rintro e w' ⟨rfl, rfl⟩
        go_wp2_with fail
        refine (groups_any n _ hmax).mono ?_
        rintro e w1 ⟨a, hla, rfl, hblk, hb1⟩
        have hown1 := ownsRow_below hI.own hb1
        have HL := Lib.hid hla
        clear hla
        go_wp2_with (at_builtin; refine wpList_append_own _ rfl _ _ 49 rfl w.heap.size 5 i0 (.int .u8 0) 1 1 Tryd.underlying49 hi hz0 hz1 hz2 rfl (by decide) _ _ _ rfl hown1 ⟨wr.heap.size, a, none⟩ (grpL n).length (grpL n).length ((grpL n).map bv) rfl (by simp) ?c1 ?c2 ?c3 ?c4 ?c5 ?_)
        case c1 =>
          intro j u hj
          have := hblk.cell (a + j)
          rw [rowG_hi, ← List.getElem?_map, hj] at this
          rw [← this]
          unfold Addr.add
          split
          · rename_i h0; subst h0; simp
          · rfl
        case c2 =>
          intro u hu
          obtain ⟨b, _, rfl⟩ := List.mem_map.1 hu
          rfl
        case c3 => unfold maxLen; omega
        case c4 => omega
        case c5 => have := hb1.size; omega
        · intro v' w2 hown' hgrow _
          have HS := Lib.hid (hI.step HX.out HN.out hb1 hown' hgrow)
          clear hown' hgrow hown1 hblk hb1 hI hc
          go_wp2
          go_roundw
          case rel => exact ⟨k + 1, by omega, by simp, HS.out⟩
          case measure => simp [intOf]; omega
      · have hrt : rightB x = false := rightB_neg (by unfold Num at hn; omega)
        have HN := Lib.hid hn
        clear hn
        go_wp2_with fail
        refine (right_any _ _).mono ?_
        rintro e w' ⟨rfl, rfl⟩
        go_wp2
        go_ret2
        exact LayR.bad hI HX.out HN.out
    · obtain rfl : k = xs.length := by omega
      have hcv := conv_own hI.own
      go_wp2
      go_ret2
      exact LayR.ok hI

/-- What Encode answers: the groups, and the error's number. -/
def encR (n : Int) : ByteArray × Int := if Num n then (⟨(grpL n.toNat).toArray⟩, 0) else (⟨#[]⟩, 10)
theorem encR_ok {n : Int} (h : Num n) : encR n = (⟨(grpL n.toNat).toArray⟩, 0) := if_pos h
theorem encR_bad {n : Int} (h : ¬ Num n) : encR n = (⟨#[]⟩, 10) := if_neg h
/-- What List answers. -/
def listR (xs : List Int) : ByteArray × Int := if ∀ x ∈ xs, Num x then (⟨(catI xs).toArray⟩, 0) else (⟨#[]⟩, 10)
theorem listR_ok {xs : List Int} (h : ∀ x ∈ xs, Num x) : listR xs = (⟨(catI xs).toArray⟩, 0) := if_pos h
theorem listR_bad {xs : List Int} (h : ¬ ∀ x ∈ xs, Num x) : listR xs = (⟨#[]⟩, 10) := if_neg h
theorem listR_one (n : Int) : listR [n] = encR n := by
  by_cases h : Num n
  · rw [encR_ok h, listR_ok (by simpa using h)]
    simp [catI, catL]
  · rw [encR_bad h, listR_bad (by simpa using h)]

set_option maxHeartbeats 400000 in
theorem list_any (xs : List Int) (A : Option Addr) (c : Nat) (w : World) (hG : EnvE w) (hl : xs.length ≤ 1000) (hr : IntsRd w A xs) :
    Calls Tryd.prog 20 #[.slice A xs.length c] w fun e w' => e = .returned (.tuple #[.string (listR xs).1, .int .i64 (listR xs).2]) ∧ Below w.heap.size w w' := by
  have HR := Lib.hid hr
  clear hr
  go_enter Tryd.func20, Tryd.ntmps20
  go_wp2_with fail
  refine (lay_any xs A c _ hl HR.out).mono ?_
  rintro e w1 ⟨⟨hA, rfl⟩ | ⟨hA, v, hv, rfl⟩, hb1⟩
  · have HA := Lib.hid hA
    clear hA
    go_wp2_with fail
    refine (tells_ok _ _).mono ?_
    rintro e w2 ⟨rfl, hb2⟩
    go_wp2
    go_ret2
    exact ⟨by rw [listR_ok HA.out]; rfl, hb1.trans (hb2.mono hb1.size)⟩
  · have HA := Lib.hid hA
    clear hA
    have HV := Lib.hid hv
    clear hv
    go_wp2_with fail
    refine (tells_bad _ v 10 _ (hG.below hb1) HV.out).mono ?_
    rintro e w2 ⟨rfl, hb2⟩
    go_wp2
    go_ret2
    exact ⟨by rw [listR_bad HA.out]; rfl, hb1.trans (hb2.mono hb1.size)⟩

set_option maxHeartbeats 400000 in
theorem encode_any (n : Int) (w : World) (hG : EnvE w) :
    Calls Tryd.prog 13 #[.int .i64 n] w fun e w' => e = .returned (.tuple #[.string (encR n).1, .int .i64 (encR n).2]) ∧ Below w.heap.size w w' := by
  rw [← listR_one]
  go_enter Tryd.func13, Tryd.ntmps13
  go_wp2_with fail
  refine (lay_any [n] (some ⟨w.heap.size, 0, none⟩) 1 _ (by simp) (IntsRd.one _ _ _)).mono ?_
  rintro e w1 ⟨⟨hA, rfl⟩ | ⟨hA, v, hv, rfl⟩, hb1⟩
  · have HA := Lib.hid hA
    clear hA
    go_wp2_with fail
    refine (tells_ok _ _).mono ?_
    rintro e w2 ⟨rfl, hb2⟩
    go_wp2
    go_ret2
    exact ⟨by rw [listR_ok HA.out]; rfl, ((Below.refl _ _).alloc (Nat.le_refl _) _).trans ((hb1.trans (hb2.mono hb1.size)).mono (by simp))⟩
  · have HA := Lib.hid hA
    clear hA
    have HV := Lib.hid hv
    clear hv
    go_wp2_with fail
    refine (tells_bad _ v 10 _ ((hG.alloc _).below hb1) HV.out).mono ?_
    rintro e w2 ⟨rfl, hb2⟩
    go_wp2
    go_ret2
    exact ⟨by rw [listR_bad HA.out]; rfl, ((Below.refl _ _).alloc (Nat.le_refl _) _).trans ((hb1.trans (hb2.mono hb1.size)).mono (by simp))⟩

set_option maxHeartbeats 400000 in
theorem size_any (n : Int) (w : World) (hG : EnvE w) :
    Calls Tryd.prog 15 #[.int .i64 n] w fun e w' => e = .returned (.tuple #[.int .i64 ((encR n).1.size : Int), .int .i64 (encR n).2]) ∧ Below w.heap.size w w' := by
  generalize hR : encR n = R
  have H := Lib.hid hR
  clear hR
  obtain ⟨q, k⟩ := R
  go_enter Tryd.func15, Tryd.ntmps15
  go_wp2_with fail
  refine (encode_any n _ hG).mono ?_
  rintro e w1 ⟨rfl, hb1⟩
  rw [H.out]
  go_wp2
  go_ret2
  exact ⟨rfl, hb1⟩
end Go.Proofs.YtajeanmmelldnaaDoor
