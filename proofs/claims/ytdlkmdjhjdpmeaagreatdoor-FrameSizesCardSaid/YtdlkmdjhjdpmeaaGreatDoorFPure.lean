/- Records of a log and their frames, as plain data: which are right, a record's frame, the record whose frame stands at a place, the records at a text's beginning; plain mathematics. -/
import Derived.Test.YtdlkmdjhjdpmeaaGreatDoorCSum
import Derived.Test.YtdlkmdjhjdpmeaaGreatDoorNumsCut
import Derived.Test.YtdlkmdjhjdpmeaaGreatDoorNumsE
import Derived.Test.YtdlkmdjhjdpmeaaGreatDoorPure
set_option linter.unusedVariables false
set_option linter.unusedSimpArgs false
namespace Go.Proofs.YtdlkmdjhjdpmeaaGreatDoor
open Go.RowKit

/-- A record of a log. -/
structure Rc where
  op : Int
  id : Int
  data : ByteArray

def zeroRc : Rc := ⟨0, 0, ⟨#[]⟩⟩
/-- Is it right? -/
def rcB (r : Rc) : Bool := decide (1 ≤ r.op) && decide (r.op ≤ 9) && rightB r.id && decide (r.data.size ≤ 2000)
theorem rcB_iff {r : Rc} : rcB r = true ↔ ∃ (p i : Nat), r.op = p ∧ 1 ≤ p ∧ p ≤ 9 ∧ r.id = i ∧ i ≤ 281474976710655 ∧ r.data.size ≤ 2000 := by
  unfold rcB rightB
  constructor
  · intro h
    simp only [Bool.and_eq_true, decide_eq_true_eq] at h
    obtain ⟨⟨⟨h1, h2⟩, h3, h4⟩, h5⟩ := h
    exact ⟨r.op.toNat, r.id.toNat, by omega, by omega, by omega, by omega, by omega, h5⟩
  · rintro ⟨p, i, h1, h2, h3, h4, h5, h6⟩
    simp only [Bool.and_eq_true, decide_eq_true_eq]
    omega
theorem zero_wrong : rcB zeroRc = false := by decide

/-- All of a frame but its sum. -/
def smL (r : Rc) : List UInt8 := beL 225 1 ++ beL r.op.toNat 1 ++ beL r.id.toNat 6 ++ beL r.data.size 2 ++ r.data.data.toList
/-- The sum of bytes, four bytes wide. -/
def c32 (l : List UInt8) : Nat := sumT 32 (tabL 2197175160) l
theorem c32_lt (l : List UInt8) : c32 l < 4294967296 := sumT_lt 32 _ l
/-- A frame. -/
def frL (r : Rc) : List UInt8 := smL r ++ beL (c32 (smL r)) 4
theorem smL_length (r : Rc) : (smL r).length = 10 + r.data.size := by
  unfold smL
  simp only [List.length_append, beL_length, Array.length_toList]
  show 1 + 1 + 6 + 2 + r.data.size = _
  omega
theorem frL_length (r : Rc) : (frL r).length = 14 + r.data.size := by
  unfold frL
  rw [List.length_append, smL_length, beL_length]; omega

/-- The frame of a right record stands at a place. -/
def FrAt (s : ByteArray) (a : Int) (r : Rc) : Prop := 0 ≤ a ∧ rcB r = true ∧ frL r <+: s.data.toList.drop a.toNat

/-- A piece that lies behind a place, whatever is ahead of it in what lies there. -/
theorem mid_of_prefix {l x y z : List UInt8} {a : Nat} (h : x ++ y ++ z <+: l.drop a) : y <+: l.drop (a + x.length) := by
  obtain ⟨t, ht⟩ := h
  refine ⟨z ++ t, ?_⟩
  rw [← List.drop_drop, ← ht]
  simp
theorem drop_prefix_le {l y : List UInt8} {a : Nat} (h : y <+: l.drop a) (hy : 0 < y.length) : a + y.length ≤ l.length := by
  have := h.length_le
  rw [List.length_drop] at this
  omega
theorem extract_of_prefix {s : ByteArray} {y : List UInt8} {a : Nat} (h : y <+: s.data.toList.drop a) : (s.extract a (a + y.length)).data.toList = y := by
  rw [ByteArray.data_extract, Array.toList_extract, List.extract_eq_take_drop]
  rw [show a + y.length - a = y.length by omega]
  exact (List.prefix_iff_eq_take.1 h).symm
theorem take_of_prefix {s : ByteArray} {a m j : Nat} (h1 : 1 ≤ j) (h2 : j ≤ 8) (h3 : m ≤ 281474976710655) (h4 : m < 256 ^ j) (h : beL m j <+: s.data.toList.drop a) : takeR s a j = ((m : Int), 0) := by
  have hl := drop_prefix_le h (by rw [beL_length]; omega)
  rw [beL_length, Array.length_toList] at hl
  have hl' : a + j ≤ s.size := hl
  have hf : fitsB s a j := ⟨by omega, by omega, by omega⟩
  have he := extract_of_prefix h
  rw [beL_length] at he
  unfold takeR
  rw [if_neg (by omega), if_neg (fun g => g hf)]
  rw [show ((a : Int)).toNat = a by omega, show ((a : Int) + (j : Int)).toNat = a + j by omega, he, valL_beL_of_lt h4, if_pos h3]
theorem cut_of_prefix {s d : ByteArray} {a : Nat} (ha : a ≤ s.size) (h : d.data.toList <+: s.data.toList.drop a) : cutR s a d.size = (d, 0) := by
  have hl : a + d.size ≤ s.size := by
    have := h.length_le
    rw [List.length_drop, Array.length_toList, Array.length_toList] at this
    have h1 : d.data.size = d.size := rfl
    have h2 : s.data.size = s.size := rfl
    omega
  have he := extract_of_prefix h
  rw [Array.length_toList] at he
  rw [cutR_ok ⟨by omega, by omega, by omega⟩, show ((a : Int)).toNat = a by omega, show ((a : Int) + (d.size : Int)).toNat = a + d.size by omega]
  refine Prod.ext ?_ rfl
  apply ByteArray.ext
  apply Array.toList_inj.1
  exact he
theorem pow1 : (256 : Nat) ^ 1 = 256 := rfl
theorem pow2 : (256 : Nat) ^ 2 = 65536 := rfl
theorem pow6 : (256 : Nat) ^ 6 = 281474976710656 := rfl

/-- What is read at a place, as if a frame stood there. -/
def roughR (s : ByteArray) (a : Int) : Rc := ⟨(takeR s (a + 1) 1).1, (takeR s (a + 2) 6).1, (cutR s (a + 10) (takeR s (a + 8) 2).1).1⟩

/-- What is read where a frame stands. -/
theorem rough_of_frame {s : ByteArray} {a : Nat} {r : Rc} (h : FrAt s a r) : a + 14 + r.data.size ≤ s.size ∧ takeR s a 1 = (225, 0) ∧ takeR s (a + 1 : Nat) 1 = (r.op, 0) ∧ takeR s (a + 2 : Nat) 6 = (r.id, 0) ∧ takeR s (a + 8 : Nat) 2 = ((r.data.size : Int), 0) ∧ cutR s (a + 10 : Nat) r.data.size = (r.data, 0) := by
  obtain ⟨_, hr, h⟩ := h
  rw [Int.toNat_natCast] at h
  obtain ⟨p, i, h1, h2, h3, h4, h5, h6⟩ := rcB_iff.1 hr
  have hl := h.length_le
  rw [frL_length, List.length_drop, Array.length_toList] at hl
  have hs : a + 14 + r.data.size ≤ s.size := by have h2 : s.data.size = s.size := rfl; omega
  obtain ⟨op, id, data⟩ := r
  simp only at h1 h4 h6 hs ⊢
  subst h1 h4
  unfold frL smL at h
  simp only [Int.toNat_natCast] at h
  have k0 := mid_of_prefix (x := []) (y := beL 225 1) (z := beL p 1 ++ beL i 6 ++ beL data.size 2 ++ data.data.toList ++ beL (c32 (smL ⟨p, i, data⟩)) 4) (by simpa [smL] using h)
  have k1 := mid_of_prefix (x := beL 225 1) (y := beL p 1) (z := beL i 6 ++ beL data.size 2 ++ data.data.toList ++ beL (c32 (smL ⟨p, i, data⟩)) 4) (by simpa [smL] using h)
  have k2 := mid_of_prefix (x := beL 225 1 ++ beL p 1) (y := beL i 6) (z := beL data.size 2 ++ data.data.toList ++ beL (c32 (smL ⟨p, i, data⟩)) 4) (by simpa [smL] using h)
  have k3 := mid_of_prefix (x := beL 225 1 ++ beL p 1 ++ beL i 6) (y := beL data.size 2) (z := data.data.toList ++ beL (c32 (smL ⟨p, i, data⟩)) 4) (by simpa [smL] using h)
  have k4 := mid_of_prefix (x := beL 225 1 ++ beL p 1 ++ beL i 6 ++ beL data.size 2) (y := data.data.toList) (z := beL (c32 (smL ⟨p, i, data⟩)) 4) (by simpa [smL] using h)
  simp only [List.length_append, beL_length, List.length_nil, Nat.add_zero, Nat.reduceAdd] at k0 k1 k2 k3 k4
  have t0 := take_of_prefix (s := s) (a := a) (m := 225) (j := 1) (by omega) (by omega) (by omega) (by rw [pow1]; omega) k0
  have t1 := take_of_prefix (s := s) (a := a + 1) (m := p) (j := 1) (by omega) (by omega) (by omega) (by rw [pow1]; omega) k1
  have t2 := take_of_prefix (s := s) (a := a + 2) (m := i) (j := 6) (by omega) (by omega) (by omega) (by rw [pow6]; omega) k2
  have t3 := take_of_prefix (s := s) (a := a + 8) (m := data.size) (j := 2) (by omega) (by omega) (by omega) (by rw [pow2]; omega) k3
  exact ⟨hs, t0, t1, t2, t3, cut_of_prefix (by omega) k4⟩
theorem rough_eq {s : ByteArray} {a : Nat} {r : Rc} (h : FrAt s a r) : roughR s a = r := by
  obtain ⟨_, _, k1, k2, k3, k4⟩ := rough_of_frame h
  unfold roughR
  rw [show ((a : Int) + 1) = ((a + 1 : Nat) : Int) by omega, show ((a : Int) + 2) = ((a + 2 : Nat) : Int) by omega, show ((a : Int) + 8) = ((a + 8 : Nat) : Int) by omega, show ((a : Int) + 10) = ((a + 10 : Nat) : Int) by omega, k1, k2, k3, k4]

/-- Does the frame of what is read at a place stand there? -/
def standsB (s : ByteArray) (a : Int) (r : Rc) : Bool := decide (0 ≤ a) && rcB r && (frL r).isPrefixOf (s.data.toList.drop a.toNat)
theorem standsB_iff {s : ByteArray} {a : Int} {r : Rc} : standsB s a r = true ↔ FrAt s a r := by
  unfold standsB FrAt
  simp only [Bool.and_eq_true, decide_eq_true_eq, List.isPrefixOf_iff_prefix]
  constructor
  · rintro ⟨⟨h1, h2⟩, h3⟩; exact ⟨h1, h2, h3⟩
  · rintro ⟨h1, h2, h3⟩; exact ⟨⟨h1, h2⟩, h3⟩
/-- The record whose frame stands at a place. -/
def decO (s : ByteArray) (a : Int) : Option Rc := if standsB s a (roughR s a) = true then some (roughR s a) else none
theorem decO_some {s : ByteArray} {a : Int} {r : Rc} : decO s a = some r ↔ FrAt s a r := by
  unfold decO
  constructor
  · intro h
    split at h
    · rename_i hs
      cases h
      exact standsB_iff.1 hs
    · cases h
  · intro h
    obtain ⟨n, rfl⟩ := Int.eq_ofNat_of_zero_le h.1
    rw [rough_eq h, if_pos (standsB_iff.2 h)]
theorem decO_none {s : ByteArray} {a : Int} : decO s a = none ↔ ∀ r, ¬ FrAt s a r := by
  constructor
  · intro h r hr
    rw [decO_some.2 hr] at h; cases h
  · intro h
    cases e : decO s a with
    | none => rfl
    | some r => exact absurd (decO_some.1 e) (h r)
theorem FrAt.one {s : ByteArray} {a : Int} {r q : Rc} (h : FrAt s a r) (k : FrAt s a q) : r = q := by
  have := decO_some.2 h
  rw [decO_some.2 k] at this
  exact (Option.some.inj this).symm
theorem FrAt.size {s : ByteArray} {a : Nat} {r : Rc} (h : FrAt s a r) : a + 14 + r.data.size ≤ s.size := (rough_of_frame h).1

/-- Frames, one behind the other. -/
def layL (l : List Rc) : List UInt8 := l.flatMap frL
theorem layL_nil : layL [] = [] := rfl
theorem layL_cons (r : Rc) (l : List Rc) : layL (r :: l) = frL r ++ layL l := by simp [layL]
theorem layL_append (l m : List Rc) : layL (l ++ m) = layL l ++ layL m := by simp [layL]
theorem layL_snoc (l : List Rc) (r : Rc) : layL (l ++ [r]) = layL l ++ frL r := by simp [layL]
/-- Right records whose frames stand at the beginning of a text, up to a place. -/
def SoFar (s : ByteArray) (l : List Rc) (n : Nat) : Prop := (∀ r ∈ l, rcB r = true) ∧ layL l = s.data.toList.take n ∧ n ≤ s.size
theorem SoFar.len {s : ByteArray} {l : List Rc} {n : Nat} (h : SoFar s l n) : (layL l).length = n := by
  rw [h.2.1, List.length_take, Array.length_toList]
  have := h.2.2
  have h2 : s.data.size = s.size := rfl
  omega
theorem SoFar.nil (s : ByteArray) : SoFar s [] 0 := ⟨by simp, by simp [layL], Nat.zero_le _⟩
theorem SoFar.snoc {s : ByteArray} {l : List Rc} {n : Nat} {r : Rc} (h : SoFar s l n) (k : FrAt s n r) : SoFar s (l ++ [r]) (n + 14 + r.data.size) := by
  refine ⟨fun q hq => ?_, ?_, k.size⟩
  · rcases List.mem_append.1 hq with hq | hq
    · exact h.1 q hq
    · rw [List.mem_singleton.1 hq]; exact k.2.1
  · rw [layL_snoc, h.2.1]
    have e := List.prefix_iff_eq_take.1 k.2.2
    rw [frL_length, Int.toNat_natCast] at e
    rw [show n + 14 + r.data.size = n + (14 + r.data.size) by omega, List.take_add, ← e]
/-- All of them. -/
def ScanOf (s : ByteArray) (l : List Rc) (n : Nat) : Prop := SoFar s l n ∧ decO s n = none

theorem frAt_first {s : ByteArray} {r : Rc} {l : List Rc} {n p : Nat} {x : List UInt8} (hr : rcB r = true) (h : x ++ layL (r :: l) = s.data.toList.take n) (hx : x.length = p) : FrAt s p r := by
  refine ⟨by omega, hr, ?_⟩
  rw [Int.toNat_natCast]
  have h1 : x ++ layL (r :: l) <+: s.data.toList := h ▸ List.take_prefix _ _
  rw [layL_cons, ← List.append_assoc] at h1
  have := mid_of_prefix (l := s.data.toList) (a := 0) (x := x) (y := frL r) (z := layL l) (by simpa using h1)
  rwa [Nat.zero_add, hx] at this
theorem len_of_take {s : ByteArray} {x : List UInt8} {n : Nat} (h : x = s.data.toList.take n) (hn : n ≤ s.size) : x.length = n := by
  rw [h, List.length_take, Array.length_toList]
  have h2 : s.data.size = s.size := rfl
  omega
/-- There is just one scan. -/
theorem scan_one_go {s : ByteArray} {n k : Nat} (h3 : n ≤ s.size) (h4 : k ≤ s.size) (h5 : decO s n = none) (h6 : decO s k = none) (l : List Rc) : ∀ (m : List Rc) (x : List UInt8), (∀ r ∈ l, rcB r = true) → (∀ r ∈ m, rcB r = true) → x ++ layL l = s.data.toList.take n → x ++ layL m = s.data.toList.take k → l = m := by
  induction l with
  | nil =>
    intro m x _ hm h1 h2
    cases m with
    | nil => rfl
    | cons r m =>
      rw [layL_nil, List.append_nil] at h1
      exact absurd (frAt_first (hm r (List.mem_cons_self ..)) h2 (len_of_take h1 h3)) (decO_none.1 h5 r)
  | cons r l ih =>
    intro m x hl hm h1 h2
    cases m with
    | nil =>
      rw [layL_nil, List.append_nil] at h2
      exact absurd (frAt_first (hl r (List.mem_cons_self ..)) h1 (len_of_take h2 h4)) (decO_none.1 h6 r)
    | cons q m =>
      have e := (frAt_first (hl r (List.mem_cons_self ..)) h1 rfl).one (frAt_first (hm q (List.mem_cons_self ..)) h2 rfl)
      subst e
      rw [layL_cons, ← List.append_assoc] at h1 h2
      rw [ih m (x ++ frL r) (fun y hy => hl y (List.mem_cons_of_mem _ hy)) (fun y hy => hm y (List.mem_cons_of_mem _ hy)) h1 h2]
theorem ScanOf.one {s : ByteArray} {l m : List Rc} {n k : Nat} (h : ScanOf s l n) (g : ScanOf s m k) : l = m ∧ n = k := by
  have e : l = m := scan_one_go h.1.2.2 g.1.2.2 h.2 g.2 l m [] h.1.1 g.1.1 (by simpa using h.1.2.1) (by simpa using g.1.2.1)
  subst e
  exact ⟨rfl, h.1.len.symm.trans g.1.len⟩
end Go.Proofs.YtdlkmdjhjdpmeaaGreatDoor
