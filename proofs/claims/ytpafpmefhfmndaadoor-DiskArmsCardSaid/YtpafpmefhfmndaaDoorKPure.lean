/- A disk as plain data: its sectors, after how many writes the power goes, with which cut, whether it is down, how many writes were done; what each call answers and leaves. -/
import Derived.Test.YtpafpmefhfmndaaDoorKBase
set_option linter.unusedVariables false
set_option linter.unusedSimpArgs false
namespace Go.Proofs.YtpafpmefhfmndaaDoor

structure Dk where
  ss : List ByteArray
  left : Nat
  cut : Nat
  down : Bool
  n : Nat

/-- Each sector has 64 bytes. -/
def All64 (ss : List ByteArray) : Prop := ∀ s ∈ ss, s.size = 64
structure Dk.Ok (D : Dk) : Prop where
  a64 : All64 D.ss
  m1 : 1 ≤ D.ss.length
  m256 : D.ss.length ≤ 256
  left : D.left ≤ 9223372036854775807
  cut : D.cut ≤ 64
  n : D.n ≤ 1000000

/-- Sectors, one behind the other. -/
def catS (ss : List ByteArray) : List UInt8 := ss.flatMap (·.data.toList)
theorem catS_snoc (ss : List ByteArray) (s : ByteArray) : catS (ss ++ [s]) = catS ss ++ s.data.toList := by simp [catS]
theorem catS_append (a b : List ByteArray) : catS (a ++ b) = catS a ++ catS b := by simp [catS]
theorem catS_length : ∀ (ss : List ByteArray), All64 ss → (catS ss).length = 64 * ss.length
  | [], _ => rfl
  | s :: r, h => by
    have ih := catS_length r (fun x hx => h x (List.mem_cons_of_mem _ hx))
    have hs := h s (List.mem_cons_self ..)
    unfold catS at *
    rw [List.flatMap_cons, List.length_append, ih, List.length_cons, Array.length_toList]
    have : s.data.size = 64 := hs
    omega
theorem All64.take {ss : List ByteArray} (h : All64 ss) (k : Nat) : All64 (ss.take k) := fun s hs => h s (List.mem_of_mem_take hs)
theorem All64.set {ss : List ByteArray} (h : All64 ss) (i : Nat) (s : ByteArray) (hs : s.size = 64) : All64 (ss.set i s) := fun x hx => by
  rcases List.mem_or_eq_of_mem_set hx with hx | rfl
  · exact h x hx
  · exact hs
theorem All64.get {ss : List ByteArray} (h : All64 ss) {i : Nat} {s : ByteArray} (hi : ss[i]? = some s) : s.size = 64 := h s (List.mem_of_getElem? hi)

/-- All bytes of a disk. -/
def Dk.all (D : Dk) : ByteArray := ⟨(catS D.ss).toArray⟩
theorem Dk.Ok.all_size {D : Dk} (h : D.Ok) : D.all.size = 64 * D.ss.length := by
  show (catS D.ss).toArray.size = _
  rw [List.size_toArray, catS_length _ h.a64]

/-- The first k bytes of s, and from there on those of t. -/
def mixS (s t : ByteArray) (k : Nat) : ByteArray := s.extract 0 k ++ t.extract k t.size
theorem mixS_size {s t : ByteArray} {k : Nat} (hs : s.size = 64) (ht : t.size = 64) (hk : k ≤ 64) : (mixS s t k).size = 64 := by
  unfold mixS; rw [ByteArray.size_append, ByteArray.size_extract, ByteArray.size_extract]; omega
theorem mixS_all {s t : ByteArray} (hs : s.size = 64) (ht : t.size = 64) : mixS s t 64 = s := by
  apply ByteArray.ext
  apply Array.toList_inj.1
  unfold mixS
  rw [ByteArray.data_append, Array.toList_append, ByteArray.data_extract, ByteArray.data_extract, Array.toList_extract, Array.toList_extract]
  have h1 : s.data.toList.length = 64 := by rw [Array.length_toList]; exact hs
  have h2 : t.data.toList.length = 64 := by rw [Array.length_toList]; exact ht
  rw [show ((List.extract t.data.toList 64 t.size)) = [] from by unfold List.extract; simp; omega]
  unfold List.extract
  simp [List.take_of_length_le (Nat.le_of_eq h1)]
theorem mixS_toList {s t : ByteArray} {k : Nat} : (mixS s t k).data.toList = s.data.toList.take k ++ t.data.toList.drop k := by
  unfold mixS
  rw [ByteArray.data_append, Array.toList_append, ByteArray.data_extract, ByteArray.data_extract, Array.toList_extract, Array.toList_extract]
  unfold List.extract
  simp
  rw [List.take_of_length_le]
  simp

def inD (D : Dk) (i : Int) : Prop := 0 ≤ i ∧ i < D.ss.length
instance (D : Dk) (i : Int) : Decidable (inD D i) := by unfold inD; infer_instance

/-- What Read answers. -/
def readR (D : Dk) (i : Int) : ByteArray × Int := if D.down = true then (⟨#[]⟩, 180) else if inD D i then (D.ss.getD i.toNat ⟨#[]⟩, 0) else (⟨#[]⟩, 181)
/-- What Bytes answers. -/
def bytesR (D : Dk) (at0 n : Int) : ByteArray × Int := if D.down = true then (⟨#[]⟩, 180) else cutR D.all at0 n
/-- What Write answers. -/
def writeE (D : Dk) (i : Int) (s : ByteArray) : Int := if D.down = true then 180 else if inD D i ∧ s.size = 64 then (if D.left = 1 then 180 else 0) else 181
/-- How many of the bytes of a write that is done are written. -/
def Dk.reach (D : Dk) : Nat := if D.left = 1 then D.cut else 64
/-- What Write leaves. -/
def writeD (D : Dk) (i : Int) (s : ByteArray) : Dk :=
  if D.down = false ∧ inD D i ∧ s.size = 64 then { D with ss := D.ss.set i.toNat (mixS s (D.ss.getD i.toNat ⟨#[]⟩) D.reach), left := D.left - 1, down := decide (D.left = 1), n := D.n + 1 } else D
/-- May a disk be armed so? -/
def armB (writes cut : Int) : Prop := 1 ≤ writes ∧ 0 ≤ cut ∧ cut ≤ 64
instance (a b : Int) : Decidable (armB a b) := by unfold armB; infer_instance
def armE (writes cut : Int) : Int := if armB writes cut then 0 else 2
def armD (D : Dk) (writes cut : Int) : Dk := if armB writes cut then { D with left := writes.toNat, cut := cut.toNat } else D
def restD (D : Dk) : Dk := { D with left := 0, cut := 0, down := false }
/-- A new disk. -/
def newD (m : Nat) : Dk := { ss := List.replicate m ⟨Array.replicate 64 0⟩, left := 0, cut := 0, down := false, n := 0 }

theorem newD_ok {m : Nat} (h1 : 1 ≤ m) (h2 : m ≤ 256) : (newD m).Ok := by
  refine ⟨?_, by simpa [newD] using h1, by simpa [newD] using h2, by simp [newD], by simp [newD], by simp [newD]⟩
  intro s hs
  have := List.eq_of_mem_replicate (show s ∈ List.replicate m _ from hs)
  subst this
  show (Array.replicate 64 (0 : UInt8)).size = 64
  simp
theorem Dk.Ok.reach_le {D : Dk} (h : D.Ok) : D.reach ≤ 64 := by unfold Dk.reach; have := h.cut; split <;> omega
theorem Dk.Ok.get {D : Dk} (h : D.Ok) {i : Int} (hi : inD D i) : ∃ t, D.ss[i.toNat]? = some t ∧ D.ss.getD i.toNat ⟨#[]⟩ = t ∧ t.size = 64 := by
  obtain ⟨h0, h1⟩ := hi
  have hlt : i.toNat < D.ss.length := by omega
  have e := List.getElem?_eq_getElem hlt
  exact ⟨_, e, by simp [List.getD, e], h.a64.get e⟩
theorem writeD_ok {D : Dk} (h : D.Ok) (i : Int) (s : ByteArray) (hn : D.n < 1000000) : (writeD D i s).Ok := by
  unfold writeD
  split
  · rename_i hc
    obtain ⟨hd, hi, hs⟩ := hc
    obtain ⟨t, e, e', ht⟩ := h.get hi
    refine ⟨?_, by simpa using h.m1, by simpa using h.m256, by have := h.left; simp; omega, h.cut, by simp; omega⟩
    exact h.a64.set _ _ (by rw [e']; exact mixS_size hs ht h.reach_le)
  · exact h
theorem armD_ok {D : Dk} (h : D.Ok) (a b : Int) (ha : a ≤ 9223372036854775807) : (armD D a b).Ok := by
  unfold armD
  split
  · rename_i hc
    obtain ⟨h1, h2, h3⟩ := hc
    exact ⟨h.a64, h.m1, h.m256, by simp; omega, by simp; omega, h.n⟩
  · exact h
theorem restD_ok {D : Dk} (h : D.Ok) : (restD D).Ok := ⟨h.a64, h.m1, h.m256, Nat.zero_le _, Nat.zero_le _, h.n⟩
theorem writeD_m (D : Dk) (i : Int) (s : ByteArray) : (writeD D i s).ss.length = D.ss.length := by unfold writeD; split <;> simp
theorem armD_m (D : Dk) (a b : Int) : (armD D a b).ss.length = D.ss.length := by unfold armD; split <;> simp
theorem writeD_n (D : Dk) (i : Int) (s : ByteArray) : (writeD D i s).n ≤ D.n + 1 := by unfold writeD; split <;> simp
theorem armD_n (D : Dk) (a b : Int) : (armD D a b).n = D.n := by unfold armD; split <;> simp
end Go.Proofs.YtpafpmefhfmndaaDoor
