/- Calls carried out, one by one: what a disk is behind them; bytes and sectors of a disk. -/
import Derived.Test.YtpafpmefhfmndaaDoorKOps
set_option linter.unusedVariables false
set_option linter.unusedSimpArgs false
namespace Go.Proofs.YtpafpmefhfmndaaDoor
open Go.RowKit

/-- A disk behind some calls. -/
def runD (D : Dk) (xs : List OpR) : Dk := xs.foldl opD D
theorem runD_snoc (D : Dk) (xs : List OpR) (x : OpR) : runD D (xs ++ [x]) = opD (runD D xs) x := by simp [runD]
theorem runD_succ {D : Dk} {xs : List OpR} {k : Nat} {x : OpR} (h : xs[k]? = some x) : runD D (xs.take (k + 1)) = opD (runD D (xs.take k)) x := by
  rw [List.take_add_one, h]
  exact runD_snoc _ _ _
theorem runD_m : ∀ (xs : List OpR) (D : Dk), (runD D xs).ss.length = D.ss.length
  | [], _ => rfl
  | x :: r, D => (runD_m r (opD D x)).trans (opD_m D x)
theorem runD_n : ∀ (xs : List OpR) (D : Dk), (runD D xs).n ≤ D.n + xs.length
  | [], _ => Nat.le_refl _
  | x :: r, D => by
    have h1 := runD_n r (opD D x)
    have h2 := opD_n D x
    show (runD (opD D x) r).n ≤ _
    rw [List.length_cons]
    omega
theorem runD_small (m : Nat) (xs : List OpR) (h : xs.length ≤ 40) (k : Nat) : (runD (newD m) (xs.take k)).n < 1000000 := by
  have := runD_n (xs.take k) (newD m)
  have h0 : (newD m).n = 0 := rfl
  rw [List.length_take] at this
  omega
theorem runD_small' (m : Nat) (xs : List OpR) (h : xs.length ≤ 40) : (runD (newD m) xs).n ≤ 40 := by
  have := runD_n xs (newD m)
  have h0 : (newD m).n = 0 := rfl
  omega
theorem runD_len (m : Nat) (xs : List OpR) : (runD (newD m) xs).ss.length = m := by rw [runD_m]; simp [newD]

/-- All are as they may be. -/
theorem cuts_ok {w : World} {A : Option Addr} {xs : List OpR} (h : OpsIn w A xs) : ∀ x ∈ (xs.map cutO).take 40, x.ok := fun x hx => by
  obtain ⟨y, hy, rfl⟩ := List.mem_map.1 (List.mem_of_mem_take hx)
  obtain ⟨j, hj⟩ := List.mem_iff_getElem?.1 hy
  obtain ⟨ad, _, _, h1, h2, _⟩ := h j y hj
  exact cutO_ok h1 h2

/-- What stands at a place of a disk's bytes. -/
theorem all_extract {D : Dk} (h : D.Ok) (p : Nat) (hp : p < 64 * D.ss.length) : ∃ t, D.ss[p / 64]? = some t ∧ t.size = 64 ∧ D.all.extract p (p + 1) = t.extract (p % 64) (p % 64 + 1) ∧ (D.all.extract p (p + 1)).size = 1 := by
  have hlt : p / 64 < D.ss.length := by omega
  refine ⟨_, List.getElem?_eq_getElem hlt, h.a64.get (List.getElem?_eq_getElem hlt), ?_, ?_⟩
  · generalize ht : D.ss[p / 64] = t
    have ht' : D.ss[p / 64]? = some t := by rw [List.getElem?_eq_getElem hlt, ht]
    have h64 := h.a64.get ht'
    have hsplit : catS D.ss = catS (D.ss.take (p / 64)) ++ (t.data.toList ++ catS (D.ss.drop (p / 64 + 1))) := by
      have : D.ss = D.ss.take (p / 64) ++ (t :: D.ss.drop (p / 64 + 1)) := by
        rw [← ht, ← List.drop_eq_getElem_cons hlt, List.take_append_drop]
      conv => lhs; rw [this]
      rw [catS_append]
      congr 1
    have hl : (catS (D.ss.take (p / 64))).length = 64 * (p / 64) := by rw [catS_length _ (h.a64.take _), List.length_take]; congr 1; omega
    have htl : t.data.toList.length = 64 := by rw [Array.length_toList]; exact h64
    apply ByteArray.ext
    apply Array.toList_inj.1
    rw [ByteArray.data_extract, ByteArray.data_extract, Array.toList_extract, Array.toList_extract]
    show List.extract (catS D.ss) p (p + 1) = _
    unfold List.extract
    rw [hsplit, List.drop_append, hl, List.drop_of_length_le (by rw [hl]; omega), List.nil_append, show p - 64 * (p / 64) = p % 64 by omega, List.drop_append_of_le_length (by rw [htl]; omega), List.take_append_of_le_length (by rw [List.length_drop, htl]; omega)]
    congr 1
    omega
  · rw [ByteArray.size_extract, h.all_size]; omega

theorem bytes_one {D : Dk} (h : D.Ok) (hd : D.down = false) (p : Nat) (hp : p < 64 * D.ss.length) : bytesR D (p : Int) 1 = (D.all.extract p (p + 1), 0) := by
  unfold bytesR
  rw [hd, if_neg (by simp), cutR_ok ⟨by omega, by omega, by rw [h.all_size]; omega⟩]
  congr 2
theorem bytes_all {D : Dk} (h : D.Ok) (hd : D.down = false) (m : Nat) (hm : D.ss.length = m) : bytesR D 0 (64 * (m : Int)) = (D.all, 0) := by
  unfold bytesR
  rw [hd, if_neg (by simp), cutR_ok ⟨by omega, by omega, by rw [h.all_size]; omega⟩]
  congr 1
  apply ByteArray.ext
  apply Array.toList_inj.1
  rw [ByteArray.data_extract, Array.toList_extract]
  unfold List.extract
  have hl : D.all.data.toList.length = 64 * D.ss.length := by rw [Array.length_toList]; exact h.all_size
  rw [Int.toNat_zero, List.drop_zero, List.take_of_length_le]
  rw [hl]; omega
theorem read_at {D : Dk} (hd : D.down = false) {j : Nat} {t : ByteArray} (ht : D.ss[j]? = some t) : readR D (j : Int) = (t, 0) := by
  have hlt := (List.getElem?_eq_some_iff.1 ht).1
  unfold readR
  rw [hd, if_neg (by simp), if_pos ⟨by omega, by omega⟩]
  simp [List.getD, ht]

theorem writeD_eq {D : Dk} {i : Int} {s : ByteArray} (hd : D.down = false) (hi : inD D i) (hs : s.size = 64) : writeD D i s = { D with ss := D.ss.set i.toNat (mixS s (D.ss.getD i.toNat ⟨#[]⟩) D.reach), left := D.left - 1, down := decide (D.left = 1), n := D.n + 1 } := if_pos ⟨hd, hi, hs⟩
theorem writeE_eq {D : Dk} {i : Int} {s : ByteArray} (hd : D.down = false) (hi : inD D i) (hs : s.size = 64) : writeE D i s = if D.left = 1 then 180 else 0 := by
  unfold writeE
  rw [hd, if_neg (by simp), if_pos ⟨hi, hs⟩]
/-- What is written to a disk whose power does not go is read. -/
theorem write_read {D : Dk} {i : Int} {s : ByteArray} (ok : D.Ok) (hd : D.down = false) (hl : D.left ≠ 1) (hi : inD D i) (hs : s.size = 64) :
    writeE D i s = 0 ∧ (writeD D i s).down = false ∧ (writeD D i s).n = D.n + 1 ∧ readR (writeD D i s) i = (s, 0) := by
  obtain ⟨t, ht, htd, ht64⟩ := ok.get hi
  have hr : D.reach = 64 := if_neg hl
  have e := writeD_eq hd hi hs
  rw [hr, htd, mixS_all hs ht64] at e
  have hdn : decide (D.left = 1) = false := by simpa using hl
  have hlt : i.toNat < D.ss.length := by have := hi.1; have := hi.2; omega
  refine ⟨by rw [writeE_eq hd hi hs, if_neg hl], by rw [e]; exact hdn, by rw [e], ?_⟩
  have hin : inD (writeD D i s) i := ⟨hi.1, by rw [writeD_m]; exact hi.2⟩
  unfold readR
  rw [if_neg (by rw [e]; simp [hdn]), if_pos hin, e]
  simp [List.getD, hlt]
/-- What a disk that was restarted and armed with one write does. -/
theorem down_seq {D : Dk} (ok : D.Ok) (hn : D.n ≤ 40) {i : Int} (hi : inD D i) (c : Int) (h0 : 0 ≤ c) (h1 : c ≤ 64) (x y z : ByteArray) (hx : x.size = 64) (hy : y.size = 64) (hz : z.size = 64) :
    armE 1 c = 0 ∧ writeE (armD (restD D) 1 c) i x = 180 ∧ (writeD (armD (restD D) 1 c) i x).down = true ∧
    writeE (writeD (armD (restD D) 1 c) i x) i y = 180 ∧ writeD (writeD (armD (restD D) 1 c) i x) i y = writeD (armD (restD D) 1 c) i x ∧
    (readR (writeD (armD (restD D) 1 c) i x) i).2 = 180 ∧ (bytesR (writeD (armD (restD D) 1 c) i x) 0 1).2 = 180 ∧
    writeE (restD (writeD (armD (restD D) 1 c) i x)) i z = 0 ∧
    readR (writeD (restD (writeD (armD (restD D) 1 c) i x)) i z) i = (z, 0) ∧
    (writeD (restD (writeD (armD (restD D) 1 c) i x)) i z).down = false ∧ (writeD (restD (writeD (armD (restD D) 1 c) i x)) i z).n = D.n + 2 ∧ (armD (restD D) 1 c).n < 1000000 ∧ (writeD (armD (restD D) 1 c) i x).n < 1000000 := by
  have ha : armB 1 c := ⟨by omega, h0, h1⟩
  have eA : armD (restD D) 1 c = { restD D with left := 1, cut := c.toNat } := if_pos ha
  have okA := armD_ok (restD_ok ok) 1 c (by omega)
  have hdA : (armD (restD D) 1 c).down = false := by rw [eA]; rfl
  have hlA : (armD (restD D) 1 c).left = 1 := by rw [eA]
  have hnA : (armD (restD D) 1 c).n = D.n := by rw [eA]; rfl
  have hiA : inD (armD (restD D) 1 c) i := ⟨hi.1, by rw [armD_m]; exact hi.2⟩
  generalize armD (restD D) 1 c = A at *
  have eW := writeD_eq hdA hiA hx
  have hdW : (writeD A i x).down = true := by rw [eW]; simp [hlA]
  have hnW : (writeD A i x).n = D.n + 1 := by rw [eW]; simp [hnA]
  have okW := writeD_ok okA i x (by omega)
  have hiW : inD (restD (writeD A i x)) i := ⟨hiA.1, by show i < (((writeD A i x).ss.length : Nat) : Int); rw [writeD_m]; exact hiA.2⟩
  have eE := writeE_eq hdA hiA hx
  generalize writeD A i x = B at *
  obtain ⟨k1, k2, k3, k4⟩ := write_read (D := restD B) (s := z) (restD_ok okW) rfl (by show (0 : Nat) ≠ 1; omega) hiW hz
  refine ⟨if_pos ha, by rw [eE, if_pos hlA], hdW, by simp [writeE, hdW], by unfold writeD; rw [if_neg (by rw [hdW]; simp)], by simp [readR, hdW], by simp [bytesR, hdW], k1, k4, k2, ?_, by omega, by omega⟩
  rw [k3]
  show B.n + 1 = D.n + 2
  omega
end Go.Proofs.YtpafpmefhfmndaaDoor
