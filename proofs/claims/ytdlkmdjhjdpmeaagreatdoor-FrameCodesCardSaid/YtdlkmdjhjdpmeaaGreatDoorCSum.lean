/- Sums by any table; the kinds' own; how sums of texts that are put together by exclusive or, or changed at bytes beside each other, come out: plain mathematics. -/
import Derived.Test.YtdlkmdjhjdpmeaaGreatDoorCPure
import Derived.Test.YtdlkmdjhjdpmeaaGreatDoorCBase
set_option linter.unusedVariables false
set_option linter.unusedSimpArgs false
namespace Go.Proofs.YtdlkmdjhjdpmeaaGreatDoor

/-- A register behind a byte, by a table. -/
def fedT (w : Nat) (tab : List Nat) (r b : Nat) : Nat := (r / 256) ^^^ (tab.getD (r % 256 ^^^ b) 0 % 2 ^ w)
/-- A register behind many bytes, by a table. -/
def runT (w : Nat) (tab : List Nat) (r : Nat) (s : List UInt8) : Nat := s.foldl (fun r b => fedT w tab r b.toNat) r
theorem runT_nil (w : Nat) (tab : List Nat) (r : Nat) : runT w tab r [] = r := rfl
theorem runT_snoc (w : Nat) (tab : List Nat) (r : Nat) (s : List UInt8) (b : UInt8) : runT w tab r (s ++ [b]) = fedT w tab (runT w tab r s) b.toNat := by simp [runT]
theorem fedT_lt {w r b : Nat} (tab : List Nat) (hr : r < 2 ^ w) : fedT w tab r b < 2 ^ w :=
  Nat.xor_lt_two_pow (Nat.lt_of_le_of_lt (Nat.div_le_self _ _) hr) (Nat.mod_lt _ (Nat.two_pow_pos w))
theorem runT_lt {w : Nat} (tab : List Nat) : ∀ (s : List UInt8) (r : Nat), r < 2 ^ w → runT w tab r s < 2 ^ w
  | [], r, h => h
  | b :: s, r, h => runT_lt tab s _ (fedT_lt tab h)
/-- The sum by a table. -/
def sumT (w : Nat) (tab : List Nat) (s : List UInt8) : Nat := runT w tab (2 ^ w - 1) s ^^^ (2 ^ w - 1)
theorem sumT_lt (w : Nat) (tab : List Nat) (s : List UInt8) : sumT w tab s < 2 ^ w := by
  have := Nat.two_pow_pos w
  exact Nat.xor_lt_two_pow (runT_lt tab s _ (by omega)) (by omega)

/-- A kind's own table. -/
def tabL (p : Nat) : List Nat := (List.range 256).map (prt p)
theorem tabL_length (p : Nat) : (tabL p).length = 256 := by simp [tabL]
theorem tabL_get (p : Nat) {i : Nat} (h : i < 256) : (tabL p)[i]? = some (prt p i) := by simp [tabL, h]
theorem tabL_getD (p : Nat) {i : Nat} (h : i < 256) : (tabL p).getD i 0 = prt p i := by rw [List.getD_eq_getElem?_getD, tabL_get p h]; rfl
theorem xor256 {a b : Nat} (ha : a < 256) (hb : b < 256) : a ^^^ b < 256 := Nat.xor_lt_two_pow (n := 8) ha hb
theorem prt_lt {p w i : Nat} (h8 : 8 ≤ w) (hp : p < 2 ^ w) (hi : i < 256) : prt p i < 2 ^ w :=
  stN_lt (by omega) hp 8 i (Nat.lt_of_lt_of_le (show i < 2 ^ 8 from hi) (Nat.pow_le_pow_right (by omega) h8))
theorem fedT_own {p w r b : Nat} (h8 : 8 ≤ w) (hp : p < 2 ^ w) (hb : b < 256) : fedT w (tabL p) r b = upd p r b := by
  have hi : r % 256 ^^^ b < 256 := xor256 (Nat.mod_lt _ (by omega)) hb
  unfold fedT upd
  rw [tabL_getD p hi, Nat.mod_eq_of_lt (prt_lt h8 hp hi)]
theorem runT_own {p w : Nat} (h8 : 8 ≤ w) (hp : p < 2 ^ w) : ∀ (s : List UInt8) (r : Nat), runT w (tabL p) r s = rgs p r s
  | [], r => rfl
  | b :: s, r => by
    have : runT w (tabL p) r (b :: s) = runT w (tabL p) (fedT w (tabL p) r b.toNat) s := rfl
    rw [this, rgs, fedT_own h8 hp b.toNat_lt, runT_own h8 hp s]

theorem xor_inj_r {a b c : Nat} (h : a ^^^ c = b ^^^ c) : a = b := by
  have := congrArg (· ^^^ c) h
  simpa [Nat.xor_assoc] using this
/-- Bytes beside each other, no more than a sum has, that are others make another sum. -/
theorem sumT_burst {p w : Nat} (hp : 2 ^ w ≤ p) (hp2 : p < 2 ^ (w + 1)) (h8 : 8 ≤ w + 1) {a b s t : List UInt8} (hl : s.length = t.length) (hs : 8 * s.length ≤ w + 1) :
    (sumT (w + 1) (tabL p) (a ++ (s ++ b)) = sumT (w + 1) (tabL p) (a ++ (t ++ b))) ↔ s = t := by
  have := Nat.two_pow_pos (w + 1)
  unfold sumT
  rw [runT_own h8 hp2, runT_own h8 hp2]
  constructor
  · intro h
    exact (rgs_burst hp hp2 h8 (by omega) hl hs).1 (xor_inj_r h)
  · intro h; rw [h]

/-- Three texts, put together byte by byte. -/
def mix3 : List UInt8 → List UInt8 → List UInt8 → List UInt8
  | a :: s, b :: t, c :: u => (a ^^^ b ^^^ c) :: mix3 s t u
  | _, _, _ => []
theorem mix3_length : ∀ {s t u : List UInt8}, s.length = t.length → s.length = u.length → (mix3 s t u).length = s.length
  | [], [], [], _, _ => rfl
  | a :: s, b :: t, c :: u, h, k => by
    rw [mix3, List.length_cons, List.length_cons, mix3_length (by simpa using h) (by simpa using k)]
theorem mix3_snoc : ∀ {s t u : List UInt8} (a b c : UInt8), s.length = t.length → s.length = u.length → mix3 (s ++ [a]) (t ++ [b]) (u ++ [c]) = mix3 s t u ++ [a ^^^ b ^^^ c]
  | [], [], [], a, b, c, _, _ => rfl
  | x :: s, y :: t, z :: u, a, b, c, h, k => by
    rw [List.cons_append, List.cons_append, List.cons_append, mix3, mix3_snoc a b c (by simpa using h) (by simpa using k), mix3]
    rfl
theorem xor_mid (a b c d : Nat) : (a ^^^ b) ^^^ (c ^^^ d) = (a ^^^ c) ^^^ (b ^^^ d) := by
  rw [Nat.xor_assoc, Nat.xor_assoc, ← Nat.xor_assoc b c d, Nat.xor_comm b c, Nat.xor_assoc c b d]
theorem xor3_mid (a b c x y z : Nat) : (a ^^^ b ^^^ c) ^^^ (x ^^^ y ^^^ z) = (a ^^^ x) ^^^ (b ^^^ y) ^^^ (c ^^^ z) := by
  rw [xor_mid (a ^^^ b) c (x ^^^ y) z, xor_mid a b x y]
theorem rgs_mix (p : Nat) : ∀ {s t u : List UInt8} (a b c : Nat), s.length = t.length → s.length = u.length → rgs p (a ^^^ b ^^^ c) (mix3 s t u) = rgs p a s ^^^ rgs p b t ^^^ rgs p c u
  | [], [], [], a, b, c, _, _ => rfl
  | x :: s, y :: t, z :: u, a, b, c, h, k => by
    rw [mix3, rgs, rgs, rgs, rgs, ← rgs_mix p _ _ _ (by simpa using h) (by simpa using k), upd_eq, upd_eq, upd_eq, upd_eq, ← stN_xor, ← stN_xor, UInt8.toNat_xor, UInt8.toNat_xor, xor3_mid]
theorem self3 (a : Nat) : a ^^^ a ^^^ a = a := by rw [Nat.xor_self, Nat.zero_xor]
theorem sumT_mix {p w : Nat} (h8 : 8 ≤ w) (hp : p < 2 ^ w) {s t u : List UInt8} (h : s.length = t.length) (k : s.length = u.length) :
    sumT w (tabL p) (mix3 s t u) = sumT w (tabL p) s ^^^ sumT w (tabL p) t ^^^ sumT w (tabL p) u := by
  unfold sumT
  rw [runT_own h8 hp, runT_own h8 hp, runT_own h8 hp, runT_own h8 hp, ← xor3_mid, self3, ← rgs_mix p _ _ _ h k, self3]

theorem xor_div (a b : Nat) (k : Nat) : (a ^^^ b) / 2 ^ k = (a / 2 ^ k) ^^^ (b / 2 ^ k) := by
  apply Nat.eq_of_testBit_eq
  intro i
  simp [Nat.testBit_div_two_pow]
theorem xor_mod (a b : Nat) (k : Nat) : (a ^^^ b) % 2 ^ k = (a % 2 ^ k) ^^^ (b % 2 ^ k) := by
  apply Nat.eq_of_testBit_eq
  intro i
  simp only [Nat.testBit_mod_two_pow, Nat.testBit_xor]
  by_cases h : i < k <;> simp [h]
theorem byteAt_xor (a b k j : Nat) : byteAt (a ^^^ b) k j = byteAt a k j ^^^ byteAt b k j := by
  unfold byteAt
  rw [← pow_256, xor_div, show (256 : Nat) = 2 ^ 8 from rfl, xor_mod]
/-- The bytes of three numbers put together. -/
theorem beL_mix (a b c : Nat) : ∀ k, beL (a ^^^ b ^^^ c) k = mix3 (beL a k) (beL b k) (beL c k) := by
  intro k
  have key : ∀ l : List Nat, l.map (fun j => UInt8.ofNat (byteAt (a ^^^ b ^^^ c) k j)) = mix3 (l.map fun j => UInt8.ofNat (byteAt a k j)) (l.map fun j => UInt8.ofNat (byteAt b k j)) (l.map fun j => UInt8.ofNat (byteAt c k j)) := by
    intro l
    induction l with
    | nil => rfl
    | cons j l ih =>
      rw [List.map_cons, List.map_cons, List.map_cons, List.map_cons, mix3, ih]
      congr 1
      rw [byteAt_xor, byteAt_xor]
      apply UInt8.toNat_inj.1
      rw [UInt8.toNat_xor, UInt8.toNat_xor]
      have h1 := byteAt_lt a k j
      have h2 := byteAt_lt b k j
      have h3 := byteAt_lt c k j
      have e : ∀ x, x < 256 → (UInt8.ofNat x).toNat = x := fun x hx => by simp; omega
      rw [e _ h1, e _ h2, e _ h3, e _ (xor256 (xor256 h1 h2) h3)]
  exact key (List.range k)
end Go.Proofs.YtdlkmdjhjdpmeaaGreatDoor
