/- Contracts of Up, MarkUp, MarkDown, Down of package signs. -/
import Derived.Test.YtlddkoblicnepaaDoorGUpA
set_option linter.unusedVariables false
set_option linter.unusedSimpArgs false
namespace Go.Proofs.YtlddkoblicnepaaDoor
open Go.RowKit Go.Extern.Stop Go.Stop Go.Extern

/-- The first of the rules that does not hold. -/
def badG : List (Bool × Nat) → Option Nat
  | [] => none
  | (true, _) :: r => badG r
  | (false, i) :: _ => some i
def wrongG (b : Nat → Addr) : Option Nat → Value
  | none => .nilIface
  | some i => sentG (b i)
/-- The number of what is wrong. -/
def errG : Option Nat → Int
  | none => 0
  | some i => codeG i
theorem firstG_bad (b : Nat → Addr) : ∀ rs : List (Bool × Nat), firstG (rs.map fun r => (r.1, b r.2)) = wrongG b (badG rs)
  | [] => rfl
  | (true, _) :: r => firstG_bad b r
  | (false, _) :: _ => rfl
theorem badG_lt : ∀ (rs : List (Bool × Nat)), (∀ r ∈ rs, r.2 < 8) → ∀ i, badG rs = some i → i < 8
  | [], _, i, e => by cases e
  | (true, _) :: r, h, i, e => badG_lt r (fun x hx => h x (by simp [hx])) i e
  | (false, j) :: r, h, i, e => by
    have : j = i := Option.some.inj e
    subst this
    exact h (false, j) (by simp)

/-- tell: the answer, or nothing and what is wrong. -/
theorem tell_any (b : Nat → Addr) (o : Option Nat) (ho : ∀ i, o = some i → i < 8) (n : Int) (w : World) (hE : EnvG b w) :
    Calls Tryd.prog 25 #[.int .i64 n, wrongG b o] w fun e w' => e = .returned (.tuple #[.int .i64 (if o.isSome then 0 else n), .int .i64 (errG o)]) ∧ Below w.heap.size w w' := by
  cases o with
  | none => exact telli_ok n w
  | some i => exact telli_bad b i (ho i rfl) n w hE

def upO (X : BitVec 64) : Option Nat := badG [(rightSixB X, 7), (X &&& 32768#64 == 0#64, 1), (!(X &&& 16#64 == 0#64), 2)]
def markUpO (X : BitVec 64) : Option Nat := badG [(onlyB X 127#64, 7), (X &&& 32#64 == 0#64, 4), (X &&& 64#64 == 0#64, 5)]
def markDownO (X : BitVec 64) : Option Nat := badG [(onlyB X 23#64, 7)]
def downO (X : BitVec 64) (n : Int) : Option Nat := badG [(onlyB X 475239#64, 7), (withinB n 0 2, 7), ((!(X &&& 64#64 == 0#64)) == (!(X &&& 475136#64 == 0#64)), 3)]
theorem upW_eq (b : Nat → Addr) (X : BitVec 64) : upW b X = wrongG b (upO X) := firstG_bad b [(rightSixB X, 7), (X &&& 32768#64 == 0#64, 1), (!(X &&& 16#64 == 0#64), 2)]
theorem markUpW_eq (b : Nat → Addr) (X : BitVec 64) : markUpW b X = wrongG b (markUpO X) := firstG_bad b [(onlyB X 127#64, 7), (X &&& 32#64 == 0#64, 4), (X &&& 64#64 == 0#64, 5)]
theorem markDownW_eq (b : Nat → Addr) (X : BitVec 64) : markDownW b X = wrongG b (markDownO X) := firstG_bad b [(onlyB X 23#64, 7)]
theorem downW_eq (b : Nat → Addr) (X : BitVec 64) (n : Int) : downW b X n = wrongG b (downO X n) := firstG_bad b [(onlyB X 475239#64, 7), (withinB n 0 2, 7), ((!(X &&& 64#64 == 0#64)) == (!(X &&& 475136#64 == 0#64)), 3)]
theorem upO_lt (X : BitVec 64) : ∀ i, upO X = some i → i < 8 := badG_lt _ (by simp)
theorem markUpO_lt (X : BitVec 64) : ∀ i, markUpO X = some i → i < 8 := badG_lt _ (by simp)
theorem markDownO_lt (X : BitVec 64) : ∀ i, markDownO X = some i → i < 8 := badG_lt _ (by simp)
theorem downO_lt (X : BitVec 64) (n : Int) : ∀ i, downO X n = some i → i < 8 := badG_lt _ (by simp)

/-- What a call answers: the number, or nothing and what is wrong. -/
def ansG (o : Option Nat) (n : Int) : Int := if o.isSome then 0 else n

set_option maxHeartbeats 1000000 in
theorem Up_any (b : Nat → Addr) (X : BitVec 64) (w : World) (hE : EnvG b w) :
    Calls Tryd.prog 10 #[.int .i64 (tI X)] w fun e w' => e = .returned (.tuple #[.int .i64 (ansG (upO X) (tI (upF X))), .int .i64 (errG (upO X))]) ∧ Below w.heap.size w w' := by
  have h1 := up_any b X w hE
  rw [upW_eq] at h1
  have h2 := tell_any b (upO X) (upO_lt X) (tI (upF X))
  unfold ansG
  generalize upO X = o at *
  generalize tI (upF X) = n at *
  generalize tI X = x at *
  generalize (if o.isSome then 0 else n) = r at *
  generalize wrongG b o = v at *
  have H1 := Lib.hid h1
  have H2 := Lib.hid h2
  clear h1 h2
  go_enter Tryd.func10, Tryd.ntmps10
  go_wp2_with fail
  refine H1.out.mono ?_
  rintro e w1 ⟨rfl, hb1⟩
  go_wp2_with fail
  refine (H2.out _ (hE.below hb1)).mono ?_
  rintro e w2 ⟨rfl, hb2⟩
  go_wp2
  go_ret2
  exact ⟨rfl, hb1.trans (hb2.mono hb1.size)⟩

set_option maxHeartbeats 1000000 in
theorem MarkUp_any (b : Nat → Addr) (X : BitVec 64) (w : World) (hE : EnvG b w) :
    Calls Tryd.prog 16 #[.int .i64 (tI X)] w fun e w' => e = .returned (.tuple #[.int .i64 (ansG (markUpO X) (tI (X &&& 23#64))), .int .i64 (errG (markUpO X))]) ∧ Below w.heap.size w w' := by
  have h1 := markUp_any b X w hE
  rw [markUpW_eq] at h1
  have h2 := tell_any b (markUpO X) (markUpO_lt X) (tI (X &&& 23#64))
  unfold ansG
  generalize markUpO X = o at *
  generalize tI (X &&& 23#64) = n at *
  generalize tI X = x at *
  generalize (if o.isSome then 0 else n) = r at *
  generalize wrongG b o = v at *
  have H1 := Lib.hid h1
  have H2 := Lib.hid h2
  clear h1 h2
  go_enter Tryd.func16, Tryd.ntmps16
  go_wp2_with fail
  refine H1.out.mono ?_
  rintro e w1 ⟨rfl, hb1⟩
  go_wp2_with fail
  refine (H2.out _ (hE.below hb1)).mono ?_
  rintro e w2 ⟨rfl, hb2⟩
  go_wp2
  go_ret2
  exact ⟨rfl, hb1.trans (hb2.mono hb1.size)⟩

set_option maxHeartbeats 1000000 in
theorem MarkDown_any (b : Nat → Addr) (X : BitVec 64) (last : Bool) (w : World) (hE : EnvG b w) :
    Calls Tryd.prog 18 #[.int .i64 (tI X), .bool last] w fun e w' => e = .returned (.tuple #[.int .i64 (ansG (markDownO X) (tI (markDownF X last))), .int .i64 (errG (markDownO X))]) ∧ Below w.heap.size w w' := by
  have h1 := markDown_any b X last w hE
  rw [markDownW_eq] at h1
  have h2 := tell_any b (markDownO X) (markDownO_lt X) (tI (markDownF X last))
  unfold ansG
  generalize markDownO X = o at *
  generalize tI (markDownF X last) = n at *
  generalize tI X = x at *
  generalize (if o.isSome then 0 else n) = r at *
  generalize wrongG b o = v at *
  have H1 := Lib.hid h1
  have H2 := Lib.hid h2
  clear h1 h2
  go_enter Tryd.func18, Tryd.ntmps18
  go_wp2_with fail
  refine H1.out.mono ?_
  rintro e w1 ⟨rfl, hb1⟩
  go_wp2_with fail
  refine (H2.out _ (hE.below hb1)).mono ?_
  rintro e w2 ⟨rfl, hb2⟩
  go_wp2
  go_ret2
  exact ⟨rfl, hb1.trans (hb2.mono hb1.size)⟩

set_option maxHeartbeats 1000000 in
theorem Down_any (b : Nat → Addr) (X : BitVec 64) (m : Int) (c : Bool) (w : World) (hE : EnvG b w) :
    Calls Tryd.prog 12 #[.int .i64 (tI X), .int .i64 m, .bool c] w fun e w' => e = .returned (.tuple #[.int .i64 (ansG (downO X m) (tI (downF X m c))), .int .i64 (errG (downO X m))]) ∧ Below w.heap.size w w' := by
  have h1 := down_any b X m c w hE
  rw [downW_eq] at h1
  have h2 := tell_any b (downO X m) (downO_lt X m) (tI (downF X m c))
  unfold ansG
  generalize downO X m = o at *
  generalize tI (downF X m c) = n at *
  generalize tI X = x at *
  generalize (if o.isSome then 0 else n) = r at *
  generalize wrongG b o = v at *
  have H1 := Lib.hid h1
  have H2 := Lib.hid h2
  clear h1 h2
  go_enter Tryd.func12, Tryd.ntmps12
  go_wp2_with fail
  refine H1.out.mono ?_
  rintro e w1 ⟨rfl, hb1⟩
  go_wp2_with fail
  refine (H2.out _ (hE.below hb1)).mono ?_
  rintro e w2 ⟨rfl, hb2⟩
  go_wp2
  go_ret2
  exact ⟨rfl, hb1.trans (hb2.mono hb1.size)⟩
end Go.Proofs.YtlddkoblicnepaaDoor
