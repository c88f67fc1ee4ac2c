/- Contracts of demand and check of package signs: what is wrong by the first rule that does not hold. -/
import Derived.Test.YtlddkoblicnepaaDoorGBase
set_option linter.unusedVariables false
set_option linter.unusedSimpArgs false
namespace Go.Proofs.YtlddkoblicnepaaDoor
open Go.RowKit Go.Extern.Stop Go.Stop Go.Extern

/-- A rule as a value: its two boxes lie at P and E. -/
abbrev ruleV (P E : Nat) : Value := .func (.func 47) #[] #[.pointer (some ⟨P, 0, none⟩), .pointer (some ⟨E, 0, none⟩)]
/-- The value of a sentinel. -/
abbrev sentG (a : Addr) : Value := .iface 89 (.pointer (some a))

/-- The rule v is 'h, else the sentinel at a'. -/
def RuleAt (w : World) (v : Value) (h : Bool) (a : Addr) : Prop := ∃ P E, v = ruleV P E ∧ w.cell? ⟨P, 0, none⟩ = some (.bool h) ∧ w.cell? ⟨E, 0, none⟩ = some (sentG a)
theorem RuleAt.below {w w' : World} {v : Value} {h : Bool} {a : Addr} (r : RuleAt w v h a) (hb : Below w.heap.size w w') : RuleAt w' v h a := by
  obtain ⟨P, E, e, c, d⟩ := r
  exact ⟨P, E, e, (hb.cell (World.block_lt_of_cell? _ _ c)).trans c, (hb.cell (World.block_lt_of_cell? _ _ d)).trans d⟩

set_option maxHeartbeats 400000 in
theorem demand_any (h : Bool) (a : Addr) (w : World) :
    Calls Tryd.prog 35 #[.bool h, sentG a] w fun e w' => (∃ P E, e = .returned (ruleV P E) ∧ RuleAt w' (ruleV P E) h a) ∧ Below w.heap.size w w' := by
  have hmf : ∀ (fn : Fn) (first cap : Array Value) (w : World), (Instr.makeFunc fn first cap).run Tryd.prog w = .ok (.func fn first cap) w := fun _ _ _ _ => rfl
  go_enter Tryd.func35, Tryd.ntmps35
  go_wp2
  go_ret
  refine ⟨⟨_, _, rfl, _, _, rfl, ?_, ?_⟩, ((Below.refl _ _).alloc (Nat.le_refl _) _).alloc (by simp) _⟩
  · go_simp
  · go_simp

set_option maxHeartbeats 400000 in
theorem demand1_any (P E : Nat) (h : Bool) (a : Addr) (w : World) (c : w.cell? ⟨P, 0, none⟩ = some (.bool h)) (d : w.cell? ⟨E, 0, none⟩ = some (sentG a)) :
    Calls Tryd.prog 47 #[.pointer (some ⟨P, 0, none⟩), .pointer (some ⟨E, 0, none⟩)] w fun e w' => e = .returned (if h then .nilIface else sentG a) ∧ w = w' := by
  cases h with
  | true =>
    go_enter Tryd.func47, Tryd.ntmps47
    go_wp2
    go_ret
    exact ⟨rfl, rfl⟩
  | false =>
    go_enter Tryd.func47, Tryd.ntmps47
    go_wp2
    go_ret
    exact ⟨rfl, rfl⟩

/-- What the first of the rules that does not hold has. -/
def firstG : List (Bool × Addr) → Value
  | [] => .nilIface
  | (true, _) :: r => firstG r
  | (false, a) :: _ => sentG a
theorem firstG_hold : ∀ (rs : List (Bool × Addr)) (k : Nat), (∀ r ∈ rs.take k, r.1 = true) → firstG rs = firstG (rs.drop k)
  | [], k, _ => by simp
  | r :: t, 0, _ => rfl
  | (p, n) :: t, k + 1, h => by
    have hp : p = true := h (p, n) (by simp)
    subst hp
    rw [List.drop_succ_cons]
    exact firstG_hold t k (fun x hx => h x (by simp [hx]))

/-- Rules lie in the block R, one behind the other. -/
def RulesG (w : World) (R : Nat) (rs : List (Bool × Addr)) : Prop := ∀ j r, rs[j]? = some r → ∃ v, w.cell? ⟨R, j, none⟩ = some v ∧ RuleAt w v r.1 r.2

set_option maxRecDepth 100000 in
set_option maxHeartbeats 2000000 in
theorem check_any (R cap : Nat) (rs : List (Bool × Addr)) (w : World) (hl : rs.length ≤ 10) (hr : RulesG w R rs) :
    Calls Tryd.prog 34 #[.slice (some ⟨R, 0, none⟩) rs.length cap] w fun e w' => e = .returned (firstG rs) ∧ w = w' := by
  have HR := Lib.hid hr
  clear hr
  go_enter Tryd.func34, Tryd.ntmps34
  go_wp2
  go_loopw [8] (fun i wr => ∃ k : Nat, k ≤ rs.length ∧ i = .int .i64 k ∧ (∀ r ∈ rs.take k, r.1 = true) ∧ w = wr) (fun i _ => rs.length - (intOf i).toNat)
  case atStart => exact ⟨0, Nat.zero_le _, rfl, by simp, rfl⟩
  case round =>
    obtain ⟨k, hk, rfl, hq, rfl⟩ := hrel
    have HQ := Lib.hid hq
    clear hq
    by_cases hlt : k < rs.length
    · have hx := List.getElem?_eq_getElem hlt
      generalize rs[k] = r at hx
      obtain ⟨p, a⟩ := r
      obtain ⟨v, cv, P, E, rfl, c0, c1⟩ := HR.out k _ hx
      have HX := Lib.hid hx
      clear hx
      simp only at c0 c1
      cases p with
      | false =>
        go_wp2_with fail
        refine (demand1_any P E false a _ c0 c1).mono ?_
        rintro e w' ⟨rfl, rfl⟩
        go_wp2
        go_ret
        refine ⟨?_, rfl⟩
        rw [firstG_hold rs k HQ.out, List.drop_eq_getElem_cons hlt]
        have e := HX.out
        rw [List.getElem?_eq_getElem hlt] at e
        rw [Option.some.inj e]
        rfl
      | true =>
        go_wp2_with fail
        refine (demand1_any P E true a _ c0 c1).mono ?_
        rintro e w' ⟨rfl, rfl⟩
        go_wp2
        go_roundw
        case rel =>
          refine ⟨k + 1, by omega, by go_num, ?_, by trivial⟩
          rw [List.take_add_one, HX.out]
          intro r hr
          rcases List.mem_append.1 hr with hr | hr
          · exact HQ.out r hr
          · simp at hr; subst hr; rfl
        case measure => simp [intOf]; omega
    · obtain rfl : k = rs.length := by omega
      go_wp2
      go_ret
      refine ⟨?_, rfl⟩
      rw [firstG_hold rs rs.length (fun r hr => HQ.out r (by simpa using hr)), List.drop_length]
      rfl
end Go.Proofs.YtlddkoblicnepaaDoor
