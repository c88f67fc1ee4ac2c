/- Contract of Right of package eid, at every name. -/
import Derived.Test.YtmpokhdljlnllaaDoorERightN
import Derived.Test.YtmpokhdljlnllaaDoorEPln
set_option linter.unusedVariables false
set_option linter.unusedSimpArgs false
namespace Go.Proofs.YtmpokhdljlnllaaDoor
open Go.RowKit

theorem enterF {P : Program} {f : FuncId} {fn : Func} {c : Code} (hf : P.funcs[f]? = some fn) (hname : (fn.name == "runtime.NumGoroutine") = false) (hb : fn.body = some c) (args : Array Value) (w : World) : (callFunc f args).run P w = .ok (.enter f args) w := by
  have h1 : fn.name ≠ "runtime.NumGoroutine" := by simpa using hname
  simp [callFunc, hf, h1, hb]

/-- What ints hold. -/
def I64 (n : Int) : Prop := -9223372036854775808 ≤ n ∧ n ≤ 9223372036854775807

theorem eright_any (k : Int) (nd sv : ByteArray) (a b : Int) (w : World) (hE : EnvN w) (ha : I64 a) (hb : I64 b) :
    Calls Tryd.prog 21 #[nmV k nd sv a b] w fun e w' => e = .returned (.bool (nmR (nmO k nd sv a b))) ∧ Below w.heap.size w w' := by
  by_cases h0 : k = 0
  · subst h0
    rw [← rgt0]
    exact eright_go 0 nd sv a b _ _ _ _ 0 rfl (enterF Tryd.func39 (by kernel_rfl) rfl) (enterF Tryd.func40 (by kernel_rfl) rfl) _ _ _ _ _ (bareNone_any 0 nd sv a b) psN (by decide) w (fun W _ => noneParts_any 0 nd sv a b W)
  by_cases h1 : k = 1
  · subst h1
    rw [← rgt1]
    exact eright_go 1 nd sv a b _ _ _ _ 1 rfl (enterF Tryd.func42 (by kernel_rfl) rfl) (enterF Tryd.func43 (by kernel_rfl) rfl) _ _ _ _ _ (bareDtn_any 1 nd sv a b) (psD nd sv) (by show 4 ≤ 1000; decide) w (fun W _ => dtnParts_any 1 nd sv a b W)
  by_cases h2 : k = 2
  · subst h2
    rw [← rgt2]
    exact eright_go 2 nd sv a b _ _ _ _ 2 rfl (enterF Tryd.func45 (by kernel_rfl) rfl) (enterF Tryd.func46 (by kernel_rfl) rfl) _ _ _ _ _ (bareIpn_any 2 nd sv a b) (psI a b) (by show 3 ≤ 1000; decide) w (fun W hW => ipnParts_any 2 nd sv a b W (hE.below hW) ha.1 ha.2 hb.1 hb.2)
  rw [rgtN h0 h1 h2]
  exact eright_no k nd sv a b (findS_no h0 h1 h2) w
end Go.Proofs.YtmpokhdljlnllaaDoor
