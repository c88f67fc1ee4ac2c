/- The walk of EidBack, whole. -/
import Derived.Test.YtmpokhdljlnllaaDoorEBack
set_option linter.unusedVariables false
set_option linter.unusedSimpArgs false
namespace Go.Proofs.YtmpokhdljlnllaaDoor
open Go.RowKit

theorem nm_I64 {e : Nm} (h : nmR e = true) : I64 e.a ∧ I64 e.b := by
  unfold I64
  rcases nmR_cases h with rfl | ⟨_, _, _, _, h5, h6⟩ | ⟨A, B, rfl, hA, hA9, hB9⟩
  · exact ⟨by decide, by decide⟩
  · rw [h5, h6]; exact ⟨by decide, by decide⟩
  · exact ⟨by show _ ≤ (A : Int) ∧ (A : Int) ≤ _; omega, by show _ ≤ (B : Int) ∧ (B : Int) ≤ _; omega⟩
theorem nmO_mk (p : Nm) : nmO p.k ⟨p.node.toArray⟩ ⟨p.serv.toArray⟩ p.a p.b = p := rfl
theorem hfS_data {o : Nm} (h : nmR o = true) : (hfS o).data.toList = (hlv o).1 := by
  unfold hfS; rw [if_pos h]
theorem rsS_data {o : Nm} (h : nmR o = true) : (rsS o).data.toList = (hlv o).2 := by
  unfold rsS; rw [if_pos h]
theorem tx_size (o : Nm) : (txS o).size ≤ 104 := by
  have h1 := hf_size o
  have h2 := rs_size o
  unfold txS
  split
  · rw [ByteArray.size_append, ByteArray.size_append]
    show (hfS o).size + 1 + (rsS o).size ≤ 104
    omega
  · decide
theorem tx_back {s : ByteArray} {p : Nm} (h : prsR s.data.toList = some p) : txS p = s := by
  obtain ⟨h1, h2⟩ := prsR_back h
  exact ba_ext ((tx_list h1).trans h2)

theorem p_parse_tx {k : Int} {nd sv : ByteArray} {a b : Int} (hr : nmR (nmO k nd sv a b) = true) (W : World) (hW : EnvN W) :
    Calls Tryd.prog 17 #[.string (txS (nmO k nd sv a b))] W fun e w' => e = .returned (.tuple #[nmV k nd sv a b, .int .i64 0]) ∧ Below W.heap.size W w' := by
  have h := parse_any (txS (nmO k nd sv a b)) (Nat.le_trans (tx_size _) (by decide)) W hW
  rw [tx_list hr, prsR_txt hr, show nmX (some (nmO k nd sv a b)) = nmV k nd sv a b from nmW_O k nd sv a b, show erX (some (nmO k nd sv a b)) = 0 from rfl] at h
  exact h
theorem p_join_hv {k : Int} {nd sv : ByteArray} {a b : Int} (hr : nmR (nmO k nd sv a b) = true) (W : World) (hW : EnvN W) :
    Calls Tryd.prog 13 #[.string (hfS (nmO k nd sv a b)), .string (rsS (nmO k nd sv a b))] W fun e w' => e = .returned (.tuple #[nmV k nd sv a b, .int .i64 0]) ∧ Below W.heap.size W w' := by
  have h := join_any (hfS (nmO k nd sv a b)) (rsS (nmO k nd sv a b)) (Nat.le_trans (rs_size _) (by decide)) W hW
  rw [hfS_data hr, rsS_data hr, jnR_hlv hr, show nmX (some (nmO k nd sv a b)) = nmV k nd sv a b from nmW_O k nd sv a b, show erX (some (nmO k nd sv a b)) = 0 from rfl] at h
  exact h
theorem p_print {k : Int} {nd sv : ByteArray} {a b : Int} (ha : I64 a) (hb : I64 b) (r : Bool) (hr : nmR (nmO k nd sv a b) = r) (W : World) (hW : EnvN W) :
    Calls Tryd.prog 15 #[nmV k nd sv a b] W fun e w' => e = .returned (.tuple #[.string (txS (nmO k nd sv a b)), .int .i64 (if r then 0 else 60)]) ∧ Below W.heap.size W w' := by
  have h := print_any k nd sv a b W hW ha hb
  unfold erS at h
  rw [hr] at h
  exact h
theorem p_halves {k : Int} {nd sv : ByteArray} {a b : Int} (ha : I64 a) (hb : I64 b) (r : Bool) (hr : nmR (nmO k nd sv a b) = r) (W : World) (hW : EnvN W) :
    Calls Tryd.prog 11 #[nmV k nd sv a b] W fun e w' => e = .returned (.tuple #[.string (hfS (nmO k nd sv a b)), .string (rsS (nmO k nd sv a b)), .int .i64 (if r then 0 else 60)]) ∧ Below W.heap.size W w' := by
  have h := halves_any k nd sv a b W hW ha hb
  unfold erS at h
  rw [hr] at h
  exact h
theorem p_right {k : Int} {nd sv : ByteArray} {a b : Int} (ha : I64 a) (hb : I64 b) (r : Bool) (hr : nmR (nmO k nd sv a b) = r) (W : World) (hW : EnvN W) :
    Calls Tryd.prog 21 #[nmV k nd sv a b] W fun e w' => e = .returned (.bool r) ∧ Below W.heap.size W w' := by
  have h := eright_any k nd sv a b W hW ha hb
  rw [hr] at h
  exact h
theorem p_parse_no {s : ByteArray} (hs : s.size ≤ 80) (h0 : prsR s.data.toList = none) (W : World) (hW : EnvN W) :
    Calls Tryd.prog 17 #[.string s] W fun e w' => e = .returned (.tuple #[nmV 0 ⟨#[]⟩ ⟨#[]⟩ 0 0, .int .i64 60]) ∧ Below W.heap.size W w' := by
  have h := parse_any s (Nat.le_trans hs (by decide)) W hW
  rw [h0] at h
  exact h
theorem p_join_no (W : World) (hW : EnvN W) :
    Calls Tryd.prog 13 #[.string ⟨#[]⟩, .string ⟨#[]⟩] W fun e w' => e = .returned (.tuple #[nmV 0 ⟨#[]⟩ ⟨#[]⟩ 0 0, .int .i64 60]) ∧ Below W.heap.size W w' := by
  have h := join_any ⟨#[]⟩ ⟨#[]⟩ (by decide) W hW
  rw [show jnR (⟨#[]⟩ : ByteArray).data.toList (⟨#[]⟩ : ByteArray).data.toList = none by kernel_rfl] at h
  exact h
theorem p_parse_yes {s : ByteArray} {p : Nm} (hs : s.size ≤ 80) (h0 : prsR s.data.toList = some p) (W : World) (hW : EnvN W) :
    Calls Tryd.prog 17 #[.string s] W fun e w' => e = .returned (.tuple #[nmV p.k ⟨p.node.toArray⟩ ⟨p.serv.toArray⟩ p.a p.b, .int .i64 0]) ∧ Below W.heap.size W w' := by
  have h := parse_any s (Nat.le_trans hs (by decide)) W hW
  rw [h0] at h
  exact h
theorem p_print_back {s : ByteArray} {p : Nm} (h0 : prsR s.data.toList = some p) (W : World) (hW : EnvN W) :
    Calls Tryd.prog 15 #[nmV p.k ⟨p.node.toArray⟩ ⟨p.serv.toArray⟩ p.a p.b] W fun e w' => e = .returned (.tuple #[.string s, .int .i64 0]) ∧ Below W.heap.size W w' := by
  have hr := (prsR_back h0).1
  have h := p_print (nm_I64 hr).1 (nm_I64 hr).2 true (show nmR (nmO p.k ⟨p.node.toArray⟩ ⟨p.serv.toArray⟩ p.a p.b) = true from hr) W hW
  rw [nmO_mk, tx_back h0] at h
  exact h
theorem nmR_zero : nmR (nmO 0 ⟨#[]⟩ ⟨#[]⟩ 0 0) = true := by decide

theorem add_of (x y : ByteArray) (h : x.size + y.size ≤ 1000) (W : World) : (Op.stringOp .add x y).run Tryd.prog W = .ok (.string (x ++ y)) W := run_string_add_sum W _ _ (by omega)

theorem back_walk (k : Int) (nd sv s : ByteArray) (a b : Int) (w : World) (hE : EnvN w) (ha : I64 a) (hb : I64 b) (hn : nd.size ≤ maxLen) (hs : sv.size ≤ maxLen) (ht : s.size ≤ maxLen) :
    Calls Tryd.prog 4 #[nmV k nd sv a b, .string s] w fun e w' => e = .returned (.bool true) ∧ Below w.heap.size w w' := by
  have HCUT := Lib.hid (fun W => lCut_any k nd sv a b W hn hs)
  have HLC := Lib.hid (fun W => lcut_any s W ht)
  have h80 := c80_le s
  have hz1 := hf_size (nmO k (c21 nd) (c21 sv) a b)
  have hz2 := rs_size (nmO k (c21 nd) (c21 sv) a b)
  have hz3 : (hfS (nmO k (c21 nd) (c21 sv) a b) ++ ⟨#[58]⟩).size = (hfS (nmO k (c21 nd) (c21 sv) a b)).size + 1 := by rw [ByteArray.size_append]; rfl
  have hsz : (⟨#[58]⟩ : ByteArray).size = 1 := rfl
  cases hr : nmR (nmO k (c21 nd) (c21 sv) a b) with
  | false =>
    have h1 : hfS (nmO k (c21 nd) (c21 sv) a b) = ⟨#[]⟩ := by unfold hfS; rw [hr]; rfl
    have h2 : rsS (nmO k (c21 nd) (c21 sv) a b) = ⟨#[]⟩ := by unfold rsS; rw [hr]; rfl
    have HPR := Lib.hid (fun W hW => p_print ha hb false hr W hW)
    have HHV := Lib.hid (fun W hW => p_halves ha hb false hr W hW)
    have HR := Lib.hid (fun W hW => p_right ha hb false hr W hW)
    have HPT := Lib.hid (fun W hW => p_parse_no (s := ⟨#[]⟩) (by decide) (by kernel_rfl) W hW)
    rw [tx_none hr] at HPR
    rw [h1, h2] at HHV
    cases hq : prsR (c80 s).data.toList with
    | none => exact back_00 k a b 0 0 0 nd sv (c21 nd) (c21 sv) s (c80 s) ⟨#[]⟩ ⟨#[]⟩ ⟨#[]⟩ (⟨#[]⟩ ++ ⟨#[58]⟩) ⟨#[]⟩ ⟨#[]⟩ (txS (nmO 0 ⟨#[]⟩ ⟨#[]⟩ 0 0)) w (Lib.hid hE) HCUT HLC HPR HHV HPT (Lib.hid p_join_no) (Lib.hid (fun W hW => p_parse_no h80 hq W hW)) (Lib.hid (fun W hW => p_print I64_zero I64_zero true nmR_zero W hW)) HR
    | some p => exact back_01 k a b p.k p.a p.b nd sv (c21 nd) (c21 sv) s (c80 s) ⟨#[]⟩ ⟨#[]⟩ ⟨#[]⟩ (⟨#[]⟩ ++ ⟨#[58]⟩) ⟨p.node.toArray⟩ ⟨p.serv.toArray⟩ ⟨#[]⟩ w (Lib.hid hE) HCUT HLC HPR HHV HPT (Lib.hid p_join_no) (Lib.hid (fun W hW => p_parse_yes h80 hq W hW)) (Lib.hid (fun W hW => p_print_back hq W hW)) HR
  | true =>
    have HPR := Lib.hid (fun W hW => p_print ha hb true hr W hW)
    have HHV := Lib.hid (fun W hW => p_halves ha hb true hr W hW)
    have HR := Lib.hid (fun W hW => p_right ha hb true hr W hW)
    have HPT := Lib.hid (fun W hW => p_parse_tx hr W hW)
    have HJN := Lib.hid (fun W hW => p_join_hv hr W hW)
    have hu : txS (nmO k (c21 nd) (c21 sv) a b) = hfS (nmO k (c21 nd) (c21 sv) a b) ++ ⟨#[58]⟩ ++ rsS (nmO k (c21 nd) (c21 sv) a b) := by unfold txS; rw [if_pos hr]
    have a1 : ∀ W : World, (Op.stringOp .add (hfS (nmO k (c21 nd) (c21 sv) a b)) ⟨#[58]⟩).run Tryd.prog W = .ok (.string (hfS (nmO k (c21 nd) (c21 sv) a b) ++ ⟨#[58]⟩)) W := fun W => add_of _ _ (by omega) W
    have a2 : ∀ W : World, (Op.stringOp .add (hfS (nmO k (c21 nd) (c21 sv) a b) ++ ⟨#[58]⟩) (rsS (nmO k (c21 nd) (c21 sv) a b))).run Tryd.prog W = .ok (.string (txS (nmO k (c21 nd) (c21 sv) a b))) W := fun W => by rw [hu]; exact add_of _ _ (by omega) W
    cases hq : prsR (c80 s).data.toList with
    | none => exact back_10 k a b 0 0 0 nd sv (c21 nd) (c21 sv) s (c80 s) _ _ _ _ ⟨#[]⟩ ⟨#[]⟩ (txS (nmO 0 ⟨#[]⟩ ⟨#[]⟩ 0 0)) w (Lib.hid hE) HCUT HLC HPR HHV HPT HJN (Lib.hid (fun W hW => p_parse_no h80 hq W hW)) (Lib.hid (fun W hW => p_print I64_zero I64_zero true nmR_zero W hW)) HR a1 a2
    | some p => exact back_11 k a b p.k p.a p.b nd sv (c21 nd) (c21 sv) s (c80 s) _ _ _ _ ⟨p.node.toArray⟩ ⟨p.serv.toArray⟩ ⟨#[]⟩ w (Lib.hid hE) HCUT HLC HPR HHV HPT HJN (Lib.hid (fun W hW => p_parse_yes h80 hq W hW)) (Lib.hid (fun W hW => p_print_back hq W hW)) HR a1 a2
end Go.Proofs.YtmpokhdljlnllaaDoor
