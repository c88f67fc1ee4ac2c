/- The walk of EidTexts, whole. -/
import Derived.Test.YtmpokhdljlnllaaDoorETexts
set_option linter.unusedVariables false
set_option linter.unusedSimpArgs false
namespace Go.Proofs.YtmpokhdljlnllaaDoor
open Go.RowKit

theorem nmX_V (q : Option Nm) : nmX q = nmV (q.getD nm0).k ⟨(q.getD nm0).node.toArray⟩ ⟨(q.getD nm0).serv.toArray⟩ (q.getD nm0).a (q.getD nm0).b := rfl
theorem homV_V (k : Int) (nd sv : ByteArray) (a b : Int) : ∃ hk hn hs ha hb, homV k nd sv a b = nmV hk hn hs ha hb := by
  unfold homV
  split
  · exact ⟨_, _, _, _, _, rfl⟩
  · exact ⟨_, _, _, _, _, rfl⟩

theorem texts_walk (k : Int) (nd sv s t : ByteArray) (a b : Int) (w : World) (hE : EnvN w) (ha : I64 a) (hb : I64 b) (hn : nd.size ≤ maxLen) (hs : sv.size ≤ maxLen) (hs1 : s.size ≤ maxLen) (ht1 : t.size ≤ maxLen) :
    Calls Tryd.prog 3 #[nmV k nd sv a b, .string s, .string t] w fun e w' => e = .returned (.bool true) ∧ Below w.heap.size w w' := by
  have hx1 : (c21 nd).size ≤ 4000000000 := Nat.le_trans (c21_le nd) (by decide)
  have hx2 : (c21 sv).size ≤ 4000000000 := Nat.le_trans (c21_le sv) (by decide)
  have hsc : (c80 s).size ≤ 4000000000 := Nat.le_trans (c80_le s) (by decide)
  have htc : (c80 t).size ≤ 4000000000 := Nat.le_trans (c80_le t) (by decide)
  have HHM := Lib.hid (fun W hW => homeE_any k (c21 nd) (c21 sv) a b W hW ha hb hx1)
  have RHM := Lib.hid (fun W => rhome_any k (c21 nd) (c21 sv) a b W hx1 hx2)
  obtain ⟨hk, hn', hs', ha', hb', hh⟩ := homV_V k (c21 nd) (c21 sv) a b
  rw [hh] at HHM RHM
  have HJN := Lib.hid (fun W hW => join_any (c80 s) (c80 t) htc W hW)
  have RJN := Lib.hid (fun W => rjoin_any (c80 s) (c80 t) htc W)
  have HPS := Lib.hid (fun W hW => parse_any (c80 s) hsc W hW)
  have RPS := Lib.hid (fun W => rparse_any (c80 s) hsc W)
  rw [nmX_V] at HJN RJN HPS RPS
  exact texts_core k a b _ _ _ _ _ _ hk ha' hb' (erS (nmO k (c21 nd) (c21 sv) a b)) (erX (jnR (c80 s).data.toList (c80 t).data.toList)) (erX (prsR (c80 s).data.toList)) nd sv (c21 nd) (c21 sv) s t (c80 s) (c80 t) (hfS (nmO k (c21 nd) (c21 sv) a b)) (rsS (nmO k (c21 nd) (c21 sv) a b)) (txS (nmO k (c21 nd) (c21 sv) a b)) _ _ _ _ hn' hs' (nmR (nmO k (c21 nd) (c21 sv) a b)) w (Lib.hid hE)
    (Lib.hid (fun W => lCut_any k nd sv a b W hn hs)) (Lib.hid (fun W => lcut_any s W hs1)) (Lib.hid (fun W => lcut_any t W ht1))
    (Lib.hid (fun W hW => halves_any k (c21 nd) (c21 sv) a b W hW ha hb)) (Lib.hid (fun W => rhalves_any k (c21 nd) (c21 sv) a b W hx1 hx2))
    HJN RJN
    (Lib.hid (fun W hW => print_any k (c21 nd) (c21 sv) a b W hW ha hb)) (Lib.hid (fun W => rprint_any k (c21 nd) (c21 sv) a b W hx1 hx2))
    HPS RPS HHM RHM
    (Lib.hid (fun W hW => eright_any k (c21 nd) (c21 sv) a b W hW ha hb)) (Lib.hid (fun W => rright_any k (c21 nd) (c21 sv) a b W hx1 hx2))
end Go.Proofs.YtmpokhdljlnllaaDoor
