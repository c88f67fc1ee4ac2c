/- Contract of the document's disk: Write. -/
import Derived.Test.YtpafpmefhfmndaaDoorKRef
import Derived.BigRegion
set_option linter.unusedVariables false
set_option linter.unusedSimpArgs false
namespace Go.Proofs.YtpafpmefhfmndaaDoor
open Go.RowKit

theorem RAt.wrote {a b : Nat} {D D' : Dk} {w : World} (h : RAt a b D w) (i : Nat) (t u : ByteArray) (hi : D.ss[i]? = some t) (hu : u.size = 64) (hD : D' = { D with ss := D.ss.set i u }) : RAt a b D' (w.setCell ⟨b, i, none⟩ (.string u)) := by
  subst hD
  have ea : (w.setCell ⟨b, i, none⟩ (.string u)).heap[a]? = w.heap[a]? := Below.heap_setCell _ _ _ _ h.ne
  have hlt : i < D.ss.length := (List.getElem?_eq_some_iff.1 hi).1
  have hh := h.hd.same ea
  obtain ⟨cap, c0⟩ := h.c0
  refine ⟨⟨hh.c1, hh.c2, hh.c3, hh.c4, hh.f1, hh.f2, hh.f3, hh.f4⟩, ⟨cap, ?_⟩, h.ne, ?_, ?_⟩
  · rw [World.cell?_of_block (w := w) (a := ⟨a, 0, none⟩) ea]
    simpa using c0
  · intro j v hv
    by_cases e : j = i
    · subst e
      have hv' : v = u := by simpa [hlt] using hv.symm
      subst hv'
      exact ⟨set_same _ (h.rg j t hi).1, set_fr _ (h.rg j t hi).2⟩
    · have hv' : D.ss[j]? = some v := by
        rw [List.getElem?_set_ne (by omega)] at hv
        exact hv
      exact ⟨set_off _ (h.rg j v hv').1 (by omega), set_fr _ (h.rg j v hv').2⟩
  · have ok := h.ok
    exact ⟨ok.a64.set _ _ hu, by simpa using ok.m1, by simpa using ok.m256, ok.left, ok.cut, ok.n⟩

set_option maxRecDepth 100000 in
set_option maxHeartbeats 4000000 in
theorem rwrite_any (a b : Nat) (D : Dk) (i : Int) (s : ByteArray) (w : World) (h : RAt a b D w) (hn : D.n < 1000000) :
    Calls Tryd.prog 28 #[.pointer (some ⟨a, 0, none⟩), .int .i64 i, .string s] w fun e w' => e = .returned (.int .i64 (writeE D i s)) ∧ RAt a b (writeD D i s) w' ∧ Only a b w w' := by
  have hne := h.ne
  obtain ⟨cap, c0⟩ := h.c0
  have hm := h.ok.m256
  have hlf := h.ok.left
  have hO := Only.refl a b w
  cases hd : D.down with
  | true =>
    have c3 := h.hd.c3
    rw [hd] at c3
    have e1 : writeE D i s = 180 := by simp [writeE, hd]
    have e2 : writeD D i s = D := by simp [writeD, hd]
    rw [e1, e2]
    clear e1 e2 hd
    go_enter Tryd.func28, Tryd.ntmps28
    go_wp2
    go_ret
    exact ⟨rfl, h, hO⟩
  | false =>
    have c3 := h.hd.c3
    rw [hd] at c3
    by_cases hg : inD D i ∧ s.size = 64
    · obtain ⟨hi, hs⟩ := hg
      obtain ⟨t, ht, htd, ht64⟩ := h.ok.get hi
      obtain ⟨j, rfl⟩ := Int.eq_ofNat_of_zero_le hi.1
      have hlt : j < D.ss.length := by have := hi.2; omega
      simp only [Int.toNat_natCast] at ht htd
      have hrl := h.ok.reach_le
      have e1 : writeE D j s = if D.left = 1 then 180 else 0 := by simp [writeE, hd, hi, hs]
      have e2 : writeD D j s = { spentD D with ss := D.ss.set j (mixS s t D.reach) } := by
        unfold writeD
        rw [if_pos ⟨hd, hi, hs⟩]
        simp only [Int.toNat_natCast, htd, spentD]
      obtain ⟨hb, hbf⟩ := h.rg j t ht
      have hok : (spentD D).Ok := ⟨h.ok.a64, h.ok.m1, h.ok.m256, by simp [spentD]; omega, h.ok.cut, by simp [spentD]; omega⟩
      obtain ⟨q, hc, hq⟩ := h.hd.hc
      have HQ := Lib.hid hq
      have g1 : decide (D.ss.length ≤ j) = false := by simp; omega
      have g2 : (!(s.size : Int) == 64) = false := by simp [hs]
      have g3 : ((s.size : Int) != 64) = false := by simp [hs]
      rw [e1, e2]
      have HS := Lib.hid hs
      have HT := Lib.hid ht
      have HD := Lib.hid hd
      clear hq e1 e2 hs ht htd hi hd c3
      by_cases h1 : D.left = 1
      · have hqc : q = D.cut := HQ.out (by omega)
        have hR : D.reach = D.cut := by unfold Dk.reach; rw [if_pos h1]
        have hcut := h.ok.cut
        rw [h1, HD.out, hqc] at hc
        rw [if_pos h1, hR]
        have H1 := Lib.hid h1
        have k1 := hc.c1
        have k2 := hc.c2
        have k3 := hc.c3
        have k4 := hc.c4
        have f1 := hc.f1
        have f3 := hc.f3
        have f4 := hc.f4
        have hab : b ≠ a := Ne.symm hne
        have hcs : (D.cut : Int) ≤ (s.size : Int) := by have := HS.out; omega
        have hct : (D.cut : Int) ≤ (t.size : Int) := by omega
        clear h1 hqc hR
        go_enter Tryd.func28, Tryd.ntmps28
        go_wp2_with fail
        have hc1 := hc.s4 ((D.n : Int) + 1)
        have h2 : RAt a b { D with n := D.n + 1 } (w.setCell ⟨a, 4, none⟩ (.int .i64 ((D.n : Int) + 1))) := h.turn rfl (hc1.hd (by rw [H1.out]) HD.out.symm (by simp) (fun _ => rfl)) (World.cell?_setCell_other _ _ _ _ (by simp)) (Below.heap_setCell _ _ _ _ hab) ⟨h.ok.a64, h.ok.m1, h.ok.m256, h.ok.left, h.ok.cut, by show D.n + 1 ≤ 1000000; omega⟩
        have hO1 := hO.sa 4 (.int .i64 ((D.n : Int) + 1))
        have c0' := (World.cell?_setCell_other w ⟨a, 4, none⟩ ⟨a, 0, none⟩ (.int .i64 ((D.n : Int) + 1)) (by simp)).trans c0
        clear hc k1 k2 k3 k4 f1 f3 f4 c0 hb hbf
        generalize w.setCell ⟨a, 4, none⟩ (.int .i64 ((D.n : Int) + 1)) = w1 at *
        obtain ⟨hb, hbf⟩ := h2.rg j t HT.out
        have k1 := hc1.c1
        have k2 := hc1.c2
        have k3 := hc1.c3
        have f1 := hc1.f1
        have f3 := hc1.f3
        have hO2 := hO1.sb j (.string (mixS s t D.cut))
        have hmx : s.extract 0 D.cut ++ t.extract D.cut t.size = mixS s t D.cut := rfl
        have hms := mixS_size HS.out ht64 hcut
        have HM := Lib.hid hms
        have HMX := Lib.hid hmx
        have hcl : (s.extract 0 D.cut).size + (t.extract D.cut t.size).size ≤ 9223372036854775807 := by
          rw [ByteArray.size_extract, ByteArray.size_extract]; have := HS.out; omega
        clear hms ht64 hmx
        go_region
        rw [HMX.out]
        have h3 : RAt a b { D with n := D.n + 1, ss := D.ss.set j (mixS s t D.cut) } (w1.setCell ⟨b, j, none⟩ (.string (mixS s t D.cut))).drew := (h2.wrote j t (mixS s t D.cut) HT.out HM.out rfl).same rfl rfl
        have hO3 : Only a b w (w1.setCell ⟨b, j, none⟩ (.string (mixS s t D.cut))).drew := hO2.trans ⟨rfl, rfl, rfl, Nat.le_refl _, fun _ _ _ _ => rfl⟩
        have hc3 : Hc a 1 D.cut false ((D.n : Int) + 1) (w1.setCell ⟨b, j, none⟩ (.string (mixS s t D.cut))).drew := by
          have e : ∀ o, ((w1.setCell ⟨b, j, none⟩ (.string (mixS s t D.cut))).drew).cell? ⟨a, o, none⟩ = w1.cell? ⟨a, o, none⟩ := fun o => World.cell?_of_block (w := w1) (a := ⟨a, o, none⟩) (Below.heap_setCell _ _ _ _ hne)
          have f : ∀ o, ((w1.setCell ⟨b, j, none⟩ (.string (mixS s t D.cut))).drew).frozen? ⟨a, o, none⟩ = w1.frozen? ⟨a, o, none⟩ := fun o => World.frozen?_of_block (w := w1) (a := ⟨a, o, none⟩) (Below.heap_setCell _ _ _ _ hne)
          exact ⟨(e 1).trans hc1.c1, (e 2).trans hc1.c2, (e 3).trans hc1.c3, (e 4).trans hc1.c4, (f 1).trans hc1.f1, (f 2).trans hc1.f2, (f 3).trans hc1.f3, (f 4).trans hc1.f4⟩
        clear k1 k2 k3 f1 f3 c0' hc1 hb hbf hO2 hO1 h2
        generalize (w1.setCell ⟨b, j, none⟩ (.string (mixS s t D.cut))).drew = w3 at *
        have k1 := hc3.c1
        have k3 := hc3.c3
        have f1 := hc3.f1
        have f3 := hc3.f3
        go_wp2
        go_ret
        refine ⟨rfl, h3.turn rfl (Hc.hd (D := { spentD D with ss := D.ss.set j (mixS s t D.cut) }) ((hc3.s1 0).s3 true) (by simp [spentD, H1.out]) (by simp [spentD, H1.out]) (by simp [spentD]) (fun h => by simp [spentD, H1.out] at h)) ?_ ?_ ⟨h3.ok.a64, h3.ok.m1, h3.ok.m256, hok.left, hok.cut, hok.n⟩, (hO3.sa 1 _).sa 3 _⟩
        · rw [World.cell?_setCell_other _ _ _ _ (by simp), World.cell?_setCell_other _ _ _ _ (by simp)]
        · rw [Below.heap_setCell _ _ _ _ hab, Below.heap_setCell _ _ _ _ hab]
      · have hR : D.reach = 64 := by unfold Dk.reach; rw [if_neg h1]
        rw [HD.out] at hc
        rw [if_neg h1, hR, mixS_all HS.out ht64]
        have k1 := hc.c1
        have k3 := hc.c3
        have k4 := hc.c4
        have f1 := hc.f1
        have f4 := hc.f4
        have hab : b ≠ a := Ne.symm hne
        have e1 : ((D.left : Int) == 1) = false := by simp; omega
        have H1 := Lib.hid h1
        clear h1 hR
        by_cases h2 : 1 < D.left
        · have e2 : decide ((D.left : Int) > 1) = true := by simp; omega
          have e2' : decide (1 < D.left) = true := by simpa using h2
          go_enter Tryd.func28, Tryd.ntmps28
          go_wp2
          go_ret
          have hc2 := (hc.s4 ((D.n : Int) + 1)).s1 ((D.left : Int) - 1)
          have h3 : RAt a b (spentD D) ((w.setCell ⟨a, 4, none⟩ (.int .i64 ((D.n : Int) + 1))).setCell ⟨a, 1, none⟩ (.int .i64 ((D.left : Int) - 1))) := h.turn rfl (hc2.hd (by simp [spentD]; omega) (by have := H1.out; simp [spentD, this]) (by simp [spentD]) (fun _ => HQ.out (by omega))) (by rw [World.cell?_setCell_other _ _ _ _ (by simp), World.cell?_setCell_other _ _ _ _ (by simp)]) (by rw [Below.heap_setCell _ _ _ _ hab, Below.heap_setCell _ _ _ _ hab]) hok
          exact ⟨rfl, h3.wrote j t s HT.out HS.out rfl, ((hO.sa 4 _).sa 1 _).sb j _⟩
        · have e2 : decide ((D.left : Int) > 1) = false := by simp; omega
          have e2' : decide (1 < D.left) = false := by simp; omega
          go_enter Tryd.func28, Tryd.ntmps28
          go_wp2
          go_ret
          have hc2 := hc.s4 ((D.n : Int) + 1)
          have h3 : RAt a b (spentD D) (w.setCell ⟨a, 4, none⟩ (.int .i64 ((D.n : Int) + 1))) := h.turn rfl (hc2.hd (by have := H1.out; simp [spentD]; omega) (by have := H1.out; simp [spentD, this]) (by simp [spentD]) (fun h => by simp [spentD] at h; omega)) (by rw [World.cell?_setCell_other _ _ _ _ (by simp)]) (by rw [Below.heap_setCell _ _ _ _ hab]) hok
          exact ⟨rfl, h3.wrote j t s HT.out HS.out rfl, (hO.sa 4 _).sb j _⟩
    · have e1 : writeE D i s = 181 := by unfold writeE; rw [hd, if_neg (by simp), if_neg hg]
      have e2 : writeD D i s = D := by unfold writeD; rw [if_neg (fun e => hg e.2)]
      rw [e1, e2]
      clear e1 e2 hd
      unfold inD at hg
      by_cases h0 : i < 0
      · have g0 : decide (i < 0) = true := by simpa using h0
        clear hg
        go_enter Tryd.func28, Tryd.ntmps28
        go_wp2
        go_ret
        exact ⟨rfl, h, hO⟩
      · have g0 : decide (i < 0) = false := by simpa using h0
        by_cases h1 : (D.ss.length : Int) ≤ i
        · have g1 : decide (i ≥ (D.ss.length : Int)) = true := by simpa using h1
          clear hg
          go_enter Tryd.func28, Tryd.ntmps28
          go_wp2
          go_ret
          exact ⟨rfl, h, hO⟩
        · have g1 : decide (i ≥ (D.ss.length : Int)) = false := by simpa using h1
          have hs : ¬ s.size = 64 := fun e => hg ⟨⟨by omega, by omega⟩, e⟩
          have g3 : ((s.size : Int) != 64) = true := by simp; omega
          have g4 : (!(s.size : Int) == 64) = true := by simp; omega
          clear hg hs
          go_enter Tryd.func28, Tryd.ntmps28
          go_wp2
          go_ret
          exact ⟨rfl, h, hO⟩
end Go.Proofs.YtpafpmefhfmndaaDoor
