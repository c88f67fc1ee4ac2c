/- Contract of Write of package disk. -/
import Derived.Test.YtpafpmefhfmndaaDoorKArm
import Derived.Lib.LazyBuf
set_option linter.unusedVariables false
set_option linter.unusedSimpArgs false
namespace Go.Proofs.YtpafpmefhfmndaaDoor
open Go.RowKit Go.Extern.Stop Go.Stop Go.Extern

/-- 'copy(dst, s)', s a text at least as long as dst: its first bytes go over. -/
theorem run_copy_cut (w : World) (dT sT ty elem : TypeId) (b o n dCap : Nat) (t : ByteArray)
    (hu : Tryd.prog.underlying dT = some (.slice elem)) (hz : ∀ w, (Go.sizeOf elem).run Tryd.prog w = .ok 1 w) (hle : n ≤ t.size)
    (hc : ∀ j, j < n → (w.cell? ⟨b, o + j, none⟩).isSome = true) (hf : ∀ j, j < n → w.frozen? ⟨b, o + j, none⟩ = false) :
    (Builtin.copy_ #[dT, sT] ty #[.slice (some ⟨b, o, none⟩) n dCap, .string t]).run Tryd.prog w = .ok (.int .i64 (n : Int)) (w.setCells b o (Lib.byteCells (t.data.toList.take n))) := by
  have hmin : Nat.min t.size n = n := Nat.min_eq_right hle
  have hl : (Lib.byteCells (t.data.toList.take n)).length = n := by rw [Lib.byteCells_length, List.length_take, Array.length_toList]; have : t.data.size = t.size := rfl; omega
  have hst := run_storeCells_cells (P := Tryd.prog) b o (Lib.byteCells (t.data.toList.take n)) 0 w (by rw [hl]; simpa using hc) (by rw [hl]; simpa using hf) (Lib.byteCells_one _)
  have e : (List.map (fun x => Value.int .u8 (x.toNat : Int)) t.data.toList).take n = Lib.byteCells (t.data.toList.take n) := by rw [Lib.byteCells, List.map_take]
  simp [Builtin.copy_, run_underlying hu, Builtin.lenOf, Builtin.firstCells, hz, hmin]
  rw [e, hst]
  rfl

theorem heap_setCells {b k : Nat} (hk : k ≠ b) : ∀ (vs : List Value) (o : Nat) (w : World), (w.setCells b o vs).heap[k]? = w.heap[k]?
  | [], _, _ => rfl
  | v :: r, o, w => (heap_setCells hk r (o + 1) _).trans (Below.heap_setCell _ _ _ _ hk)

/-- The first r bytes of s are written to a sector. -/
theorem DAt.wrote {a b : Nat} {D D' : Dk} {w : World} (h : DAt a b D w) (i : Nat) (t s : ByteArray) (hi : D.ss[i]? = some t) (hs : s.size = 64) (r : Nat) (hr : r ≤ 64)
    (hD : D' = { D with ss := D.ss.set i (mixS s t r) }) : DAt a b D' (w.setCells b (i * 64) (Lib.byteCells (s.data.toList.take r))) := by
  subst hD
  have hl : (Lib.byteCells (s.data.toList.take r)).length = r := by
    rw [Lib.byteCells_length, List.length_take, Array.length_toList]; have : s.data.size = 64 := hs; omega
  have ht := h.ok.a64.get hi
  have hlt : i < D.ss.length := (List.getElem?_eq_some_iff.1 hi).1
  have hth := h.th i hlt
  have ea := heap_setCells h.ne (Lib.byteCells (s.data.toList.take r)) (i * 64) w
  refine ⟨(h.hd.same ea).c1 |> fun _ => ⟨(h.hd.same ea).c1, (h.hd.same ea).c2, (h.hd.same ea).c3, (h.hd.same ea).c4, (h.hd.same ea).f1, (h.hd.same ea).f2, (h.hd.same ea).f3, (h.hd.same ea).f4⟩, ?_, h.ne, ?_, ?_, ?_⟩
  · rw [World.cell?_of_block (w := w) (a := ⟨a, 0, none⟩) ea]
    simpa using h.c0
  · intro j u hu
    by_cases e : j = i
    · subst e
      have hu' : u = mixS s t r := by simpa [hlt] using hu.symm
      subst hu'
      intro q v hv
      rw [mixS_toList, Lib.byteCells_append] at hv
      by_cases hq : q < r
      · rw [List.getElem?_append_left (by rw [hl]; exact hq)] at hv
        rw [World.cell?_setCells_in b _ _ w (fun q' hq' => (hth q' (by rw [hl] at hq'; omega)).1) q (by rw [hl]; exact hq), ← hv]
        exact (List.getElem?_eq_getElem _).symm
      · rw [World.cell?_setCells_out b _ _ w _ (fun _ _ => by rw [hl]; right; show j * 64 + r ≤ j * 64 + q; omega)]
        rw [List.getElem?_append_right (by rw [hl]; omega), hl] at hv
        refine h.rg j t hi q v ?_
        rw [← hv, Lib.byteCells, Lib.byteCells, List.map_drop, List.getElem?_drop]
        congr 1
        omega
    · have hu' : D.ss[j]? = some u := by
        rw [List.getElem?_set_ne (by omega)] at hu
        exact hu
      refine World.rangeAt_setCells_apart (h.rg j u hu') b (i * 64) _ ?_
      have hl2 : (Lib.byteCells u.data.toList).length = 64 := by rw [Lib.byteCells_length, Array.length_toList]; exact h.ok.a64.get hu'
      rw [hl, hl2]
      omega
  · intro j hj
    exact World.there_setCells (h.th j (by simpa using hj)) _ _ _
  · have ok := h.ok
    exact ⟨ok.a64.set _ _ (mixS_size hs ht hr), by simpa using ok.m1, by simpa using ok.m256, ok.left, ok.cut, ok.n⟩

/-- What spend leaves. -/
def spentD (D : Dk) : Dk := { D with left := D.left - 1, down := decide (D.left = 1), n := D.n + 1 }

set_option maxRecDepth 100000 in
set_option maxHeartbeats 1000000 in
theorem spend_any (a b : Nat) (D : Dk) (w : World) (h : DAt a b D w) (hd : D.down = false) (hn : D.n < 1000000) :
    Calls Tryd.prog 45 #[.pointer (some ⟨a, 0, none⟩)] w fun e w' => e = .returned (.int .i64 (D.reach : Int)) ∧ DAt a b (spentD D) w' ∧ Only a b w w' := by
  have hne := h.ne
  have hlf := h.ok.left
  have hok : (spentD D).Ok := ⟨h.ok.a64, h.ok.m1, h.ok.m256, by simp [spentD]; omega, h.ok.cut, by simp [spentD]; omega⟩
  obtain ⟨q, hc, hq⟩ := h.hd.hc
  have HQ := Lib.hid hq
  clear hq
  have hO := Only.refl a b w
  by_cases h0 : D.left = 0
  · have hR : D.reach = 64 := by unfold Dk.reach; rw [if_neg (by omega)]
    rw [h0, hd] at hc
    rw [hR]
    have HH := Lib.hid h0
    have HD := Lib.hid hd
    clear h0 hR hd
    have k1 := hc.c1
    have k4 := hc.c4
    have f4 := hc.f4
    go_enter Tryd.func45, Tryd.ntmps45
    go_wp2
    go_ret
    refine ⟨rfl, h.turn rfl (Hc.hd (D := spentD D) (hc.s4 _) (by simp [spentD, HH.out]) (by simp [spentD, HH.out]) (by simp [spentD]) (fun h => by simp [spentD, HH.out] at h)) ?_ ?_ hok, hO.sa 4 _⟩
    · rw [World.cell?_setCell_other _ _ _ _ (by simp)]
    · rw [Below.heap_setCell _ _ _ _ (Ne.symm hne)]
  · by_cases h1 : D.left = 1
    · have hR : D.reach = D.cut := by unfold Dk.reach; rw [if_pos h1]
      have hqc : q = D.cut := HQ.out (by omega)
      rw [h1, hd, hqc] at hc
      rw [hR]
      have HH := Lib.hid h1
      have HD := Lib.hid hd
      clear h1 hR hd hqc h0
      have k1 := hc.c1
      have k2 := hc.c2
      have k3 := hc.c3
      have k4 := hc.c4
      have f1 := hc.f1
      have f3 := hc.f3
      have f4 := hc.f4
      go_enter Tryd.func45, Tryd.ntmps45
      go_wp2
      go_ret
      refine ⟨rfl, h.turn rfl (Hc.hd (D := spentD D) (((hc.s4 _).s1 _).s3 _) (by simp [spentD, HH.out]) (by simp [spentD, HH.out]) (by simp [spentD]) (fun h => by simp [spentD, HH.out] at h)) ?_ ?_ hok, ((hO.sa 4 _).sa 1 _).sa 3 _⟩
      · rw [World.cell?_setCell_other _ _ _ _ (by simp), World.cell?_setCell_other _ _ _ _ (by simp), World.cell?_setCell_other _ _ _ _ (by simp)]
      · rw [Below.heap_setCell _ _ _ _ (Ne.symm hne), Below.heap_setCell _ _ _ _ (Ne.symm hne), Below.heap_setCell _ _ _ _ (Ne.symm hne)]
    · have hR : D.reach = 64 := by unfold Dk.reach; rw [if_neg h1]
      have hg : (1 : Int) < (D.left : Int) := by omega
      have hl0 : ((D.left : Int) == 0) = false := by simp; omega
      have hl1 : decide ((D.left : Int) - 1 > 0) = true := by simp; omega
      rw [hR]
      rw [hd] at hc
      have H0 := Lib.hid h0
      have H1 := Lib.hid h1
      have HD := Lib.hid hd
      clear h0 h1 hR hd
      have k1 := hc.c1
      have k4 := hc.c4
      have f1 := hc.f1
      have f4 := hc.f4
      go_enter Tryd.func45, Tryd.ntmps45
      go_wp2
      go_ret
      have e1 := H1.out
      refine ⟨rfl, h.turn rfl (Hc.hd (D := spentD D) ((hc.s4 _).s1 _) (by simp [spentD]; omega) (by simp [spentD, e1]) (by simp [spentD]) (fun _ => HQ.out (by omega))) ?_ ?_ hok, (hO.sa 4 _).sa 1 _⟩
      · rw [World.cell?_setCell_other _ _ _ _ (by simp), World.cell?_setCell_other _ _ _ _ (by simp)]
      · rw [Below.heap_setCell _ _ _ _ (Ne.symm hne), Below.heap_setCell _ _ _ _ (Ne.symm hne)]
end Go.Proofs.YtpafpmefhfmndaaDoor
