/- Contract of run of package crc, at both widths: the sum of a text by any table. -/
import Derived.Test.YtdlkmdjhjdpmeaaGreatDoorCTab
set_option linter.unusedVariables false
set_option linter.unusedSimpArgs false
namespace Go.Proofs.YtdlkmdjhjdpmeaaGreatDoor
open Go.RowKit Go.Shelf

attribute [local go_sem] Oper.semAt_some

set_option maxRecDepth 100000 in
set_option maxHeartbeats 2000000 in
theorem ceach1_in (F : Fence) (n : Nat) (hf : F.fn 118) (hro : F.round = none) (hn : 1 ≤ n) (l Bs : Nat) (s : ByteArray) (hs : s.size ≤ 9223372036854775807) (J Jx : List UInt8 → World → Prop)
    (hY : ∀ pre x W, J pre W → pre.length < s.size → YieldAt F (n - 1) Tryz.prog l #[.int .u8 ((x.toNat : Nat) : Int)] W fun e W' =>
      (e = .returned (.bool true) ∧ J (pre ++ [x]) W' ∧ KeepCell Bs (.string s) W W') ∨ (e = .returned (.bool false) ∧ Jx (pre ++ [x]) W'))
    (W : World) (hBs : W.cell? ⟨Bs, 0, none⟩ = some (.string s)) (h0 : J [] W) :
    CallsIn F n Tryz.prog 118 #[.func (.yield l) #[] #[], .pointer (some ⟨Bs, 0, none⟩)] W fun e W' => (∃ v, e = .returned v) ∧
      ((∃ ys, ys = firstB s s.size ∧ J ys W') ∨ (∃ pre, (∃ k, k ≤ s.size ∧ pre = firstB s k) ∧ Jx pre W')) := by
  refine callsIn_of_wp Tryz.func118 rfl hf ?_ hro
  simp only [Tryz.ntmps118, List.size_toArray, List.length_cons, List.length_nil, Nat.reduceAdd, Nat.reduceSub, Array.replicate_succ, Array.replicate_zero, List.push_toArray, List.append_toArray, List.nil_append, List.cons_append]
  gi_wp2
  gi_loopw [6] (fun i wr => ∃ k : Nat, k ≤ s.size ∧ i = .int .i64 k ∧ J (firstB s k) wr ∧ wr.cell? ⟨Bs, 0, none⟩ = some (.string s))
    (fun i _ => s.size - (intOf i).toNat)
  case atStart => exact ⟨0, Nat.zero_le _, rfl, by simpa [firstB] using h0, hBs⟩
  case round =>
    obtain ⟨k, hk, rfl, hJs, hcx⟩ := hrel
    clear hBs
    by_cases hlt : k < s.size
    · obtain ⟨fn, tmps, assign, body, hy, hR⟩ := hY _ s[k] wr hJs (by rw [firstB_length s k hk]; exact hlt)
      gi_wp2
      refine hR.mono ?_
      rintro e W3 (⟨rfl, hJ3, hk3⟩ | ⟨rfl, hJx3⟩)
      · have hcx3 := hk3 hcx
        gi_wp2
        go_roundw
        case rel => exact ⟨k + 1, by omega, by simp, by rw [firstB_succ s k hlt]; exact hJ3, hcx3⟩
        case measure => simp [intOf]; omega
      · gi_wp2
        refine bodyPost_ret (results_none rfl _ _ _) rfl ?_
        exact ⟨⟨_, rfl⟩, .inr ⟨_, ⟨k + 1, by omega, (firstB_succ s k hlt).symm⟩, hJx3⟩⟩
    · obtain rfl : k = s.size := by omega
      gi_wp2
      go_end0
      exact ⟨⟨_, rfl⟩, .inl ⟨_, rfl, hJs⟩⟩

set_option maxHeartbeats 1000000 in
theorem ceach_in (F : Fence) (n : Nat) (hf : F.fn 109) (hro : F.round = none) (s : ByteArray) (w : World) :
    CallsIn F n Tryz.prog 109 #[.string s] w fun e w' => e = .returned (.func (.func 118) #[] #[.pointer (some ⟨w.heap.size, 0, none⟩)]) ∧ w' = w.alloc (.cells #[.string s] 9) := by
  have hmf : ∀ (fn : Fn) (first cap : Array Value) (w : World), (Instr.makeFunc fn first cap).run Tryz.prog w = .ok (.func fn first cap) w := fun _ _ _ _ => rfl
  refine callsIn_of_wp Tryz.func109 rfl hf ?_ hro
  simp only [Tryz.ntmps109, List.size_toArray, List.length_cons, List.length_nil, Nat.reduceAdd, Nat.reduceSub, Array.replicate_succ, Array.replicate_zero, List.push_toArray, List.append_toArray, List.nil_append, List.cons_append]
  gi_wp2
  go_ret
  exact ⟨rfl, rfl⟩

theorem ceach_stops (F : Fence) (n : Nat) (hf : F.fn 118) (hro : F.round = none) (hn : 1 ≤ n) (Bs : Nat) (s : ByteArray) (hs : s.size ≤ 9223372036854775807) (w : World) (hBs : Bs < w.heap.size) (hc : w.cell? ⟨Bs, 0, none⟩ = some (.string s)) :
    SeqStopsK F n Tryz.prog 118 #[.pointer (some ⟨Bs, 0, none⟩)] (fun x : UInt8 => #[Value.int .u8 ((x.toNat : Nat) : Int)]) (KeepCell Bs (.string s)) (fun ys => ys = s.data.toList) (fun pre => pre <+: s.data.toList) s.size w := fun l J Jx W hW _ _ hY h0 => by
  have hc' := (hW.cell (p := ⟨Bs, 0, none⟩) hBs).trans hc
  refine (ceach1_in F n hf hro hn l Bs s hs J Jx hY W hc' h0).mono ?_
  rintro e W' ⟨he, ⟨ys, rfl, hj⟩ | ⟨pre, ⟨k, hk, rfl⟩, hj⟩⟩
  · exact ⟨he, .inl ⟨_, firstB_all s, hj⟩⟩
  · exact ⟨he, .inr ⟨_, List.take_prefix _ _, hj⟩⟩


theorem keeps_below {W W' : World} (hb : Below W.heap.size W W') : KeepsOthers W W' := ⟨hb.size, fun k o h _ => (hb.block k (lt_of_heap h)).trans h⟩


theorem ones16 : bits .xor .u16 (IntKind.max .u16) 0 = 65535 := by decide
theorem sumT16 (xs : List Nat) (l : List UInt8) : sumT 16 xs l = runT 16 xs 65535 l ^^^ 65535 := rfl

set_option maxRecDepth 100000 in
set_option maxHeartbeats 2000000 in
theorem run16_any (xs : List Nat) (A : Option Addr) (c : Nat) (s : ByteArray) (w : World) (hs : s.size ≤ 9223372036854775807) (hl : xs.length = 256) (hf : Fit32 xs) (hr : U32Rd w A xs) :
    Calls Tryz.prog 101 #[.slice A 256 c, .string s] w fun e w' => e = .returned (.int .u32 ((sumT 16 xs s.data.toList : Nat) : Int)) ∧ Below w.heap.size w w' := by
  refine (callsIn_wide (n := 9)).1 ?_
  refine callsIn_of_wp_marks Tryz.func101 rfl trivial ?_ rfl
  simp only [Tryz.ntmps101, List.size_toArray, List.length_cons, List.length_nil, Nat.reduceAdd, Nat.reduceSub, Array.replicate_succ, Array.replicate_zero, List.push_toArray, List.append_toArray, List.nil_append, List.cons_append]
  have HR := Lib.hid hr
  have HF := Lib.hid hf
  clear hr hf
  have h1 := ones16
  gi_wp2_with fail
  refine ⟨trivial, ?_⟩
  refine (callsIn_wide.2 (turning16_any 65535 _)).mono ?_
  rintro e w' ⟨rfl, rfl⟩
  have hT0 : Calls Tryz.prog 114 #[.agg #[.int .u16 0], .pointer (some ⟨w.heap.size + 1, 0, none⟩)] ((w.alloc (.cells #[.slice A 256 c] 62)).alloc (.cells #[.int .u16 65535] 142)) fun e w' => e = .returned (.agg #[.int .u16 65535]) ∧ Below ((w.alloc (.cells #[.slice A 256 c] 62)).alloc (.cells #[.int .u16 65535] 142)).heap.size ((w.alloc (.cells #[.slice A 256 c] 62)).alloc (.cells #[.int .u16 65535] 142)) w' := turn16_any 0 65535 (w.heap.size + 1) _ (by omega) (by omega) (by go_simp)
  have HT0 := Lib.hid hT0
  clear hT0
  gi_wp2_with fail
  refine ⟨trivial, ?_⟩
  refine (callsIn_wide.2 HT0.out).mono ?_
  rintro e w2 ⟨rfl, hb2⟩
  obtain ⟨hc2, hf2⟩ := bcell hb2
  simp only [World.size_alloc] at hc2 hf2
  have t2 : w2.cell? ⟨w.heap.size, 0, none⟩ = some (.slice A 256 c) := (hc2 _ 0 (by omega)).trans (by go_simp)
  have u2 : w2.cell? ⟨w.heap.size + 1, 0, none⟩ = some (.int .u16 65535) := (hc2 _ 0 (by omega)).trans (by go_simp)
  have hB2 : Below w.heap.size w w2 := (((Below.refl _ w).alloc (Nat.le_refl _) _).alloc (by simp) _).trans (hb2.mono (by simp; omega))
  have hz2 : w.heap.size + 1 < w2.heap.size := World.block_lt_of_cell? _ _ u2
  clear hc2 hf2 hb2 HT0
  gi_wp2_with (refine ⟨trivial, ?_⟩; gi_at_call 109; refine (ceach_in Fence.wide _ trivial rfl _ _).mono ?_; rintro e w' ⟨rfl, rfl⟩)
  have hz4 : ((w2.alloc (.cells #[.int .u16 65535] 165)).alloc (.cells #[.string s] 9)).heap.size = w2.heap.size + 1 + 1 := by simp
  have r4 : ((w2.alloc (.cells #[.int .u16 65535] 165)).alloc (.cells #[.string s] 9)).cell? ⟨w2.heap.size, 0, none⟩ = some (.int .u16 65535) := by go_simp
  have f4 : ((w2.alloc (.cells #[.int .u16 65535] 165)).alloc (.cells #[.string s] 9)).frozen? ⟨w2.heap.size, 0, none⟩ = false := by go_simp
  have s4 : ((w2.alloc (.cells #[.int .u16 65535] 165)).alloc (.cells #[.string s] 9)).cell? ⟨w2.heap.size + 1, 0, none⟩ = some (.string s) := by go_simp
  have t4 := cell_alloc_l (.cells #[.string s] 9) (cell_alloc_l (.cells #[.int .u16 65535] 165) t2)
  have u4 := cell_alloc_l (.cells #[.string s] 9) (cell_alloc_l (.cells #[.int .u16 65535] 165) u2)
  have hB4 : Below w.heap.size w ((w2.alloc (.cells #[.int .u16 65535] 165)).alloc (.cells #[.string s] 9)) := (hB2.alloc hB2.size _).alloc (by have := hB2.size; simp; omega) _
  generalize ((w2.alloc (.cells #[.int .u16 65535] 165)).alloc (.cells #[.string s] 9)) = w4 at *
  have hzw := hB2.size
  obtain ⟨R, hR⟩ : ∃ R, R = w2.heap.size := ⟨_, rfl⟩
  rw [← hR] at hz4 r4 f4 s4 hzw hz2 ⊢
  clear t2 u2 hB2 hR
  refine wpIn_rangeFunc_ownF rfl (by omega) (gf := 118) (lb := #[.pointer (some ⟨R + 1, 0, none⟩)]) rfl trivial (enters_of Tryz.func118 (by kernel_rfl) rfl)
    (ceach_stops Fence.wide _ trivial rfl (by omega) (R + 1) s hs _ (by omega) s4) keepCell_t keepCell_b (Below.refl _ _) (fun _ => rfl)
    (fun pre W => (W.cell? ⟨R, 0, none⟩ = some (.int .u16 ((runT 16 xs 65535 pre : Nat) : Int)) ∧ W.frozen? ⟨R, 0, none⟩ = false ∧ W.cell? ⟨w.heap.size, 0, none⟩ = some (.slice A 256 c) ∧ W.cell? ⟨w.heap.size + 1, 0, none⟩ = some (.int .u16 65535)) ∧ Below w.heap.size w W)
    (fun c pre W => False ∧ Below w.heap.size w W)
    (OwnFrom.and (Own.from (fun s A B row hs hg hr => ⟨cell_kept hs.1 hg hr, (frozen_kept hs.1 hg hr).trans hs.2.1, cell_kept hs.2.2.1 hg hr, cell_kept hs.2.2.2 hg hr⟩) _) (ownFrom_below (Nat.le_refl _) (by omega)))
    (fun c => OwnFrom.and (Own.from (fun s A B row hs hg hr => hs.elim) _) (ownFrom_below (Nat.le_refl _) (by omega)))
    ⟨⟨r4, f4, t4, u4⟩, hB4⟩
    (fun x => { tmps := #[.slice A 256 c, .string s, .pointer (some ⟨w.heap.size, 0, none⟩), undef, .int .u32 0, .func (.func 114) #[] #[.pointer (some ⟨w.heap.size + 1, 0, none⟩)], .pointer (some ⟨R, 0, none⟩), .int .u8 ((x.toNat : Nat) : Int), .int .u16 0, .int .u16 65535, .func (.func 114) #[] #[.pointer (some ⟨w.heap.size + 1, 0, none⟩)], .func (.func 114) #[] #[.pointer (some ⟨w.heap.size + 1, 0, none⟩)], .agg #[.int .u16 0], .agg #[.int .u16 65535], .string s, .func (.func 118) #[] #[.pointer (some ⟨R + 1, 0, none⟩)], .int .u8 ((x.toNat : Nat) : Int), undef, undef, undef, undef, undef, undef, undef, undef, undef], defers := [] }) ?assign ?body ?done ?stop
  case assign =>
    intro l x W K hK
    gi_wp2
    exact hK
  case body =>
    rintro l pre x W ⟨⟨r5, f5, t5, u5⟩, hB⟩ _
    have hx := x.toNat_lt
    have hq : runT 16 xs 65535 pre < 65536 := runT_lt (w := 16) xs pre 65535 (by omega)
    have HS := Lib.hid (runT_snoc 16 xs 65535 pre x)
    have HD := Lib.hid (fed16_any (runT 16 xs 65535 pre) x.toNat xs A c W hq hx hl HF.out (HR.out.below hB))
    generalize runT 16 xs 65535 pre = q at *
    gi_wp2_with fail
    refine ⟨trivial, ?_⟩
    refine (CallsIn.inRound l (callsIn_wide.2 HD.out)).mono ?_
    rintro e W2 ⟨rfl, hb5⟩
    obtain ⟨hc5, hf5⟩ := bcell hb5
    have zR : R < W.heap.size := World.block_lt_of_cell? _ _ r5
    have zT : w.heap.size < W.heap.size := World.block_lt_of_cell? _ _ t5
    have zU : w.heap.size + 1 < W.heap.size := World.block_lt_of_cell? _ _ u5
    have r6 := (hc5 _ 0 zR).trans r5
    have f6 := (hf5 _ 0 zR).trans f5
    have T6 := Lib.hid ((hc5 _ 0 zT).trans t5)
    have U6 := Lib.hid ((hc5 _ 0 zU).trans u5)
    have HK6 := Lib.hid (keeps_below hb5)
    have HC6 := Lib.hid hc5
    have HB6 := Lib.hid (hB.trans (hb5.mono hB.size))
    clear hc5 hf5 hb5 r5 f5 t5 u5 HD
    generalize fedT 16 xs q x.toNat = q2 at *
    gi_wp2
    refine ⟨HK6.out.trans (KeepsOthers.setCell _ _ _), fun e => ?_, ⟨⟨?_, ?_, ?_, ?_⟩, HB6.out.setCell (p := ⟨R, 0, none⟩) (by omega) _⟩⟩
    · have := (HC6.out _ 0 (World.block_lt_of_cell? _ _ e)).trans e
      rw [← this]; simp [go_sem]
    · rw [HS.out]; exact World.cell?_setCell_same' _ _ _ (by rw [r6]; rfl)
    · rw [World.frozen?_setCell]; exact f6
    · have := T6.out
      have hne : w.heap.size ≠ R := by omega
      simp [go_sem, hne, this]
    · have := U6.out
      have hne : w.heap.size + 1 ≠ R := by omega
      simp [go_sem, hne, this]
  case done =>
    rintro D ys W hD rfl ⟨⟨r5, f5, t5, u5⟩, hB⟩ hK
    have hq : runT 16 xs 65535 s.data.toList < 65536 := runT_lt (w := 16) xs _ 65535 (by omega)
    have HSU := Lib.hid (sumT16 xs s.data.toList)
    have HT := Lib.hid (turn16_any (runT 16 xs 65535 s.data.toList) 65535 (w.heap.size + 1) W hq (by omega) u5)
    have hfl := field16
    generalize runT 16 xs 65535 s.data.toList = q at *
    gi_wp2_with fail
    refine ⟨trivial, ?_⟩
    refine (callsIn_wide.2 HT.out).mono ?_
    rintro e W3 ⟨rfl, hb7⟩
    have hK3 := (hb7.block D (lt_of_heap hK)).trans hK
    have HB7 := Lib.hid (hB.trans (hb7.mono hB.size))
    have hql : q ^^^ 65535 < 65536 := Nat.xor_lt_two_pow (n := 16) hq (by omega)
    clear hb7 HT r5 f5 t5 u5 hK
    generalize q ^^^ 65535 = q3 at *
    have hw3 : (q3 : Int) % 4294967296 = (q3 : Int) := by omega
    gi_wp2
    refine ⟨by simp, .inl ⟨_, _, rfl, run_takeDeferred hK3, ?_⟩⟩
    exact ⟨_, results_tmp rfl _ _ _, by rw [HSU.out]; rfl, HB7.out.trans (belowK_b (w := w) (Nat.le_refl _) W3 D _ _ (by omega) hK3 rfl rfl)⟩
  case stop =>
    rintro D c pre W hD hpre ⟨h, _⟩ hK
    exact h.elim


theorem ones32 : bits .xor .u32 (IntKind.max .u32) 0 = 4294967295 := by decide
theorem sumT32 (xs : List Nat) (l : List UInt8) : sumT 32 xs l = runT 32 xs 4294967295 l ^^^ 4294967295 := rfl

set_option maxRecDepth 100000 in
set_option maxHeartbeats 2000000 in
theorem run32_any (xs : List Nat) (A : Option Addr) (c : Nat) (s : ByteArray) (w : World) (hs : s.size ≤ 9223372036854775807) (hl : xs.length = 256) (hf : Fit32 xs) (hr : U32Rd w A xs) :
    Calls Tryz.prog 102 #[.slice A 256 c, .string s] w fun e w' => e = .returned (.int .u32 ((sumT 32 xs s.data.toList : Nat) : Int)) ∧ Below w.heap.size w w' := by
  refine (callsIn_wide (n := 9)).1 ?_
  refine callsIn_of_wp_marks Tryz.func102 rfl trivial ?_ rfl
  simp only [Tryz.ntmps102, List.size_toArray, List.length_cons, List.length_nil, Nat.reduceAdd, Nat.reduceSub, Array.replicate_succ, Array.replicate_zero, List.push_toArray, List.append_toArray, List.nil_append, List.cons_append]
  have HR := Lib.hid hr
  have HF := Lib.hid hf
  clear hr hf
  have h1 := ones32
  gi_wp2_with fail
  refine ⟨trivial, ?_⟩
  refine (callsIn_wide.2 (turning32_any 4294967295 _)).mono ?_
  rintro e w' ⟨rfl, rfl⟩
  have hT0 : Calls Tryz.prog 116 #[.agg #[.int .u32 0], .pointer (some ⟨w.heap.size + 1, 0, none⟩)] ((w.alloc (.cells #[.slice A 256 c] 62)).alloc (.cells #[.int .u32 4294967295] 85)) fun e w' => e = .returned (.agg #[.int .u32 4294967295]) ∧ Below ((w.alloc (.cells #[.slice A 256 c] 62)).alloc (.cells #[.int .u32 4294967295] 85)).heap.size ((w.alloc (.cells #[.slice A 256 c] 62)).alloc (.cells #[.int .u32 4294967295] 85)) w' := turn32_any 0 4294967295 (w.heap.size + 1) _ (by omega) (by omega) (by go_simp)
  have HT0 := Lib.hid hT0
  clear hT0
  gi_wp2_with fail
  refine ⟨trivial, ?_⟩
  refine (callsIn_wide.2 HT0.out).mono ?_
  rintro e w2 ⟨rfl, hb2⟩
  obtain ⟨hc2, hf2⟩ := bcell hb2
  simp only [World.size_alloc] at hc2 hf2
  have t2 : w2.cell? ⟨w.heap.size, 0, none⟩ = some (.slice A 256 c) := (hc2 _ 0 (by omega)).trans (by go_simp)
  have u2 : w2.cell? ⟨w.heap.size + 1, 0, none⟩ = some (.int .u32 4294967295) := (hc2 _ 0 (by omega)).trans (by go_simp)
  have hB2 : Below w.heap.size w w2 := (((Below.refl _ w).alloc (Nat.le_refl _) _).alloc (by simp) _).trans (hb2.mono (by simp; omega))
  have hz2 : w.heap.size + 1 < w2.heap.size := World.block_lt_of_cell? _ _ u2
  clear hc2 hf2 hb2 HT0
  gi_wp2_with (refine ⟨trivial, ?_⟩; gi_at_call 109; refine (ceach_in Fence.wide _ trivial rfl _ _).mono ?_; rintro e w' ⟨rfl, rfl⟩)
  have hz4 : ((w2.alloc (.cells #[.int .u32 4294967295] 170)).alloc (.cells #[.string s] 9)).heap.size = w2.heap.size + 1 + 1 := by simp
  have r4 : ((w2.alloc (.cells #[.int .u32 4294967295] 170)).alloc (.cells #[.string s] 9)).cell? ⟨w2.heap.size, 0, none⟩ = some (.int .u32 4294967295) := by go_simp
  have f4 : ((w2.alloc (.cells #[.int .u32 4294967295] 170)).alloc (.cells #[.string s] 9)).frozen? ⟨w2.heap.size, 0, none⟩ = false := by go_simp
  have s4 : ((w2.alloc (.cells #[.int .u32 4294967295] 170)).alloc (.cells #[.string s] 9)).cell? ⟨w2.heap.size + 1, 0, none⟩ = some (.string s) := by go_simp
  have t4 := cell_alloc_l (.cells #[.string s] 9) (cell_alloc_l (.cells #[.int .u32 4294967295] 170) t2)
  have u4 := cell_alloc_l (.cells #[.string s] 9) (cell_alloc_l (.cells #[.int .u32 4294967295] 170) u2)
  have hB4 : Below w.heap.size w ((w2.alloc (.cells #[.int .u32 4294967295] 170)).alloc (.cells #[.string s] 9)) := (hB2.alloc hB2.size _).alloc (by have := hB2.size; simp; omega) _
  generalize ((w2.alloc (.cells #[.int .u32 4294967295] 170)).alloc (.cells #[.string s] 9)) = w4 at *
  have hzw := hB2.size
  obtain ⟨R, hR⟩ : ∃ R, R = w2.heap.size := ⟨_, rfl⟩
  rw [← hR] at hz4 r4 f4 s4 hzw hz2 ⊢
  clear t2 u2 hB2 hR
  refine wpIn_rangeFunc_ownF rfl (by omega) (gf := 118) (lb := #[.pointer (some ⟨R + 1, 0, none⟩)]) rfl trivial (enters_of Tryz.func118 (by kernel_rfl) rfl)
    (ceach_stops Fence.wide _ trivial rfl (by omega) (R + 1) s hs _ (by omega) s4) keepCell_t keepCell_b (Below.refl _ _) (fun _ => rfl)
    (fun pre W => (W.cell? ⟨R, 0, none⟩ = some (.int .u32 ((runT 32 xs 4294967295 pre : Nat) : Int)) ∧ W.frozen? ⟨R, 0, none⟩ = false ∧ W.cell? ⟨w.heap.size, 0, none⟩ = some (.slice A 256 c) ∧ W.cell? ⟨w.heap.size + 1, 0, none⟩ = some (.int .u32 4294967295)) ∧ Below w.heap.size w W)
    (fun c pre W => False ∧ Below w.heap.size w W)
    (OwnFrom.and (Own.from (fun s A B row hs hg hr => ⟨cell_kept hs.1 hg hr, (frozen_kept hs.1 hg hr).trans hs.2.1, cell_kept hs.2.2.1 hg hr, cell_kept hs.2.2.2 hg hr⟩) _) (ownFrom_below (Nat.le_refl _) (by omega)))
    (fun c => OwnFrom.and (Own.from (fun s A B row hs hg hr => hs.elim) _) (ownFrom_below (Nat.le_refl _) (by omega)))
    ⟨⟨r4, f4, t4, u4⟩, hB4⟩
    (fun x => { tmps := #[.slice A 256 c, .string s, .pointer (some ⟨w.heap.size, 0, none⟩), undef, .int .u32 0, .func (.func 116) #[] #[.pointer (some ⟨w.heap.size + 1, 0, none⟩)], .pointer (some ⟨R, 0, none⟩), .int .u8 ((x.toNat : Nat) : Int), .int .u32 0, .int .u32 4294967295, .func (.func 116) #[] #[.pointer (some ⟨w.heap.size + 1, 0, none⟩)], .func (.func 116) #[] #[.pointer (some ⟨w.heap.size + 1, 0, none⟩)], .agg #[.int .u32 0], .agg #[.int .u32 4294967295], .string s, .func (.func 118) #[] #[.pointer (some ⟨R + 1, 0, none⟩)], .int .u8 ((x.toNat : Nat) : Int), undef, undef, undef, undef, undef, undef, undef, undef], defers := [] }) ?assign ?body ?done ?stop
  case assign =>
    intro l x W K hK
    gi_wp2
    exact hK
  case body =>
    rintro l pre x W ⟨⟨r5, f5, t5, u5⟩, hB⟩ _
    have hx := x.toNat_lt
    have hq : runT 32 xs 4294967295 pre < 4294967296 := runT_lt (w := 32) xs pre 4294967295 (by omega)
    have HS := Lib.hid (runT_snoc 32 xs 4294967295 pre x)
    have HD := Lib.hid (fed32_any (runT 32 xs 4294967295 pre) x.toNat xs A c W hq hx hl HF.out (HR.out.below hB))
    generalize runT 32 xs 4294967295 pre = q at *
    gi_wp2_with fail
    refine ⟨trivial, ?_⟩
    refine (CallsIn.inRound l (callsIn_wide.2 HD.out)).mono ?_
    rintro e W2 ⟨rfl, hb5⟩
    obtain ⟨hc5, hf5⟩ := bcell hb5
    have zR : R < W.heap.size := World.block_lt_of_cell? _ _ r5
    have zT : w.heap.size < W.heap.size := World.block_lt_of_cell? _ _ t5
    have zU : w.heap.size + 1 < W.heap.size := World.block_lt_of_cell? _ _ u5
    have r6 := (hc5 _ 0 zR).trans r5
    have f6 := (hf5 _ 0 zR).trans f5
    have T6 := Lib.hid ((hc5 _ 0 zT).trans t5)
    have U6 := Lib.hid ((hc5 _ 0 zU).trans u5)
    have HK6 := Lib.hid (keeps_below hb5)
    have HC6 := Lib.hid hc5
    have HB6 := Lib.hid (hB.trans (hb5.mono hB.size))
    clear hc5 hf5 hb5 r5 f5 t5 u5 HD
    generalize fedT 32 xs q x.toNat = q2 at *
    gi_wp2
    refine ⟨HK6.out.trans (KeepsOthers.setCell _ _ _), fun e => ?_, ⟨⟨?_, ?_, ?_, ?_⟩, HB6.out.setCell (p := ⟨R, 0, none⟩) (by omega) _⟩⟩
    · have := (HC6.out _ 0 (World.block_lt_of_cell? _ _ e)).trans e
      rw [← this]; simp [go_sem]
    · rw [HS.out]; exact World.cell?_setCell_same' _ _ _ (by rw [r6]; rfl)
    · rw [World.frozen?_setCell]; exact f6
    · have := T6.out
      have hne : w.heap.size ≠ R := by omega
      simp [go_sem, hne, this]
    · have := U6.out
      have hne : w.heap.size + 1 ≠ R := by omega
      simp [go_sem, hne, this]
  case done =>
    rintro D ys W hD rfl ⟨⟨r5, f5, t5, u5⟩, hB⟩ hK
    have hq : runT 32 xs 4294967295 s.data.toList < 4294967296 := runT_lt (w := 32) xs _ 4294967295 (by omega)
    have HSU := Lib.hid (sumT32 xs s.data.toList)
    have HT := Lib.hid (turn32_any (runT 32 xs 4294967295 s.data.toList) 4294967295 (w.heap.size + 1) W hq (by omega) u5)
    have hfl := field32
    generalize runT 32 xs 4294967295 s.data.toList = q at *
    gi_wp2_with fail
    refine ⟨trivial, ?_⟩
    refine (callsIn_wide.2 HT.out).mono ?_
    rintro e W3 ⟨rfl, hb7⟩
    have hK3 := (hb7.block D (lt_of_heap hK)).trans hK
    have HB7 := Lib.hid (hB.trans (hb7.mono hB.size))
    have hql : q ^^^ 4294967295 < 4294967296 := Nat.xor_lt_two_pow (n := 32) hq (by omega)
    clear hb7 HT r5 f5 t5 u5 hK
    generalize q ^^^ 4294967295 = q3 at *
    have hw3 : (q3 : Int) % 4294967296 = (q3 : Int) := by omega
    gi_wp2
    refine ⟨by simp, .inl ⟨_, _, rfl, run_takeDeferred hK3, ?_⟩⟩
    exact ⟨_, results_tmp rfl _ _ _, by rw [HSU.out]; rfl, HB7.out.trans (belowK_b (w := w) (Nat.le_refl _) W3 D _ _ (by omega) hK3 rfl rfl)⟩
  case stop =>
    rintro D c pre W hD hpre ⟨h, _⟩ hK
    exact h.elim

end Go.Proofs.YtdlkmdjhjdpmeaaGreatDoor
