/- The kind's own table of 32 bits lies in a block of such numbers (contracts of parts, table, ownTable, Table, with that beside). -/
import Derived.Test.YtdlkmdjhjdpmeaaGreatDoorCLaid
import Derived.Laws.Rows
set_option linter.unusedVariables false
set_option linter.unusedSimpArgs false
namespace Go.Proofs.YtdlkmdjhjdpmeaaGreatDoor
open Go.RowKit Go.Shelf

/-- The block is one of numbers of 32 bits. -/
def U32Blk (w : World) (A : Addr) : Prop := ∃ cs, w.heap[A.block]? = some (.cells cs 85 (0, 0))
theorem U32Blk.below {w w' : World} {A : Addr} (h : U32Blk w A) (hb : Below w.heap.size w w') : U32Blk w' A := by
  obtain ⟨cs, h⟩ := h
  exact ⟨cs, (hb.block _ (lt_of_heap h)).trans h⟩

structure Tab32N (t : Nat) (w0 : World) (k : Nat) (w : World) : Prop where
  tab : Tab32 t w0 k w
  blk : U32Blk w ⟨w0.heap.size, 0, none⟩
theorem Tab32N.start (t : Nat) (w : World) : Tab32N t w 0 ((w.alloc (.cells (madeCells #[.int .u32 0] 256) 85)).alloc (.cells #[.int .u32 (t : Int)] 85)) :=
  ⟨Tab32.start t w, ⟨_, (Below.heap_alloc _ _ _ (by simp)).trans (World.alloc_heap_new w _)⟩⟩
theorem Tab32N.later {t k : Nat} {w0 w w' : World} (h : Tab32N t w0 k w) (hb : Below w.heap.size w w') : Tab32N t w0 k w' := ⟨h.tab.later hb, h.blk.below hb⟩
theorem Tab32N.step {t k : Nat} {w0 w : World} (h : Tab32N t w0 k w) (hk : k < 256) (y : Nat) (hy : y = prt t k) : Tab32N t w0 (k + 1) (w.setCell ⟨w0.heap.size, k, none⟩ (.int .u32 (y : Int))) := by
  refine ⟨h.tab.step hk y hy, ?_⟩
  obtain ⟨cs, hc⟩ := h.blk
  exact ⟨_, heap_setCell_same w w0.heap.size k cs _ _ hc⟩

set_option maxRecDepth 100000 in
set_option maxHeartbeats 2000000 in
theorem parts32_new (t : Nat) (w : World) (ht : t < 4294967296) :
    Calls Tryz.prog 100 #[.int .u32 (t : Int)] w fun e w' => e = .returned (.slice (some ⟨w.heap.size, 0, none⟩) 256 256) ∧ U32Rd w' (some ⟨w.heap.size, 0, none⟩) (tabL t) ∧ U32Blk w' ⟨w.heap.size, 0, none⟩ ∧ Below w.heap.size w w' := by
  have hmk : ∀ w, (Instr.makeSlice 62 (.int .i64 256) (.int .i64 256)).run Tryz.prog w = .ok (.slice (some ⟨w.heap.size, 0, none⟩) 256 256) (w.alloc (.cells (madeCells #[.int .u32 0] 256) 85)) := fun w => run_make_row' (P := Tryz.prog) 62 85 (.int .u32 0) 4 Tryz.underlying62 u32_info rfl .i64 .i64 256 (by omega) (by omega) w
  have HS := Lib.hid (Tab32N.start t w)
  go_enter Tryz.func100, Tryz.ntmps100
  go_wp2_with fail
  refine (turning32_any t _).mono ?_
  rintro e w' ⟨rfl, rfl⟩
  have hsz : (w.alloc (.cells (madeCells #[.int .u32 0] 256) 85)).heap.size = w.heap.size + 1 := by simp
  rw [hsz]
  clear hsz
  generalize (w.alloc (.cells (madeCells #[.int .u32 0] 256) 85)).alloc (.cells #[.int .u32 (t : Int)] 85) = w0 at *
  clear hmk
  go_wp2
  go_loopw [11] (fun i wr => ∃ k : Nat, i = .int .i64 (k : Int) ∧ Tab32N t w k wr) (fun i _ => 256 - (intOf i).toNat)
  case atStart => exact ⟨0, rfl, HS.out⟩
  case round =>
    obtain ⟨k, rfl, hP⟩ := hrel
    clear HS
    have hle := hP.tab.le
    by_cases hk : k < 256
    · have hw : (k : Int) % 4294967296 = (k : Int) := by omega
      have HP := Lib.hid hP
      have HB := Lib.hid hP.tab.box
      clear hP
      have hfl := field32
      go_wp2_with fail
      refine (part32_any k t _ _ (by omega) ht HB.out).mono ?_
      rintro e w1 ⟨rfl, hb1⟩
      have hP1 := HP.out.later hb1
      have hy : stN t 8 k < 4294967296 := stN_lt (w := 32) (by omega) ht 8 k (by omega)
      have HY := Lib.hid (show stN t 8 k = prt t k from rfl)
      have HS1 := Lib.hid (hP1.step hk (stN t 8 k) rfl)
      have c1 := hP1.tab.row k hk
      rw [if_neg (Nat.lt_irrefl k)] at c1
      have f1 := hP1.tab.frow k hk
      clear hP1 hb1 HP HB
      generalize stN t 8 k = y at *
      have hw2 : (y : Int) % 4294967296 = (y : Int) := by omega
      go_wp2
      go_roundw
      case rel => exact ⟨k + 1, by go_num, HS1.out⟩
      case measure => simp [intOf]; omega
    · obtain rfl : k = 256 := by omega
      have HD := Lib.hid hP.tab.done_
      have HT := Lib.hid hP.blk
      have HB := Lib.hid hP.tab.below
      clear hP
      go_wp2
      go_ret
      exact ⟨rfl, HD.out, HT.out, HB.out⟩

set_option maxRecDepth 100000 in
set_option maxHeartbeats 1000000 in
theorem mtable32_new (w : World) :
    Calls Tryz.prog 87 #[.agg #[.int .i64 2, .int .i64 4, .int .u32 2197175160]] w fun e w' => (∃ A : Addr, e = .returned (.slice (some A) 256 256) ∧ U32Rd w' (some A) (tabL 2197175160) ∧ U32Blk w' A) ∧ Below w.heap.size w w' := by
  have HP := Lib.hid (parts32_new 2197175160 (w.alloc (.cells #[.int .i64 2, .int .i64 4, .int .u32 2197175160] 127)) (by omega))
  go_enter Tryz.func87, Tryz.ntmps87
  go_wp2_with fail
  refine HP.out.mono ?_
  rintro e w1 ⟨rfl, hU, hT, hb1⟩
  have HU := Lib.hid (show U32Rd w1 (some ⟨w.heap.size + 1, 0, none⟩) (tabL 2197175160) by simpa using hU)
  have HT := Lib.hid (show U32Blk w1 ⟨w.heap.size + 1, 0, none⟩ by simpa using hT)
  have HB := Lib.hid (((Below.refl _ w).alloc (Nat.le_refl _) (.cells #[.int .i64 2, .int .i64 4, .int .u32 2197175160] 127)).trans (hb1.mono (by simp)))
  clear hU hT hb1
  go_wp2
  go_ret
  exact ⟨⟨_, rfl, HU.out, HT.out⟩, HB.out⟩

set_option maxRecDepth 100000 in
set_option maxHeartbeats 1000000 in
theorem own32_new (b0 b1 : Addr) (w : World) (hE : EnvC b0 b1 w) :
    Calls Tryz.prog 72 #[.int .i64 2] w fun e w' => (∃ A : Addr, e = .returned (.tuple #[.slice (some A) 256 256, .nilIface]) ∧ U32Rd w' (some A) (tabL 2197175160) ∧ U32Blk w' A) ∧ Below w.heap.size w w' := by
  have HK := Lib.hid (show kindR 2 = ((2, 4, 2197175160), false) by decide)
  go_enter Tryz.func72, Tryz.ntmps72
  go_wp2_with fail
  refine (wide_k _ hE (by decide) HK.out).mono ?_
  rintro e w1 ⟨rfl, hb1⟩
  go_wp2_with fail
  refine (mtable32_new _).mono ?_
  rintro e w2 ⟨⟨A, rfl, hU, hT⟩, hb2⟩
  have HU := Lib.hid hU
  have HT := Lib.hid hT
  have HB := Lib.hid ((hb1.alloc hb1.size (.cells #[.int .i64 2, .int .i64 4, .int .u32 2197175160] 127)).trans (hb2.mono (by have := hb1.size; simp; omega)))
  clear hU hT hb1 hb2
  go_wp2
  go_ret2
  exact ⟨⟨A, rfl, HU.out, HT.out⟩, HB.out⟩

set_option maxRecDepth 100000 in
set_option maxHeartbeats 1000000 in
theorem table_of_new (b0 b1 : Addr) (k : Int) (T : List Nat) (w : World) (hE : EnvC b0 b1 w)
    (h : Calls Tryz.prog 72 #[.int .i64 k] w fun e w' => (∃ A : Addr, e = .returned (.tuple #[.slice (some A) 256 256, .nilIface]) ∧ U32Rd w' (some A) T ∧ U32Blk w' A) ∧ Below w.heap.size w w') :
    Calls Tryz.prog 63 #[.int .i64 k] w fun e w' => (∃ A : Addr, e = .returned (.tuple #[.slice (some A) 256 256, .int .i64 0]) ∧ U32Rd w' (some A) T ∧ U32Blk w' A) ∧ Below w.heap.size w w' := by
  have H := Lib.hid h
  clear h
  go_enter Tryz.func63, Tryz.ntmps63
  go_wp2_with fail
  refine H.out.mono ?_
  rintro e w1 ⟨⟨A, rfl, hU, hT⟩, hb1⟩
  have HU := Lib.hid hU
  have HT := Lib.hid hT
  clear hU hT
  go_wp2_with fail
  refine (ctellt_ok b0 b1 _ _ _ _ (hE.below hb1)).mono ?_
  rintro e w' ⟨rfl, rfl⟩
  go_wp2
  go_ret2
  exact ⟨⟨_, rfl, HU.out, HT.out⟩, hb1⟩

theorem table32_new (w : World) (hC : CrcOK w) :
    Calls Tryz.prog 63 #[.int .i64 2] w fun e w' => (∃ A : Addr, e = .returned (.tuple #[.slice (some A) 256 256, .int .i64 0]) ∧ U32Rd w' (some A) (tabL 2197175160) ∧ U32Blk w' A) ∧ Below w.heap.size w w' := by
  obtain ⟨b0, b1, hE⟩ := hC
  exact table_of_new b0 b1 2 _ w hE (own32_new b0 b1 w hE)
end Go.Proofs.YtdlkmdjhjdpmeaaGreatDoor
