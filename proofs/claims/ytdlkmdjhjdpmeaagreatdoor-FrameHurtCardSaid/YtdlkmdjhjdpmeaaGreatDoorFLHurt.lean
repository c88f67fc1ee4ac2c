/- The walk of FrameHurt. -/
import Derived.Test.YtdlkmdjhjdpmeaaGreatDoorL1
import Derived.Deep.RegionHeld3
import Derived.Deep.DrawnRows
import Derived.Deep.QuietTactic
set_option linter.unusedVariables false
set_option linter.unusedSimpArgs false
namespace Go.Proofs.YtdlkmdjhjdpmeaaGreatDoor
open Go.RowKit
attribute [local go_sem ↓] Go.wp_at_zero Go.wp_at_succ

/-- A byte and a number's lowest byte, put together. -/
def xorF (x : UInt8) (a : Int) : UInt8 := x ^^^ UInt8.ofNat (a % 256).toNat
theorem xorF_bits (x : UInt8) (a : Int) : bits .xor .u8 ((x.toNat : Nat) : Int) (a % 256) = (((xorF x a).toNat : Nat) : Int) := by
  have h0 : 0 ≤ a % 256 := Int.emod_nonneg _ (by decide)
  have h1 : a % 256 < 256 := Int.emod_lt_of_pos _ (by decide)
  obtain ⟨m, hm⟩ := Int.eq_ofNat_of_zero_le h0
  have hm2 : m < 256 := by omega
  unfold xorF
  rw [hm, u8_xor_nat _ _ x.toNat_lt hm2, UInt8.toNat_xor]
  simp
  rw [Nat.mod_eq_of_lt hm2]
theorem fone_at (y : UInt8) (g : Nat) (W : World) (h : W.cell? ⟨g, 0, none⟩ = some (.int .u8 ((y.toNat : Nat) : Int))) : (convert 41 9 (.slice (some ⟨g, 0, none⟩) 1 1)).run Tryz.prog W = .ok (.string ⟨#[y]⟩) W := by
  have h := run_convert_bytes_back (P := Tryz.prog) W 41 9 5 ⟨g, 0, none⟩ 1 [y] Tryz.underlying41 Tryz.underlying5 Tryz.underlying9 (fun j hj => by
    obtain rfl : j = 0 := by simpa using hj
    simpa [Addr.add] using h)
  simpa using h
theorem fone_bd (y : UInt8) (W : World) : (convert 41 9 (.slice (some ⟨W.heap.size, 0, none⟩) 1 1)).run Tryz.prog (W.alloc (.cells #[.int .u8 ((y.toNat : Nat) : Int)] 5)).drew = .ok (.string ⟨#[y]⟩) (W.alloc (.cells #[.int .u8 ((y.toNat : Nat) : Int)] 5)).drew := fone_at y _ _ (by go_simp)
theorem xorF_ne (x : UInt8) (a : Int) (h1 : 1 ≤ a) (h2 : a ≤ 255) : x ≠ xorF x a := by
  unfold xorF
  obtain ⟨m, rfl⟩ := Int.eq_ofNat_of_zero_le (show 0 ≤ a by omega)
  intro h
  have h3 : (x ^^^ UInt8.ofNat ((m : Int) % 256).toNat) ^^^ x = x ^^^ x := by rw [← h]
  have h4 : UInt8.ofNat ((m : Int) % 256).toNat = 0 := by
    rw [UInt8.xor_self, UInt8.xor_comm, ← UInt8.xor_assoc, UInt8.xor_self, UInt8.zero_xor] at h3
    exact h3
  have h5 := congrArg UInt8.toNat h4
  simp at h5
  omega

theorem hurt_split (s : ByteArray) (k : Nat) (hk : k < s.size) (y : UInt8) : s.data.toList = (s.extract 0 k).data.toList ++ s[k] :: (s.extract (k + 1) s.size).data.toList ∧ ((s.extract 0 k ++ ⟨#[y]⟩) ++ s.extract (k + 1) s.size).data.toList = (s.extract 0 k).data.toList ++ y :: (s.extract (k + 1) s.size).data.toList := by
  have e1 : (s.extract 0 k).data.toList = s.data.toList.take k := by simp [ByteArray.extract, ByteArray.copySlice]
  have e2 : (s.extract (k + 1) s.size).data.toList = s.data.toList.drop (k + 1) := by
    have h1 : s.data.toList.length = s.size := ba_len s
    rw [ByteArray.data_extract, Array.toList_extract]
    exact List.take_of_length_le (by rw [List.length_drop]; omega)
  refine ⟨?_, ?_⟩
  · rw [e1, e2]
    have hk' : k < s.data.toList.length := by rw [ba_len]; exact hk
    have := List.take_append_drop k s.data.toList
    rw [List.drop_eq_getElem_cons hk'] at this
    exact this.symm
  · rw [ba_app, ba_app, List.append_assoc]; rfl

set_option maxRecDepth 100000 in
set_option maxHeartbeats 4000000 in
theorem frameHurt_walk (r : Rc) (at_ d : Int) (w : World) (hE : FrOK w) (hs : r.data.size ≤ maxLen) (hat : (Lit.int .i64 at_).wf = true) (hd : (Lit.int .i64 d).wf = true) :
    Calls Tryz.prog 7 #[.agg #[.int .i64 r.op, .int .i64 r.id, .string r.data], .int .i64 at_, .int .i64 d] w fun e w' => e = .returned (.bool true) ∧ Below w.heap.size w w' := by
  have hb0 := below_new w (.cells #[.int .i64 r.op, .int .i64 r.id, .string r.data] 23)
  have hx0 := rec_new r w
  have hE0 := hE.below hb0
  go_enter Tryz.func7, Tryz.ntmps7
  go_wp2_with fail
  generalize w.alloc (.cells #[.int .i64 r.op, .int .i64 r.id, .string r.data] 23) = w0 at *
  refine (fshown_any w0 hE0).mono ?_
  rintro e w1 ⟨rfl, hb1⟩
  have hx1 := hx0.here hb1
  have hE1 := hE0.below hb1
  have hb1' := hb0.trans (hb1.mono hb0.size)
  obtain ⟨a0, a1, a2⟩ := hx1.three
  have hb2 := below_new w1 (.cells #[.int .i64 r.op, .int .i64 r.id, .string r.data] 23)
  have hx2 := hx1.here hb2
  have hE2 := hE1.below hb2
  have hb2' := hb1'.trans (hb2.mono hb1'.size)
  have hr := rec_row r w1 hs
  clear hb0 hb1 hx0 hE0
  go_wp2_with fail
  generalize w1.alloc (.cells #[.int .i64 r.op, .int .i64 r.id, .string r.data] 23) = w2 at *
  refine (flcuts_any [r] _ 1 w2 (rec_len r) hr).mono ?_
  rintro e w3 ⟨v, rfl, hv, hb3⟩
  have hx3 := hx2.here hb3
  have hE3 := hE2.below hb3
  have hb3' := hb2'.trans (hb3.mono hb2'.size)
  obtain ⟨A, c, rfl, hc, hcell⟩ := hv
  obtain ⟨g, rfl, hg, k0, k1, k2⟩ := hcell 0 (cutC r) rfl
  have hfit := cutC_fit r
  clear hcell hc a0 a1 a2 hr hb2 hb3 hx1 hx2 hE1 hE2 hb1' hb2'
  simp only [cuts_one, List.length_cons, List.length_nil, Nat.zero_add] at *
  generalize cutC r = q at *
  rw [Nat.zero_mul] at k0 k1 k2
  obtain ⟨a0, a1, a2⟩ := hx3.three
  have f0 := hx3.frozen 0
  have f1 := hx3.frozen 1
  have f2 := hx3.frozen 2
  have hz3 : w.heap.size < w3.heap.size := lt_of_heap hx3
  obtain ⟨hx4, hb4⟩ := rec_box (x := .int .i64 q.op) (y := .int .i64 q.id) (z := .string q.data) hx3 hb3'
  go_wp2_with fail
  have hE4 := hE.below hb4
  generalize (((w3.setCell ⟨w.heap.size, 0, none⟩ (.int .i64 q.op)).setCell ⟨w.heap.size, 1, none⟩ (.int .i64 q.id)).setCell ⟨w.heap.size, 2, none⟩ (.string q.data)) = w4 at *
  clear a0 a1 a2 f0 f1 f2 hx3 hE3 hb3' hz3 k0 k1 k2
  refine (fencode_any q w4 hE4 (by omega)).mono ?_
  rintro e w5 ⟨rfl, hb5⟩
  have hE5 := hE4.below hb5
  have hb5' := hb4.trans (hb5.mono hb4.size)
  clear hx4 hE4 hb4 hb5
  cases hq : rcB q
  · rw [enc_no hq]
    go_wp2_with fail
    go_ret
    exact ⟨rfl, hb5'⟩
  · rw [enc_yes hq]
    obtain ⟨S, hS⟩ : ∃ S : ByteArray, S = ⟨(frL q).toArray⟩ := ⟨_, rfl⟩
    have hSl : S.data.toList = frL q := by rw [hS]
    have hSz : S.size ≤ 1000000 := by rw [hS]; exact frS_le hq
    rw [← hS]
    have HQ := Lib.hid hq
    have HSL := Lib.hid hSl
    clear hS hq hSl
    by_cases h1 : at_ < 0
    · have g1 : decide (at_ < 0) = true := decide_eq_true h1
      go_wp2_with fail
      go_ret
      exact ⟨rfl, hb5'⟩
    by_cases h2 : (S.size : Int) ≤ at_
    · have g1 : decide (at_ < 0) = false := decide_eq_false h1
      have g2 : decide ((S.size : Int) ≤ at_) = true := decide_eq_true h2
      go_wp2_with fail
      go_ret
      exact ⟨rfl, hb5'⟩
    obtain ⟨k, rfl⟩ : ∃ k : Nat, at_ = k := ⟨at_.toNat, by omega⟩
    have hk : k < S.size := by omega
    have g1 : decide ((k : Int) < 0) = false := decide_eq_false (by omega)
    have g2 : decide ((S.size : Int) ≤ (k : Int)) = false := decide_eq_false (by omega)
    by_cases h3 : k = 8
    · have g3 : ((k : Int) == 8) = true := by simp; omega
      go_wp2_with fail
      go_ret
      exact ⟨rfl, hb5'⟩
    have g3 : ((k : Int) == 8) = false := by simp; omega
    by_cases h4 : k = 9
    · have g4 : ((k : Int) == 9) = true := by simp; omega
      go_wp2_with fail
      go_ret
      exact ⟨rfl, hb5'⟩
    have g4 : ((k : Int) == 9) = false := by simp; omega
    by_cases h5 : d < 1
    · have g5 : decide (d < 1) = true := decide_eq_true h5
      go_wp2_with fail
      go_ret
      exact ⟨rfl, hb5'⟩
    have g5 : decide (d < 1) = false := decide_eq_false h5
    by_cases h6 : 255 < d
    · have g6 : decide (255 < d) = true := decide_eq_true h6
      go_wp2_with fail
      go_ret
      exact ⟨rfl, hb5'⟩
    have g6 : decide (255 < d) = false := decide_eq_false h6
    obtain ⟨hp1, hp2⟩ := hurt_split S k hk (xorF S[k] d)
    have hpl : (S.extract 0 k).data.toList.length = k := by rw [ba_len, ByteArray.size_extract]; omega
    have hz1 : (S.extract 0 k).size ≤ 1000000 := by rw [ByteArray.size_extract]; omega
    have hz2 : (S.extract (k + 1) S.size).size + k + 1 ≤ 1000000 := by rw [ByteArray.size_extract]; omega
    have hz3 : (S.extract 0 k).size + 1 ≤ 1000000 := by rw [ByteArray.size_extract]; omega
    have hz4 : (S.extract 0 k).size = k := by rw [ByteArray.size_extract]; omega
    have s1 := sl_to S k (by omega)
    have s2 := ix_str S (k : Int) k rfl hk
    have s3 := sl_from S ((k : Int) + 1) (k + 1) (by omega) (by omega)
    have c1 := cat_str (S.extract 0 k) ⟨#[xorF S[k] d]⟩ (show (S.extract 0 k).size + 1 ≤ _ from hz3)
    have c2 := cat_str (S.extract 0 k ++ ⟨#[xorF S[k] d]⟩) (S.extract (k + 1) S.size) (by rw [ByteArray.size_append]; show (S.extract 0 k).size + 1 + _ ≤ _; omega)
    have hT := hurt_dec HQ.out (HSL.out.symm.trans hp1) hp2 (xorF_ne S[k] d (by omega) (by omega)) (by omega) (by omega)
    have hTz : ((S.extract 0 k ++ ⟨#[xorF S[k] d]⟩) ++ S.extract (k + 1) S.size).size ≤ 1000000 := by
      rw [ByteArray.size_append, ByteArray.size_append]; show (S.extract 0 k).size + 1 + _ ≤ _; omega
    have hxb := xorF_bits S[k] d
    generalize xorF S[k] d = y at *
    generalize hx : S[k] = x at *
    generalize S.extract 0 k = p1 at *
    generalize S.extract (k + 1) S.size = p2 at *
    generalize (p1 ++ ⟨#[y]⟩) ++ p2 = T at *
    generalize p1 ++ (⟨#[y]⟩ : ByteArray) = p3 at *
    have HT := Lib.hid hT
    have e0 : IntKind.u8.wrap d = d % 256 := by rfl
    have e1 : IntKind.i64.wrap ((k : Int) + 1) = (k : Int) + 1 := IntWalk.i64_in _ (by omega)
    have hone := fone_byte y
    have honed := fun W => fone_bd y W
    have hA2 := fone_at y w5.heap.size (((w5.alloc (.cells #[.int .u8 ((y.toNat : Nat) : Int)] 5)).alloc (.cells #[.int .i64 0, .int .i64 0, .string ⟨#[]⟩] 23))) (by go_simp)
    have hA3 := fone_at y w5.heap.size (((w5.alloc (.cells #[.int .u8 ((y.toNat : Nat) : Int)] 5)).alloc (.cells #[.int .i64 0, .int .i64 0, .string ⟨#[]⟩] 23)).drew) (by go_simp)
    have hB1 := fone_at y (w5.heap.size + 1) ((w5.alloc (.cells #[.int .i64 0, .int .i64 0, .string ⟨#[]⟩] 23)).alloc (.cells #[.int .u8 ((y.toNat : Nat) : Int)] 5)).drew (by go_simp)
    have hB2 := fone_at y (w5.heap.size + 1) ((w5.alloc (.cells #[.int .i64 0, .int .i64 0, .string ⟨#[]⟩] 23)).alloc (.cells #[.int .u8 ((y.toNat : Nat) : Int)] 5)) (by go_simp)
    have bA1 : Below w5.heap.size w5 (w5.alloc (.cells #[.int .u8 ((y.toNat : Nat) : Int)] 5)).drew := ((Below.refl _ w5).alloc (Nat.le_refl _) _).drew
    have bA2 : Below w5.heap.size w5 ((w5.alloc (.cells #[.int .u8 ((y.toNat : Nat) : Int)] 5)).alloc (.cells #[.int .i64 0, .int .i64 0, .string ⟨#[]⟩] 23)).drew := (((Below.refl _ w5).alloc (Nat.le_refl _) _).alloc (by simp) _).drew
    have bB1 : Below w5.heap.size w5 ((w5.alloc (.cells #[.int .i64 0, .int .i64 0, .string ⟨#[]⟩] 23)).alloc (.cells #[.int .u8 ((y.toNat : Nat) : Int)] 5)).drew := (((Below.refl _ w5).alloc (Nat.le_refl _) _).alloc (by simp) _).drew
    have kA2 : Blk ((w5.alloc (.cells #[.int .u8 ((y.toNat : Nat) : Int)] 5)).alloc (.cells #[.int .i64 0, .int .i64 0, .string ⟨#[]⟩] 23)).drew (w5.heap.size + 1) 23 #[.int .i64 0, .int .i64 0, .string ⟨#[]⟩] := by
      have h := heap_alloc_new (w5.alloc (.cells #[.int .u8 ((y.toNat : Nat) : Int)] 5)) (.cells #[.int .i64 0, .int .i64 0, .string ⟨#[]⟩] 23)
      rw [World.size_alloc] at h
      exact h
    have kB1 : Blk ((w5.alloc (.cells #[.int .i64 0, .int .i64 0, .string ⟨#[]⟩] 23)).alloc (.cells #[.int .u8 ((y.toNat : Nat) : Int)] 5)).drew w5.heap.size 23 #[.int .i64 0, .int .i64 0, .string ⟨#[]⟩] := (Blk.new w5 _ _).alloc _
    have EA1 := hE5.below bA1
    have EA2 := hE5.below bA2
    have EB1 := hE5.below bB1
    clear hT hp1 hp2 HQ HSL hpl hz1 hz2 hz3 hz4 hx h1 h2 hat hd
    go_wp2_with fail
    go_region_with (first
        | ((go_at_call 15; refine (decode_any T 0 _ EA1 hTz).mono ?_; rintro e v1 ⟨rfl, hb6⟩; rw [HT.out]; have hb7 := bA1.trans (hb6.mono bA1.size)))
        | ((go_at_call 15; refine (decode_any T 0 _ EA2 hTz).mono ?_; rintro e v1 ⟨rfl, hb6⟩; rw [HT.out]; have hb7 := bA2.trans (hb6.mono bA2.size); have hk := kA2.here hb6; obtain ⟨k0, k1, k2⟩ := hk.three; have f0 := hk.frozen 0; have f1 := hk.frozen 1; have f2 := hk.frozen 2))
        | ((go_at_call 15; refine (decode_any T 0 _ EB1 hTz).mono ?_; rintro e v1 ⟨rfl, hb6⟩; rw [HT.out]; have hb7 := bB1.trans (hb6.mono bB1.size); have hk := kB1.here hb6; obtain ⟨k0, k1, k2⟩ := hk.three; have f0 := hk.frozen 0; have f1 := hk.frozen 1; have f2 := hk.frozen 2)))
    all_goals
      clear EA1 EA2 EB1 kA2 kB1 bA1 bA2 bB1 hA2 hA3 hB1 hB2 hone honed HT s1 s2 s3 c1 c2
      go_wp2_with fail
      go_ret
      refine ⟨rfl, hb5'.trans (Below.mono (?_ : Below w5.heap.size w5 _) hb5'.size)⟩
      have hz7 := hb7.size
      first
        | exact hb7.alloc hz7 _
        | exact (hb7.alloc hz7 _).drew
        | exact (((hb7.setCell (Nat.le_succ _) _).setCell (Nat.le_succ _) _).setCell (Nat.le_succ _) _)
        | exact (((hb7.setCell (Nat.le_succ _) _).setCell (Nat.le_succ _) _).setCell (Nat.le_succ _) _).drew
        | exact (((hb7.setCell (Nat.le_refl _) _).setCell (Nat.le_refl _) _).setCell (Nat.le_refl _) _)
        | exact (((hb7.setCell (Nat.le_refl _) _).setCell (Nat.le_refl _) _).setCell (Nat.le_refl _) _).drew
        | trace_state
end Go.Proofs.YtdlkmdjhjdpmeaaGreatDoor
