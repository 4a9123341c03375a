import Derived.Test.YtjmddomkoholoaaGreatDoorG30
import Derived.Test.YtjmddomkoholoaaGreatDoorG08
import Derived.Deep.DeepCutAuto
import Derived.Lib.SmallJoins

/- The sums: the program's and the document's. -/
namespace Go.Proofs.YtjmddomkoholoaaGreatDoor
open Go.RowKit
namespace Ks
open Wr Bm Kc

theorem and_u32 (C : Nat) (hC : C < 4294967296) : bits .and .u32 (C : Int) 1 = ((C % 2 : Nat) : Int) := by
  have h := u32_and_nat C 1 hC (by decide)
  rw [nat_mask1] at h
  exact h
theorem step_odd (C : Nat) (hC : C < 4294967296) (h : C % 2 = 1) : bits .xor .u32 ((C : Int) / 2) 3988292384 = ((Kc.step C : Nat) : Int) := by
  have h2 := u32_xor_nat (C / 2) 3988292384 (by omega) (by decide)
  rw [show (C : Int) / 2 = ((C / 2 : Nat) : Int) from by omega]
  refine h2.trans ?_
  unfold Kc.step
  rw [if_pos h]
  rfl
theorem step_even (C : Nat) (hC : C < 4294967296) (h : ¬ C % 2 = 1) : bits .xor .u32 ((C : Int) / 2) 0 = ((Kc.step C : Nat) : Int) := by
  have h2 := u32_xor_nat (C / 2) 0 (by omega) (by decide)
  rw [show (C : Int) / 2 = ((C / 2 : Nat) : Int) from by omega]
  refine h2.trans ?_
  unfold Kc.step
  rw [if_neg h]

set_option maxRecDepth 100000 in
theorem shifted (w : World) (c : Nat) (hc : c < 4294967296) : Calls Tryz.prog 28 #[.int .u32 (c : Nat)] w fun e w' => e = .returned (.int .u32 (steps c 8 : Nat)) ∧ w' = w := by
  have HC := Lib.hid hc
  clear hc
  go_enter Tryz.func28, Tryz.ntmps28
  go_wp2_with fail
  go_loop [0, 4] (fun s i => ∃ k, k ≤ 8 ∧ i = .int .i64 (k : Nat) ∧ s = .int .u32 (steps c k : Nat)) (fun _ i => 8 - (intOf i).toNat)
  case atStart => exact ⟨0, by decide, rfl, rfl⟩
  case round =>
    obtain ⟨k, hk, rfl, rfl⟩ := hrel
    by_cases hk8 : k < 8
    · have hC := steps_lt HC.out k
      have hand := and_u32 (steps c k) hC
      have HO := Lib.hid (step_odd (steps c k) hC)
      have HE := Lib.hid (step_even (steps c k) hC)
      have HS : Hid (steps c (k + 1) = Kc.step (steps c k)) := Lib.hid rfl
      obtain ⟨C, hCe⟩ : ∃ C, C = steps c k := ⟨_, rfl⟩
      rw [← hCe] at hC hand HO HE HS ⊢
      obtain ⟨Z, hZ⟩ : ∃ Z, Z = Kc.step C := ⟨_, rfl⟩
      rw [← hZ] at HO HE HS
      clear hCe hZ
      by_cases h1 : C % 2 = 1
      · have hx := HO.out h1
        rw [h1] at hand
        have hand' : bits .and .u32 (C : Int) 1 = 1 := hand
        have hm : bits .and .u32 3988292384 4294967295 = 3988292384 := by kernel_rfl
        clear h1 hand
        go_wp2_with fail
        go_round
        case rel => exact ⟨k + 1, by omega, by go_num, by rw [HS.out]⟩
        case measure => simp [intOf]; omega
      · have hx := HE.out h1
        rw [show C % 2 = 0 from by omega] at hand
        have hand' : bits .and .u32 (C : Int) 1 = 0 := hand
        have hm : bits .and .u32 3988292384 0 = 0 := by kernel_rfl
        clear h1 hand
        go_wp2_with fail
        go_round
        case rel => exact ⟨k + 1, by omega, by go_num, by rw [HS.out]⟩
        case measure => simp [intOf]; omega
    · obtain rfl : k = 8 := by omega
      go_wp2_with fail
      go_ret
      exact ⟨rfl, rfl⟩

theorem not_u32 (R : Nat) (h : R < 4294967296) : bits .xor .u32 IntKind.u32.max (R : Int) = 4294967295 - (R : Int) := by
  have h1 := u32_xor_nat 4294967295 R (by decide) h
  have h2 := congrArg BitVec.toNat (BitVec.xor_allOnes (x := BitVec.ofNat 32 R))
  rw [BitVec.toNat_xor, BitVec.toNat_not, BitVec.toNat_allOnes, BitVec.toNat_ofNat, Nat.mod_eq_of_lt (show R < 2 ^ 32 by omega), Nat.xor_comm] at h2
  have h3 : (4294967295 : Nat) ^^^ R = 4294967295 - R := h2
  rw [h3] at h1
  refine h1.trans ?_
  omega
theorem in_xor (s x : Nat) (hs : s < 4294967296) (hx : x < 256) : bits .xor .u32 (s : Int) (x : Int) = ((s ^^^ x : Nat) : Int) := u32_xor_nat s x hs (by omega)

set_option maxRecDepth 100000 in
theorem sum_small (w : World) (b off c n : Nat) (bs : List Nat) (hX : ∀ x ∈ bs, x < 256) (hn : n = bs.length) (hl : n < 512) (hcell : ∀ i, i < n → w.cell? ⟨b, off + i, none⟩ = some (.int .u8 (bs.getD i 0 : Nat))) :
    Calls Tryz.prog 11 #[.slice (some ⟨b, off, none⟩) n c] w fun e w' => e = .returned (.int .u32 (sum bs : Nat)) ∧ w' = w := by
  have HC := Lib.hid hcell
  have HN := Lib.hid hn
  have HX := Lib.hid hX
  clear hcell hn hX
  have hbig : ¬ (512 : Int) ≤ (n : Int) := by omega
  have hbig2 : decide ((n : Int) ≥ 512) = false := decide_eq_false (by omega)
  go_enter Tryz.func11, Tryz.ntmps11
  go_wp2_with fail
  go_loop [3, 5, 14] (fun s _ i => ∃ k, k ≤ n ∧ i = .int .i64 (k : Nat) ∧ s = .int .u32 (run bs k : Nat)) (fun _ _ i => n - (intOf i).toNat)
  case atStart => exact ⟨0, Nat.zero_le _, rfl, rfl⟩
  case round =>
    obtain ⟨k, hk, rfl, rfl⟩ := hrel
    by_cases hkn : k < n
    · have e1 := HC.out k hkn
      have hR := run_lt HX.out k
      have hx := getD_lt HX.out k
      have hxor := in_xor (run bs k) (bs.getD k 0) hR hx
      have F := Lib.hid (shifted w (run bs k ^^^ bs.getD k 0) (in_lt HX.out hR k))
      have HS : Hid (run bs (k + 1) = steps (run bs k ^^^ bs.getD k 0) 8) := Lib.hid rfl
      obtain ⟨Y, hY⟩ : ∃ Y, Y = run bs k ^^^ bs.getD k 0 := ⟨_, rfl⟩
      rw [← hY] at F hxor HS
      obtain ⟨R, hRe⟩ : ∃ R, R = run bs k := ⟨_, rfl⟩
      obtain ⟨x, hxe⟩ : ∃ x, x = bs.getD k 0 := ⟨_, rfl⟩
      rw [← hRe] at hR hxor ⊢
      rw [← hxe] at hx hxor e1
      have hxw : (x : Int) % 4294967296 = x := by omega
      clear hY hRe hxe
      go_wp2_with (go_at_call 28; refine F.out.mono ?_; rintro e w2 ⟨rfl, h2⟩; rw [h2]; clear h2 w2)
      go_round
      case rel => exact ⟨k + 1, by omega, by go_num, by rw [HS.out]⟩
      case measure => simp [intOf]; omega
    · obtain rfl : k = n := by omega
      have hR := run_lt HX.out k
      have HS : Hid (((Kc.sum bs : Nat) : Int) = 4294967295 - ((run bs k : Nat) : Int)) := Lib.hid (by unfold Kc.sum; rw [← HN.out]; omega)
      obtain ⟨R, hRe⟩ : ∃ R, R = run bs k := ⟨_, rfl⟩
      rw [← hRe] at hR HS ⊢
      clear hRe
      go_wp2_with fail
      go_ret
      refine ⟨ret_int ?_, rfl⟩
      rw [HS.out]
      exact not_u32 R hR

/-! By a table. -/
theorem tbl_zero : Tryz.zeroCells95 = Array.replicate 256 (.int .u32 0) := by kernel_rfl
/-- The table at block t, its first k entries laid. -/
def Tbl (w : World) (t k : Nat) : Prop := t < w.heap.size ∧ ∀ i, i < 256 → w.cell? ⟨t, i, none⟩ = some (.int .u32 ((if i < k then steps i 8 else 0 : Nat) : Int)) ∧ w.frozen? ⟨t, i, none⟩ = false
theorem tbl_new (w : World) : Tbl (w.alloc (.cells Tryz.zeroCells95 95)) w.heap.size 0 := by
  have hb := heap_alloc_new w (.cells Tryz.zeroCells95 95)
  refine ⟨by simp, fun i hi => ⟨?_, frozen_of_row _ _ _ _ _ hb⟩⟩
  rw [Go.Joins.cell_of_block hb i, tbl_zero, Array.getElem?_replicate, if_pos hi, if_neg (Nat.not_lt_zero _)]
  rfl
theorem Tbl.store {w : World} {t k : Nat} (h : Tbl w t k) (hk : k < 256) : Tbl (w.setCell ⟨t, k, none⟩ (.int .u32 (steps k 8 : Nat))) t (k + 1) := by
  refine ⟨by simpa using h.1, fun i hi => ⟨?_, by simpa using (h.2 i hi).2⟩⟩
  by_cases e : i = k
  · subst e
    rw [if_pos (Nat.lt_succ_self _)]
    exact cell_same (h.2 i hi).1
  · rw [cell_other (by simp <;> omega), (h.2 i hi).1]
    by_cases e2 : i < k
    · rw [if_pos e2, if_pos (by omega)]
    · rw [if_neg e2, if_neg (by omega)]
theorem u8_xor_nat (a x : Nat) (ha : a < 256) (hx : x < 256) : bits .xor .u8 (a : Int) (x : Int) = ((a ^^^ x : Nat) : Int) := by
  have hl : a ^^^ x < 256 := Nat.xor_lt_two_pow (n := 8) ha hx
  show IntKind.u8.wrap ((BitVec.ofInt 8 (a : Int) ^^^ BitVec.ofInt 8 (x : Int)).toNat : Int) = _
  rw [BitVec.toNat_xor, BitVec.ofInt_natCast, BitVec.ofInt_natCast, BitVec.toNat_ofNat, BitVec.toNat_ofNat, Nat.mod_eq_of_lt (show a < 2 ^ 8 by omega), Nat.mod_eq_of_lt (show x < 2 ^ 8 by omega), IntKind.wrap_u8]
  omega
set_option maxRecDepth 100000 in
set_option maxHeartbeats 1000000 in
theorem table (w : World) (b off c n : Nat) (bs : List Nat) (hX : ∀ x ∈ bs, x < 256) (_hn : n = bs.length) (hl : n ≤ 140737488353272) (hbw : b < w.heap.size) (hcell : ∀ i, i < n → w.cell? ⟨b, off + i, none⟩ = some (.int .u8 (bs.getD i 0 : Nat))) :
    Calls Tryz.prog 27 #[.slice (some ⟨b, off, none⟩) n c] w fun e w' => e = .returned (.int .u32 (run bs n : Nat)) ∧ Below w.heap.size w w' := by
  have HC := Lib.hid (show ∀ y, Below w.heap.size w y → ∀ i, i < n → y.cell? ⟨b, off + i, none⟩ = some (.int .u8 (bs.getD i 0 : Nat)) from fun y hy i hi => (hy.cell (p := ⟨b, off + i, none⟩) hbw).trans (hcell i hi))
  have HX := Lib.hid hX
  have T0 := Lib.hid (tbl_new w)
  have B0 := Lib.hid (show Below w.heap.size w (w.alloc (.cells Tryz.zeroCells95 95)) from (Below.refl _ w).alloc (Nat.le_refl _) _)
  clear hcell _hn hX hbw
  go_enter Tryz.func27, Tryz.ntmps27
  go_upto_region 2 with (fail)
  obtain ⟨wa, hwa⟩ : ∃ wa, wa = w.alloc (.cells Tryz.zeroCells95 95) := ⟨_, rfl⟩
  rw [← hwa] at T0 B0 ⊢
  obtain ⟨tb, htb⟩ : ∃ tb, tb = w.heap.size := ⟨_, rfl⟩
  rw [← htb] at T0 ⊢
  have HT := Lib.hid (show w.heap.size ≤ tb by omega)
  clear hwa htb
  go_wp2_with fail
  go_loopw [8] (fun i wr => ∃ k, k ≤ 256 ∧ i = .int .i64 (k : Nat) ∧ Hid (Tbl wr tb k) ∧ Hid (Below w.heap.size w wr)) (fun i _ => 256 - (intOf i).toNat)
  case atStart => exact ⟨0, by omega, rfl, T0, B0⟩
  case round =>
    obtain ⟨k, hk, rfl, HTB, HB⟩ := hrel
    by_cases hk2 : k < 256
    case pos =>
      have F := Lib.hid (shifted wr k (by omega))
      have e0 := (HTB.out.2 k hk2).1
      have z0 := (HTB.out.2 k hk2).2
      have NT := Lib.hid (HTB.out.store hk2)
      have NB := Lib.hid (HB.out.setCell HT.out (.int .u32 (steps k 8 : Nat)) : Below w.heap.size w (wr.setCell ⟨tb, k, none⟩ (.int .u32 (steps k 8 : Nat))))
      obtain ⟨Y, hY⟩ : ∃ Y, Y = steps k 8 := ⟨_, rfl⟩
      rw [← hY] at F NT NB
      have hkw : (k : Int) % 4294967296 = k := by omega
      clear hY
      go_wp2_with (go_at_call 28; refine F.out.mono ?_; rintro e w2 ⟨rfl, h2⟩; rw [h2]; clear h2 w2)
      go_roundw
      case rel => exact ⟨k + 1, by omega, by go_num, NT, NB⟩
      case measure => simp [intOf]; omega
    case neg =>
      obtain rfl : k = 256 := by omega
      obtain ⟨W, rfl⟩ : ∃ W, W = wr := ⟨_, rfl⟩
      go_wp2_with fail
      go_loop [5, 19] (fun s i => ∃ j, j ≤ n ∧ i = .int .i64 (j : Nat) ∧ s = .int .u32 (run bs j : Nat)) (fun _ i => n - (intOf i).toNat)
      case atStart => exact ⟨0, Nat.zero_le _, rfl, rfl⟩
      case round =>
        obtain ⟨j, hj, rfl, rfl⟩ := hrel
        by_cases hjn : j < n
        case neg =>
          obtain rfl : j = n := by omega
          go_wp2_with fail
          go_ret
          exact ⟨rfl, HB.out⟩
        case pos =>
          have e1 := HC.out W HB.out j hjn
          have hR := run_lt HX.out j
          have hx := getD_lt HX.out j
          have HS : Hid (run bs (j + 1) = steps (run bs j % 256 ^^^ bs.getD j 0) 8 ^^^ run bs j / 256) := Lib.hid (Kf.by_table (run bs j) (bs.getD j 0) hx)
          have hI := Kf.idx_lt (run bs j) (bs.getD j 0) hx
          have hx8 := u8_xor_nat (run bs j % 256) (bs.getD j 0) (by omega) hx
          have hw8 : (run bs j : Int) % 256 = ((run bs j % 256 : Nat) : Int) := by omega
          have e2 := (HTB.out.2 (run bs j % 256 ^^^ bs.getD j 0) hI).1
          rw [if_pos hI] at e2
          have hS := steps_lt (c := run bs j % 256 ^^^ bs.getD j 0) (by omega) 8
          have hx32 := u32_xor_nat (steps (run bs j % 256 ^^^ bs.getD j 0) 8) (run bs j / 256) hS (by omega)
          have hd : (run bs j : Int) / 256 = ((run bs j / 256 : Nat) : Int) := by omega
          rw [← HS.out] at hx32
          obtain ⟨Z, hZ⟩ : ∃ Z, Z = run bs (j + 1) := ⟨_, rfl⟩
          rw [← hZ] at hx32
          have HZ := Lib.hid hZ
          obtain ⟨Y, hY⟩ : ∃ Y, Y = steps (run bs j % 256 ^^^ bs.getD j 0) 8 := ⟨_, rfl⟩
          rw [← hY] at hx32 e2
          obtain ⟨I, hIe⟩ : ∃ I, I = run bs j % 256 ^^^ bs.getD j 0 := ⟨_, rfl⟩
          rw [← hIe] at hI hx8 e2
          obtain ⟨R, hRe⟩ : ∃ R, R = run bs j := ⟨_, rfl⟩
          obtain ⟨x, hxe⟩ : ∃ x, x = bs.getD j 0 := ⟨_, rfl⟩
          rw [← hRe] at hR hx8 hw8 hx32 hd ⊢
          rw [← hxe] at hx hx8 e1
          obtain ⟨m8, hm8⟩ : ∃ m8, m8 = R % 256 := ⟨_, rfl⟩
          rw [← hm8] at hx8 hw8
          obtain ⟨d8, hd8⟩ : ∃ d8, d8 = R / 256 := ⟨_, rfl⟩
          rw [← hd8] at hx32 hd
          clear hS hY hIe hRe hxe hZ HS hm8 hd8
          go_wp2_with fail
          go_round
          case rel => exact ⟨j + 1, by omega, by go_num, by rw [← HZ.out]⟩
          case measure => simp [intOf]; omega
set_option maxRecDepth 100000 in
theorem sum_some (w : World) (b off c n : Nat) (bs : List Nat) (hX : ∀ x ∈ bs, x < 256) (hn : n = bs.length) (hl : n ≤ 140737488353272) (hcell : ∀ i, i < n → w.cell? ⟨b, off + i, none⟩ = some (.int .u8 (bs.getD i 0 : Nat))) :
    Calls Tryz.prog 11 #[.slice (some ⟨b, off, none⟩) n c] w fun e w' => e = .returned (.int .u32 (sum bs : Nat)) ∧ Below w.heap.size w w' := by
  by_cases h512 : n < 512
  · refine (sum_small w b off c n bs hX hn h512 hcell).mono ?_
    rintro e w' ⟨rfl, rfl⟩
    exact ⟨rfl, Below.refl _ _⟩
  have TB := Lib.hid (table w b off c n bs hX hn hl (cell_lt (hcell 0 (by omega))) hcell)
  have hR := run_lt hX n
  have HS : Hid (((Kc.sum bs : Nat) : Int) = 4294967295 - ((run bs n : Nat) : Int)) := Lib.hid (by unfold Kc.sum; rw [← hn]; omega)
  obtain ⟨R, hRe⟩ : ∃ R, R = run bs n := ⟨_, rfl⟩
  rw [← hRe] at hR HS TB
  have hbig : (512 : Int) ≤ (n : Int) := by omega
  have hbig2 : decide ((n : Int) ≥ 512) = true := decide_eq_true (by omega)
  clear hRe hcell hn hX h512
  go_enter Tryz.func11, Tryz.ntmps11
  go_wp2_with fail
  refine TB.out.mono ?_
  rintro e w2 ⟨rfl, b2⟩
  have B2 := Lib.hid b2
  clear b2
  go_wp2_with fail
  go_ret
  refine ⟨ret_int ?_, B2.out⟩
  rw [HS.out]
  exact not_u32 R hR

theorem sum19 (w : World) (v : Value) (bs : List Nat) (hP : Cv.Pl w v bs) (hX : ∀ x ∈ bs, x < 256) (hl : bs.length ≤ 140737488353272) :
    Calls Tryz.prog 11 #[v] w fun e w' => e = .returned (.int .u32 (sum bs : Nat)) ∧ Below w.heap.size w w' := by
  rcases hP with ⟨rfl, a, c, rfl⟩ | ⟨h0, b, off, c, rfl, _, hc⟩
  · have HS : Hid (((Kc.sum [] : Nat) : Int) = 0) := Lib.hid rfl
    have h0 : bits .xor .u32 IntKind.u32.max 4294967295 = 0 := by kernel_rfl
    go_enter Tryz.func11, Tryz.ntmps11
    go_wp2_with fail
    refine wp_loop_rounds 1 ?_
    rw [rounds_succ]
    go_wp2_with fail
    go_ret
    refine ⟨ret_int ?_, Below.refl _ _⟩
    first | exact h0 | (rw [HS.out]; exact h0)
  · exact sum_some w b off c _ bs hX rfl hl hc

/-- The document's sum. -/
theorem rsum_some (w : World) (b off c n : Nat) (bs : List Nat) (hX : ∀ x ∈ bs, x < 256) (hn : n = bs.length) (hl : n ≤ 140737488353272) (hcell : ∀ i, i < n → w.cell? ⟨b, off + i, none⟩ = some (.int .u8 (bs.getD i 0 : Nat))) :
    Calls Tryz.prog 12 #[.slice (some ⟨b, off, none⟩) n c] w fun e w' => e = .returned (.int .u32 (sum bs : Nat)) ∧ w' = w := by
  have HC := Lib.hid hcell
  have HN := Lib.hid hn
  have HX := Lib.hid hX
  clear hcell hn hX
  go_enter Tryz.func12, Tryz.ntmps12
  go_wp2_with fail
  go_loop [3, 4, 7] (fun s _ i => ∃ k, k ≤ n ∧ i = .int .i64 (k : Nat) ∧ s = .int .u32 (run bs k : Nat)) (fun _ _ i => n - (intOf i).toNat)
  case atStart => exact ⟨0, Nat.zero_le _, rfl, rfl⟩
  case round =>
    obtain ⟨k, hk, rfl, rfl⟩ := hrel
    by_cases hkn : k < n
    · have e1 := HC.out k hkn
      have hR := run_lt HX.out k
      have hx := getD_lt HX.out k
      have hxor := in_xor (run bs k) (bs.getD k 0) hR hx
      have HYL := Lib.hid (in_lt HX.out hR k)
      have HS : Hid (run bs (k + 1) = steps (run bs k ^^^ bs.getD k 0) 8) := Lib.hid rfl
      obtain ⟨Y, hY⟩ : ∃ Y, Y = run bs k ^^^ bs.getD k 0 := ⟨_, rfl⟩
      rw [← hY] at HYL hxor HS
      obtain ⟨R, hRe⟩ : ∃ R, R = run bs k := ⟨_, rfl⟩
      obtain ⟨x, hxe⟩ : ∃ x, x = bs.getD k 0 := ⟨_, rfl⟩
      rw [← hRe] at hR hxor ⊢
      rw [← hxe] at hx hxor e1
      have hxw : (x : Int) % 4294967296 = x := by omega
      clear hY hRe hxe
      go_wp2_with fail
      go_loop [3, 17] (fun s i => ∃ j, j ≤ 8 ∧ i = .int .i64 (j : Nat) ∧ s = .int .u32 (steps Y j : Nat)) (fun _ i => 8 - (intOf i).toNat)
      case atStart => exact ⟨0, by decide, rfl, rfl⟩
      case round =>
        obtain ⟨j, hj, rfl, rfl⟩ := hrel
        by_cases hj8 : j < 8
        · have hC := steps_lt HYL.out j
          have hand := and_u32 (steps Y j) hC
          have HO := Lib.hid (step_odd (steps Y j) hC)
          have HE := Lib.hid (step_even (steps Y j) hC)
          have HS2 : Hid (steps Y (j + 1) = Kc.step (steps Y j)) := Lib.hid rfl
          obtain ⟨C, hCe⟩ : ∃ C, C = steps Y j := ⟨_, rfl⟩
          rw [← hCe] at hC hand HO HE HS2 ⊢
          obtain ⟨Z, hZ⟩ : ∃ Z, Z = Kc.step C := ⟨_, rfl⟩
          rw [← hZ] at HO HE HS2
          clear hCe hZ
          by_cases h1 : C % 2 = 1
          · have hx' := HO.out h1
            rw [h1] at hand
            have hand' : bits .and .u32 (C : Int) 1 = 1 := hand
            clear h1 hand
            go_wp2_with fail
            go_round
            case rel => exact ⟨j + 1, by omega, by go_num, by rw [HS2.out]⟩
            case measure => simp [intOf]; omega
          · have hx' := HE.out h1
            rw [show C % 2 = 0 from by omega] at hand
            have hand' : bits .and .u32 (C : Int) 1 = 0 := hand
            clear h1 hand
            go_wp2_with fail
            go_round
            case rel => exact ⟨j + 1, by omega, by go_num, by rw [HS2.out]⟩
            case measure => simp [intOf]; omega
        · obtain rfl : j = 8 := by omega
          go_wp2_with fail
          go_round
          case rel => exact ⟨k + 1, by omega, by go_num, by rw [HS.out]⟩
          case measure => simp [intOf]; omega
    · obtain rfl : k = n := by omega
      have hR := run_lt HX.out k
      have HS : Hid (((Kc.sum bs : Nat) : Int) = 4294967295 - ((run bs k : Nat) : Int)) := Lib.hid (by unfold Kc.sum; rw [← HN.out]; omega)
      obtain ⟨R, hRe⟩ : ∃ R, R = run bs k := ⟨_, rfl⟩
      rw [← hRe] at hR HS ⊢
      clear hRe
      go_wp2_with fail
      go_ret
      refine ⟨ret_int ?_, rfl⟩
      rw [HS.out]
      exact not_u32 R hR
theorem rsum20 (w : World) (v : Value) (bs : List Nat) (hP : Cv.Pl w v bs) (hX : ∀ x ∈ bs, x < 256) (hl : bs.length ≤ 140737488353272) :
    Calls Tryz.prog 12 #[v] w fun e w' => e = .returned (.int .u32 (sum bs : Nat)) ∧ w' = w := by
  rcases hP with ⟨rfl, a, c, rfl⟩ | ⟨h0, b, off, c, rfl, _, hc⟩
  · have HS : Hid (((Kc.sum [] : Nat) : Int) = 0) := Lib.hid rfl
    have h0 : bits .xor .u32 IntKind.u32.max 4294967295 = 0 := by kernel_rfl
    go_enter Tryz.func12, Tryz.ntmps12
    go_wp2_with fail
    refine wp_loop_rounds 1 ?_
    rw [rounds_succ]
    go_wp2_with fail
    go_ret
    refine ⟨ret_int ?_, rfl⟩
    first | exact h0 | (rw [HS.out]; exact h0)
  · exact rsum_some w b off c _ bs hX rfl hl hc
end Ks
end Go.Proofs.YtjmddomkoholoaaGreatDoor
