import Derived.Test.YtnnadljeppcdoaaGreatDoorG30
import Derived.Test.YtnnadljeppcdoaaGreatDoorG08

/- The sums: the program's and the document's. -/
namespace Go.Proofs.YtnnadljeppcdoaaGreatDoor
open Go.RowKit
namespace Ks
open Wr Bm Kc

theorem and_u32 (C : Nat) (hC : C < 4294967296) : bits .and .u32 (C : Int) 1 = ((C % 2 : Nat) : Int) := by
  have h := u32_and_nat C 1 hC (by decide)
  rw [nat_mask1] at h
  exact h
theorem step_odd (C : Nat) (hC : C < 4294967296) (h : C % 2 = 1) : bits .xor .u32 ((C : Int) / 2) 3988292384 = ((Kc.step C : Nat) : Int) := by
  have h2 := u32_xor_nat (C / 2) 3988292384 (by omega) (by decide)
  rw [show (C : Int) / 2 = ((C / 2 : Nat) : Int) from by omega]
  refine h2.trans ?_
  unfold Kc.step
  rw [if_pos h]
  rfl
theorem step_even (C : Nat) (hC : C < 4294967296) (h : ¬ C % 2 = 1) : bits .xor .u32 ((C : Int) / 2) 0 = ((Kc.step C : Nat) : Int) := by
  have h2 := u32_xor_nat (C / 2) 0 (by omega) (by decide)
  rw [show (C : Int) / 2 = ((C / 2 : Nat) : Int) from by omega]
  refine h2.trans ?_
  unfold Kc.step
  rw [if_neg h]

set_option maxRecDepth 100000 in
theorem shifted (w : World) (c : Nat) (hc : c < 4294967296) : Calls Tryz.prog 19 #[.int .u32 (c : Nat)] w fun e w' => e = .returned (.int .u32 (steps c 8 : Nat)) ∧ w' = w := by
  have HC := Lib.hid hc
  clear hc
  go_enter Tryz.func19, Tryz.ntmps19
  go_wp2_with fail
  go_loop [0, 4] (fun s i => ∃ k, k ≤ 8 ∧ i = .int .i64 (k : Nat) ∧ s = .int .u32 (steps c k : Nat)) (fun _ i => 8 - (intOf i).toNat)
  case atStart => exact ⟨0, by decide, rfl, rfl⟩
  case round =>
    obtain ⟨k, hk, rfl, rfl⟩ := hrel
    by_cases hk8 : k < 8
    · have hC := steps_lt HC.out k
      have hand := and_u32 (steps c k) hC
      have HO := Lib.hid (step_odd (steps c k) hC)
      have HE := Lib.hid (step_even (steps c k) hC)
      have HS : Hid (steps c (k + 1) = Kc.step (steps c k)) := Lib.hid rfl
      obtain ⟨C, hCe⟩ : ∃ C, C = steps c k := ⟨_, rfl⟩
      rw [← hCe] at hC hand HO HE HS ⊢
      obtain ⟨Z, hZ⟩ : ∃ Z, Z = Kc.step C := ⟨_, rfl⟩
      rw [← hZ] at HO HE HS
      clear hCe hZ
      by_cases h1 : C % 2 = 1
      · have hx := HO.out h1
        rw [h1] at hand
        have hand' : bits .and .u32 (C : Int) 1 = 1 := hand
        have hm : bits .and .u32 3988292384 4294967295 = 3988292384 := by kernel_rfl
        clear h1 hand
        go_wp2_with fail
        go_round
        case rel => exact ⟨k + 1, by omega, by go_num, by rw [HS.out]⟩
        case measure => simp [intOf]; omega
      · have hx := HE.out h1
        rw [show C % 2 = 0 from by omega] at hand
        have hand' : bits .and .u32 (C : Int) 1 = 0 := hand
        have hm : bits .and .u32 3988292384 0 = 0 := by kernel_rfl
        clear h1 hand
        go_wp2_with fail
        go_round
        case rel => exact ⟨k + 1, by omega, by go_num, by rw [HS.out]⟩
        case measure => simp [intOf]; omega
    · obtain rfl : k = 8 := by omega
      go_wp2_with fail
      go_ret
      exact ⟨rfl, rfl⟩

theorem not_u32 (R : Nat) (h : R < 4294967296) : bits .xor .u32 IntKind.u32.max (R : Int) = 4294967295 - (R : Int) := by
  have h1 := u32_xor_nat 4294967295 R (by decide) h
  have h2 := congrArg BitVec.toNat (BitVec.xor_allOnes (x := BitVec.ofNat 32 R))
  rw [BitVec.toNat_xor, BitVec.toNat_not, BitVec.toNat_allOnes, BitVec.toNat_ofNat, Nat.mod_eq_of_lt (show R < 2 ^ 32 by omega), Nat.xor_comm] at h2
  have h3 : (4294967295 : Nat) ^^^ R = 4294967295 - R := h2
  rw [h3] at h1
  refine h1.trans ?_
  omega
theorem in_xor (s x : Nat) (hs : s < 4294967296) (hx : x < 256) : bits .xor .u32 (s : Int) (x : Int) = ((s ^^^ x : Nat) : Int) := u32_xor_nat s x hs (by omega)

set_option maxRecDepth 100000 in
theorem sum_some (w : World) (b off c n : Nat) (bs : List Nat) (hX : ∀ x ∈ bs, x < 256) (hn : n = bs.length) (hl : n ≤ 140737488353272) (hcell : ∀ i, i < n → w.cell? ⟨b, off + i, none⟩ = some (.int .u8 (bs.getD i 0 : Nat))) :
    Calls Tryz.prog 9 #[.slice (some ⟨b, off, none⟩) n c] w fun e w' => e = .returned (.int .u32 (sum bs : Nat)) ∧ w' = w := by
  have HC := Lib.hid hcell
  have HN := Lib.hid hn
  have HX := Lib.hid hX
  clear hcell hn hX
  go_enter Tryz.func9, Tryz.ntmps9
  go_wp2_with fail
  go_loop [3, 5, 8] (fun s _ i => ∃ k, k ≤ n ∧ i = .int .i64 (k : Nat) ∧ s = .int .u32 (run bs k : Nat)) (fun _ _ i => n - (intOf i).toNat)
  case atStart => exact ⟨0, Nat.zero_le _, rfl, rfl⟩
  case round =>
    obtain ⟨k, hk, rfl, rfl⟩ := hrel
    by_cases hkn : k < n
    · have e1 := HC.out k hkn
      have hR := run_lt HX.out k
      have hx := getD_lt HX.out k
      have hxor := in_xor (run bs k) (bs.getD k 0) hR hx
      have F := Lib.hid (shifted w (run bs k ^^^ bs.getD k 0) (in_lt HX.out hR k))
      have HS : Hid (run bs (k + 1) = steps (run bs k ^^^ bs.getD k 0) 8) := Lib.hid rfl
      obtain ⟨Y, hY⟩ : ∃ Y, Y = run bs k ^^^ bs.getD k 0 := ⟨_, rfl⟩
      rw [← hY] at F hxor HS
      obtain ⟨R, hRe⟩ : ∃ R, R = run bs k := ⟨_, rfl⟩
      obtain ⟨x, hxe⟩ : ∃ x, x = bs.getD k 0 := ⟨_, rfl⟩
      rw [← hRe] at hR hxor ⊢
      rw [← hxe] at hx hxor e1
      have hxw : (x : Int) % 4294967296 = x := by omega
      clear hY hRe hxe
      go_wp2_with (go_at_call 19; refine F.out.mono ?_; rintro e w2 ⟨rfl, h2⟩; rw [h2]; clear h2 w2)
      go_round
      case rel => exact ⟨k + 1, by omega, by go_num, by rw [HS.out]⟩
      case measure => simp [intOf]; omega
    · obtain rfl : k = n := by omega
      have hR := run_lt HX.out k
      have HS : Hid (((Kc.sum bs : Nat) : Int) = 4294967295 - ((run bs k : Nat) : Int)) := Lib.hid (by unfold Kc.sum; rw [← HN.out]; omega)
      obtain ⟨R, hRe⟩ : ∃ R, R = run bs k := ⟨_, rfl⟩
      rw [← hRe] at hR HS ⊢
      clear hRe
      go_wp2_with fail
      go_ret
      refine ⟨ret_int ?_, rfl⟩
      rw [HS.out]
      exact not_u32 R hR

theorem sum19 (w : World) (v : Value) (bs : List Nat) (hP : Cv.Pl w v bs) (hX : ∀ x ∈ bs, x < 256) (hl : bs.length ≤ 140737488353272) :
    Calls Tryz.prog 9 #[v] w fun e w' => e = .returned (.int .u32 (sum bs : Nat)) ∧ w' = w := by
  rcases hP with ⟨rfl, a, c, rfl⟩ | ⟨h0, b, off, c, rfl, _, hc⟩
  · have HS : Hid (((Kc.sum [] : Nat) : Int) = 0) := Lib.hid rfl
    have h0 : bits .xor .u32 IntKind.u32.max 4294967295 = 0 := by kernel_rfl
    go_enter Tryz.func9, Tryz.ntmps9
    go_wp2_with fail
    refine wp_loop_rounds 1 ?_
    rw [rounds_succ]
    go_wp2_with fail
    go_ret
    refine ⟨ret_int ?_, rfl⟩
    first | exact h0 | (rw [HS.out]; exact h0)
  · exact sum_some w b off c _ bs hX rfl hl hc

/-- The document's sum. -/
theorem rsum_some (w : World) (b off c n : Nat) (bs : List Nat) (hX : ∀ x ∈ bs, x < 256) (hn : n = bs.length) (hl : n ≤ 140737488353272) (hcell : ∀ i, i < n → w.cell? ⟨b, off + i, none⟩ = some (.int .u8 (bs.getD i 0 : Nat))) :
    Calls Tryz.prog 10 #[.slice (some ⟨b, off, none⟩) n c] w fun e w' => e = .returned (.int .u32 (sum bs : Nat)) ∧ w' = w := by
  have HC := Lib.hid hcell
  have HN := Lib.hid hn
  have HX := Lib.hid hX
  clear hcell hn hX
  go_enter Tryz.func10, Tryz.ntmps10
  go_wp2_with fail
  go_loop [3, 4, 7] (fun s _ i => ∃ k, k ≤ n ∧ i = .int .i64 (k : Nat) ∧ s = .int .u32 (run bs k : Nat)) (fun _ _ i => n - (intOf i).toNat)
  case atStart => exact ⟨0, Nat.zero_le _, rfl, rfl⟩
  case round =>
    obtain ⟨k, hk, rfl, rfl⟩ := hrel
    by_cases hkn : k < n
    · have e1 := HC.out k hkn
      have hR := run_lt HX.out k
      have hx := getD_lt HX.out k
      have hxor := in_xor (run bs k) (bs.getD k 0) hR hx
      have HYL := Lib.hid (in_lt HX.out hR k)
      have HS : Hid (run bs (k + 1) = steps (run bs k ^^^ bs.getD k 0) 8) := Lib.hid rfl
      obtain ⟨Y, hY⟩ : ∃ Y, Y = run bs k ^^^ bs.getD k 0 := ⟨_, rfl⟩
      rw [← hY] at HYL hxor HS
      obtain ⟨R, hRe⟩ : ∃ R, R = run bs k := ⟨_, rfl⟩
      obtain ⟨x, hxe⟩ : ∃ x, x = bs.getD k 0 := ⟨_, rfl⟩
      rw [← hRe] at hR hxor ⊢
      rw [← hxe] at hx hxor e1
      have hxw : (x : Int) % 4294967296 = x := by omega
      clear hY hRe hxe
      go_wp2_with fail
      go_loop [3, 17] (fun s i => ∃ j, j ≤ 8 ∧ i = .int .i64 (j : Nat) ∧ s = .int .u32 (steps Y j : Nat)) (fun _ i => 8 - (intOf i).toNat)
      case atStart => exact ⟨0, by decide, rfl, rfl⟩
      case round =>
        obtain ⟨j, hj, rfl, rfl⟩ := hrel
        by_cases hj8 : j < 8
        · have hC := steps_lt HYL.out j
          have hand := and_u32 (steps Y j) hC
          have HO := Lib.hid (step_odd (steps Y j) hC)
          have HE := Lib.hid (step_even (steps Y j) hC)
          have HS2 : Hid (steps Y (j + 1) = Kc.step (steps Y j)) := Lib.hid rfl
          obtain ⟨C, hCe⟩ : ∃ C, C = steps Y j := ⟨_, rfl⟩
          rw [← hCe] at hC hand HO HE HS2 ⊢
          obtain ⟨Z, hZ⟩ : ∃ Z, Z = Kc.step C := ⟨_, rfl⟩
          rw [← hZ] at HO HE HS2
          clear hCe hZ
          by_cases h1 : C % 2 = 1
          · have hx' := HO.out h1
            rw [h1] at hand
            have hand' : bits .and .u32 (C : Int) 1 = 1 := hand
            clear h1 hand
            go_wp2_with fail
            go_round
            case rel => exact ⟨j + 1, by omega, by go_num, by rw [HS2.out]⟩
            case measure => simp [intOf]; omega
          · have hx' := HE.out h1
            rw [show C % 2 = 0 from by omega] at hand
            have hand' : bits .and .u32 (C : Int) 1 = 0 := hand
            clear h1 hand
            go_wp2_with fail
            go_round
            case rel => exact ⟨j + 1, by omega, by go_num, by rw [HS2.out]⟩
            case measure => simp [intOf]; omega
        · obtain rfl : j = 8 := by omega
          go_wp2_with fail
          go_round
          case rel => exact ⟨k + 1, by omega, by go_num, by rw [HS.out]⟩
          case measure => simp [intOf]; omega
    · obtain rfl : k = n := by omega
      have hR := run_lt HX.out k
      have HS : Hid (((Kc.sum bs : Nat) : Int) = 4294967295 - ((run bs k : Nat) : Int)) := Lib.hid (by unfold Kc.sum; rw [← HN.out]; omega)
      obtain ⟨R, hRe⟩ : ∃ R, R = run bs k := ⟨_, rfl⟩
      rw [← hRe] at hR HS ⊢
      clear hRe
      go_wp2_with fail
      go_ret
      refine ⟨ret_int ?_, rfl⟩
      rw [HS.out]
      exact not_u32 R hR
theorem rsum20 (w : World) (v : Value) (bs : List Nat) (hP : Cv.Pl w v bs) (hX : ∀ x ∈ bs, x < 256) (hl : bs.length ≤ 140737488353272) :
    Calls Tryz.prog 10 #[v] w fun e w' => e = .returned (.int .u32 (sum bs : Nat)) ∧ w' = w := by
  rcases hP with ⟨rfl, a, c, rfl⟩ | ⟨h0, b, off, c, rfl, _, hc⟩
  · have HS : Hid (((Kc.sum [] : Nat) : Int) = 0) := Lib.hid rfl
    have h0 : bits .xor .u32 IntKind.u32.max 4294967295 = 0 := by kernel_rfl
    go_enter Tryz.func10, Tryz.ntmps10
    go_wp2_with fail
    refine wp_loop_rounds 1 ?_
    rw [rounds_succ]
    go_wp2_with fail
    go_ret
    refine ⟨ret_int ?_, rfl⟩
    first | exact h0 | (rw [HS.out]; exact h0)
  · exact rsum_some w b off c _ bs hX rfl hl hc
end Ks
end Go.Proofs.YtnnadljeppcdoaaGreatDoor
