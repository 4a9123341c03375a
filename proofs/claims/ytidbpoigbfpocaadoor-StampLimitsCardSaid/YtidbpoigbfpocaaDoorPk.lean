/- The program's side: fits, next, allFit, leastCode, laid. -/
import Derived.Test.YtidbpoigbfpocaaDoorMt
import Derived.Deep.DeepCutAuto
namespace Go.Proofs.YtidbpoigbfpocaaDoor
open Go.RowKit
namespace Pk
open Mt

/-- A slice whose cells are these numbers. -/
def Iu (w : World) (v : Value) (L : List Nat) : Prop :=
  (∀ x ∈ L, x < 18446744073709551616) ∧ ((∃ a c, v = .slice a 0 c ∧ L = []) ∨
    ∃ b off c, v = .slice (some ⟨b, off, none⟩) L.length c ∧ L.length ≤ c ∧ b < w.heap.size ∧ ∀ i, i < L.length → w.cell? ⟨b, off + i, none⟩ = some (.int .u64 (L.getD i 0 : Nat)))
/-- The widths lie in their table. -/
def Tab (w : World) : Prop := 0 < w.heap.size ∧ ∀ s, s < 14 → w.cell? ⟨0, s, none⟩ = some (.int .i64 (W s : Nat))
theorem Tab.drewN {w : World} (h : Tab w) (n : Nat) : Tab (w.drewN n) := h

theorem fit_dec (v n : Nat) : ((v : Int) / 2 ^ n == 0) = decide (v < 2 ^ n) := by
  have e : (v : Int) / 2 ^ n = ((v / 2 ^ n : Nat) : Int) := by push_cast; rfl
  rw [e]
  by_cases h : v < 2 ^ n
  · rw [Nat.div_eq_of_lt h, decide_eq_true h]; rfl
  · have h1 : 0 < v / 2 ^ n := Nat.div_pos (by omega) (Nat.two_pow_pos n)
    rw [decide_eq_false h]
    simp
    omega

set_option maxRecDepth 100000 in
theorem fits15 (v n : Nat) (hn : n ≤ 60) (w : World) : Calls Tryd.prog 33 #[.int .u64 (v : Nat), .int .i64 (n : Nat)] w fun e w' => e = .returned (.bool (decide (v < 2 ^ n))) ∧ w' = w := by
  go_enter Tryd.func33, Tryd.ntmps33
  go_wp2_with fail
  rw [fit_dec]
  go_ret
  exact ⟨rfl, rfl⟩
theorem fits_yes (v n : Nat) (hn : n ≤ 60) (h : v < 2 ^ n) (w : World) : Calls Tryd.prog 33 #[.int .u64 (v : Nat), .int .i64 (n : Nat)] w fun e w' => e = .returned (.bool true) ∧ w' = w := by
  have := fits15 v n hn w
  rwa [decide_eq_true h] at this
theorem fits_no (v n : Nat) (hn : n ≤ 60) (h : ¬ v < 2 ^ n) (w : World) : Calls Tryd.prog 33 #[.int .u64 (v : Nat), .int .i64 (n : Nat)] w fun e w' => e = .returned (.bool false) ∧ w' = w := by
  have := fits15 v n hn w
  rwa [decide_eq_false h] at this

set_option maxRecDepth 100000 in
theorem next22 (w : World) (b off n c s : Nat) (hn : n ≤ c) (hb : n ≤ 17592186044159) : Calls Tryd.prog 47 #[.slice (some ⟨b, off, none⟩) n c, .int .i64 (W s : Nat)] w fun e w' => e = .returned (.slice (some ⟨b, off, none⟩) (min (cap s) n) c) ∧ w' = w := by
  have h1 := W_pos s
  have h2 := W_le s
  have h3 : (60 : Int) / (W s : Nat) = (cap s : Nat) := rfl
  have h4 := cap_pos s
  have h5 := cap_le s
  obtain ⟨C, hC⟩ : ∃ C, C = cap s := ⟨_, rfl⟩
  obtain ⟨U, hU⟩ : ∃ U, U = W s := ⟨_, rfl⟩
  rw [← hU] at h1 h2 h3 ⊢
  rw [← hC] at h3 h4 h5 ⊢
  clear hC hU
  go_enter Tryd.func47, Tryd.ntmps47
  go_wp2_with fail
  · go_ret
    exact ⟨by rw [show min C n = C from by omega]; rfl, rfl⟩
  · go_ret
    exact ⟨by rw [show min C n = n from by omega]; rfl, rfl⟩

set_option maxRecDepth 100000 in
theorem allFit28 (w : World) (b off n c : Nat) (g : Nat → Nat) (u : Nat) (hu : u ≤ 60) (hn : n ≤ 17592186044159) (hc : ∀ i, i < n → w.cell? ⟨b, off + i, none⟩ = some (.int .u64 (g i : Nat))) :
    Calls Tryd.prog 53 #[.slice (some ⟨b, off, none⟩) n c, .int .i64 (u : Nat)] w fun e w' => e = .returned (.bool (decide (∀ i, i < n → g i < 2 ^ u))) ∧ w' = w := by
  have HC := Lib.hid hc
  clear hc
  go_enter Tryd.func53, Tryd.ntmps53
  go_wp2_with fail
  go_loop [9] (fun i => ∃ k, k ≤ n ∧ i = .int .i64 (k : Nat) ∧ ∀ j, j < k → g j < 2 ^ u) (fun i => n - (intOf i).toNat)
  case atStart => exact ⟨0, Nat.zero_le _, rfl, fun j hj => by omega⟩
  case round =>
    obtain ⟨k, hk, rfl, hall⟩ := hrel
    have HA := Lib.hid hall
    clear hall
    by_cases hkn : k < n
    · have e := HC.out k hkn
      by_cases hf : g k < 2 ^ u
      · have HF := Lib.hid hf
        clear hf
        go_wp2_with (go_at_call 33; refine (fits_yes _ _ hu HF.out _).mono ?_; rintro e w2 ⟨rfl, rfl⟩)
        go_round
        case rel =>
          refine ⟨k + 1, by omega, by go_num, fun j hj => ?_⟩
          by_cases e : j = k
          · subst e; exact HF.out
          · exact HA.out j (by omega)
        case measure => simp [intOf]; omega
      · have HF := Lib.hid hf
        clear hf
        go_wp2_with (go_at_call 33; refine (fits_no _ _ hu HF.out _).mono ?_; rintro e w2 ⟨rfl, rfl⟩)
        go_ret
        exact ⟨by rw [decide_eq_false (fun h => HF.out (h k hkn))]; rfl, rfl⟩
    · obtain rfl : k = n := by omega
      go_wp2_with fail
      go_ret
      exact ⟨by rw [decide_eq_true HA.out]; rfl, rfl⟩

set_option maxRecDepth 100000 in
theorem laid24 (w : World) (b off n c : Nat) (l : List Nat) (u : Nat) (hu : n * u ≤ 60) (hu6 : u ≤ 60) (hn : n ≤ 60) (hg : ∀ i, i < n → l.getD i 0 < 2 ^ u) (hc : ∀ i, i < n → w.cell? ⟨b, off + i, none⟩ = some (.int .u64 (l.getD i 0 : Nat))) :
    Calls Tryd.prog 48 #[.slice (some ⟨b, off, none⟩) n c, .int .i64 (u : Nat)] w fun e w' => e = .returned (.int .u64 (laid u l n : Nat)) ∧ w' = w := by
  have HC := Lib.hid hc
  have HG := Lib.hid hg
  have HU := Lib.hid hu
  clear hc hg hu
  go_enter Tryd.func48, Tryd.ntmps48
  go_wp2_with fail
  go_loop [5, 10] (fun v i => ∃ k, k ≤ n ∧ i = .int .i64 (k : Nat) ∧ v = .int .u64 (laid u l k : Nat)) (fun _ i => n - (intOf i).toNat)
  case atStart => exact ⟨0, Nat.zero_le _, rfl, rfl⟩
  case round =>
    obtain ⟨k, hk, rfl, rfl⟩ := hrel
    by_cases hkn : k < n
    · have e := HC.out k hkn
      have hku : (k + 1) * u ≤ 60 := Nat.le_trans (Nat.mul_le_mul_right _ hkn) HU.out
      have h0 : ((k * u : Nat) : Int) = (k : Int) * (u : Int) := by push_cast; rfl
      rw [Nat.add_mul, Nat.one_mul] at hku
      have hor : ∃ D : Nat, D = l.getD k 0 ∧ bits .or .u64 ((laid u l k : Nat) : Int) (IntKind.u64.wrap ((D : Int) * 2 ^ (k * u))) = ((laid u l (k + 1) : Nat) : Int) := by
        refine ⟨_, rfl, ?_⟩
        have h1 := laid_lt (w := u) (l := l) k (fun i hi => HG.out i (by omega))
        have h2 := HG.out k hkn
        have h3 : 2 ^ (k * u) ≤ 2 ^ 60 := Nat.pow_le_pow_right (by decide) (by omega)
        have h4 : l.getD k 0 * 2 ^ (k * u) < 2 ^ 60 := by
          have h5 : l.getD k 0 * 2 ^ (k * u) < 2 ^ u * 2 ^ (k * u) := Nat.mul_lt_mul_of_pos_right h2 (Nat.two_pow_pos _)
          rw [← Nat.pow_add] at h5
          exact Nat.lt_of_lt_of_le h5 (Nat.pow_le_pow_right (by decide) (by omega))
        have e1 : ((l.getD k 0 : Nat) : Int) * 2 ^ (k * u) = ((l.getD k 0 * 2 ^ (k * u) : Nat) : Int) := by push_cast; rfl
        rw [e1, IntKind.wrap_u64, show ((l.getD k 0 * 2 ^ (k * u) : Nat) : Int) % 18446744073709551616 = ((l.getD k 0 * 2 ^ (k * u) : Nat) : Int) from by omega,
          u64_or_nat _ _ (by omega) (by omega), laid_or k (fun i hi => HG.out i (by omega))]
      obtain ⟨D, hD, hor⟩ := hor
      rw [← hD] at e
      obtain ⟨A, hA⟩ : ∃ A, A = laid u l k := ⟨_, rfl⟩
      obtain ⟨B, hB⟩ : ∃ B, B = laid u l (k + 1) := ⟨_, rfl⟩
      rw [← hA, ← hB] at hor
      rw [← hA]
      have HB := Lib.hid hB
      clear hD hA hB
      obtain ⟨P, hP⟩ : ∃ P, P = k * u := ⟨_, rfl⟩
      rw [← hP] at h0 hor hku
      have HP := Lib.hid hP
      clear hP
      have hm : wrap64 ((k : Int) * (u : Int)) = (P : Int) := by rw [← h0]; unfold wrap64; omega
      go_wp2_with fail
      go_round
      case rel => exact ⟨k + 1, by omega, by go_num, by rw [← HP.out, hor, HB.out]⟩
      case measure => simp [intOf]; omega
    · obtain rfl : k = n := by omega
      go_wp2_with fail
      go_ret
      exact ⟨rfl, rfl⟩

set_option maxRecDepth 100000 in
theorem least21 (w : World) (b off n c : Nat) (l : List Nat) (hl : l.length = n) (hn : n ≤ c) (hb : n ≤ 17592186044159) (hS : Small l) (hT : Tab w)
    (hc : ∀ i, i < n → w.cell? ⟨b, off + i, none⟩ = some (.int .u64 (l.getD i 0 : Nat))) :
    Calls Tryd.prog 46 #[.slice (some ⟨b, off, none⟩) n c] w fun e w' => e = .returned (.int .i64 (least l : Nat)) ∧ ∃ m, w' = w.drewN m := by
  have HC := Lib.hid hc
  have HT := Lib.hid hT
  have HS := Lib.hid (least_of hS)
  have HL := Lib.hid hl
  clear hc hT hS hl
  go_enter Tryd.func46, Tryd.ntmps46
  go_wp2_with fail
  go_loopw [3] (fun i wr => ∃ k, k ≤ least l ∧ i = .int .i64 (k : Nat) ∧ ∃ m, wr = w.drewN m) (fun i _ => 14 - (intOf i).toNat)
  case atStart => exact ⟨0, Nat.zero_le _, rfl, 0, rfl⟩
  case round =>
    obtain ⟨k, hk, rfl, hm⟩ := hrel
    have hk13 : k ≤ 13 := Nat.le_trans hk HS.out.2.1
    have e : wr.cell? ⟨0, k, none⟩ = some (.int .i64 (W k : Nat)) := by obtain ⟨m, rfl⟩ := hm; exact HT.out.2 k (by omega)
    have F1 : Hid (∀ x, Calls Tryd.prog 47 #[.slice (some ⟨b, off, none⟩) n c, .int .i64 (W k : Nat)] (wr.drewN x) fun e w' => e = .returned (.slice (some ⟨b, off, none⟩) (min (cap k) n) c) ∧ w' = wr.drewN x) :=
      Lib.hid fun x => next22 _ b off n c k hn hb
    have F2 : Hid (∀ x, Calls Tryd.prog 53 #[.slice (some ⟨b, off, none⟩) (min (cap k) n) c, .int .i64 (W k : Nat)] (wr.drewN x) fun e w' => e = .returned (.bool (decide (∀ i, i < min (cap k) n → l.getD i 0 < 2 ^ W k))) ∧ w' = wr.drewN x) :=
      Lib.hid fun x => allFit28 _ b off (min (cap k) n) c (fun i => l.getD i 0) (W k) (W_le k) (by omega) (fun i hi => by obtain ⟨m, rfl⟩ := hm; exact HC.out i (by omega))
    obtain ⟨M, hM⟩ : ∃ M, M = min (cap k) n := ⟨_, rfl⟩
    obtain ⟨U, hU⟩ : ∃ U, U = W k := ⟨_, rfl⟩
    have HD : Hid (decide (∀ i, i < M → l.getD i 0 < 2 ^ U) = decide (Fit l k)) := Lib.hid (by rw [hM, hU, ← HL.out]; rfl)
    rw [← hM, ← hU] at F1 F2
    rw [← hU] at e
    clear hM hU
    obtain ⟨D, hD⟩ : ∃ D, D = decide (∀ i, i < M → l.getD i 0 < 2 ^ U) := ⟨_, rfl⟩
    rw [← hD] at F2 HD
    have HK := Lib.hid hk
    clear hD hk
    cases D with
    | false =>
      have hno : ¬ Fit l k := fun h => by have := HD.out; rw [decide_eq_true h] at this; cases this
      have hlt : k < least l := by
        by_cases e : k = least l
        · exact absurd (by rw [e]; exact HS.out.1) hno
        · have := HK.out; omega
      have HLT := Lib.hid hlt
      clear hno hlt
      go_upto_region 2 with (fail)
      go_quiet (first | (go_at_call 47; exact Calls.quiet_of_same (F1.out _)) | (go_at_call 53; exact Calls.quiet_of_same (F2.out _)))
      go_wp2_with fail
      go_roundw
      case rel => exact ⟨k + 1, HLT.out, by go_num, by obtain ⟨m, rfl⟩ := hm; exact ⟨m + nq, by rw [World.drewN_drewN]⟩⟩
      case measure => simp [intOf]; omega
    | true =>
      have hyes : Fit l k := of_decide_eq_true HD.out.symm
      have heq : k = least l := by
        by_cases e : k = least l
        · exact e
        · exact absurd hyes (HS.out.2.2 k (by have := HK.out; omega))
      have HEQ := Lib.hid heq
      clear hyes heq
      go_upto_region 2 with (fail)
      go_quiet (first | (go_at_call 47; exact Calls.quiet_of_same (F1.out _)) | (go_at_call 53; exact Calls.quiet_of_same (F2.out _)))
      go_wp2_with fail
      go_ret
      exact ⟨by rw [HEQ.out]; rfl, by obtain ⟨m, rfl⟩ := hm; exact ⟨m + nq, by rw [World.drewN_drewN]⟩⟩
end Pk
end Go.Proofs.YtidbpoigbfpocaaDoor
