/- The document's side: ReadAt. -/
import Derived.Test.YtmlbmiegfeadjaaId
namespace Go.Proofs.Ytmlbmiegfeadjaa
open Go.RowKit
namespace Ir
open Bm Mt

/-- The number of the first k bytes from j on. -/
def part (bs : List Nat) (j : Nat) : Nat → Nat
  | 0 => 0
  | k + 1 => part bs j k * 256 + bs.getD (j + k) 0
theorem part_lt {bs : List Nat} (h : ∀ b ∈ bs, b < 256) (j k : Nat) : part bs j k < 256 ^ k := by
  induction k with
  | zero => simp [part]
  | succ k ih => have := getD_lt h (j + k); simp only [part]; rw [Nat.pow_succ]; omega
theorem part_eight (bs : List Nat) (j : Nat) : part bs j 8 = num8 bs j := by simp [part, num8]

set_option maxRecDepth 100000 in
theorem readat38 (w : World) (b off len c : Nat) (bs : List Nat) (j N : Nat) (hN : N ≤ 8) (hX : ∀ b ∈ bs, b < 256) (hl : len ≤ 140737488353272) (hj : j + N ≤ len) (hc : ∀ i, i < len → w.cell? ⟨b, off + i, none⟩ = some (.int .u8 (bs.getD i 0 : Nat))) :
    Calls Try.prog 28 #[.slice (some ⟨b, off, none⟩) len c, .int .i64 (j : Nat), .int .i64 (N : Nat)] w fun e w' => e = .returned (.int .u64 (part bs j N : Nat)) ∧ w' = w := by
  have HC := Lib.hid hc
  have HX := Lib.hid hX
  clear hc hX
  go_enter Try.func28, Try.ntmps28
  go_wp2_with fail
  go_loop [7, 10] (fun x i => ∃ k, k ≤ N ∧ i = .int .i64 (k : Nat) ∧ x = .int .u64 (part bs j k : Nat)) (fun _ i => N - (intOf i).toNat)
  case atStart => exact ⟨0, Nat.zero_le _, rfl, rfl⟩
  case round =>
    obtain ⟨k, hk, rfl, rfl⟩ := hrel
    by_cases hk8 : k < N
    · have e := HC.out (j + k) (by omega)
      have h1 := getD_lt HX.out (j + k)
      have h2 := part_lt HX.out j k
      have h3 : 256 ^ k ≤ 256 ^ 7 := Nat.pow_le_pow_right (by decide) (by omega)
      obtain ⟨A, hA⟩ : ∃ A, A = part bs j k := ⟨_, rfl⟩
      obtain ⟨D, hD⟩ : ∃ D, D = bs.getD (j + k) 0 := ⟨_, rfl⟩
      have HN : Hid (part bs j (k + 1) = A * 256 + D) := Lib.hid (by rw [hA, hD]; rfl)
      rw [← hA] at h2 ⊢
      rw [← hD] at e h1
      have hA2 : A < 72057594037927936 := by omega
      have hor : bits .or .u64 ((A : Int) * 256) ((D : Nat) : Int) = ((A * 256 + D : Nat) : Int) := by
        rw [show (A : Int) * 256 = ((A * 256 : Nat) : Int) from by omega, u64_or_nat _ _ (by omega) (by omega), nat_join 8 _ _ (by omega) (by omega)]
      have HOR := Lib.hid hor
      have hi1 : (0 : Int) ≤ (j : Int) + (k : Int) := by omega
      have hi2 : (j : Int) + (k : Int) < (len : Int) := by omega
      have hi3 : ((j : Int) + (k : Int)).toNat = j + k := by omega
      clear hA hD h2 h3 hor
      go_wp2_with fail
      go_round
      case rel => exact ⟨k + 1, by omega, by go_num, by rw [HN.out, HOR.out]⟩
      case measure => simp [intOf]; omega
    · obtain rfl : k = N := by omega
      go_wp2_with fail
      go_ret
      exact ⟨rfl, rfl⟩
end Ir
end Go.Proofs.Ytmlbmiegfeadjaa
