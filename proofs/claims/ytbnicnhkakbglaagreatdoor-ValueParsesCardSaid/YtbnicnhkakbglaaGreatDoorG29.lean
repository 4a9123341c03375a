import Derived.Test.YtbnicnhkakbglaaGreatDoorG28
import Derived.Test.YtbnicnhkakbglaaGreatDoorG02

/- The bits put together are finite, or infinite. -/
namespace Go.Proofs.YtbnicnhkakbglaaGreatDoor
open Go.RowKit
namespace Dc
open Us Fq

theorem and_low (X : Int) : ∃ m : Nat, m < 4503599627370496 ∧ bits .and .u64 X 4503599627370495 = (m : Int) := by
  refine ⟨(BitVec.ofInt 64 X &&& BitVec.ofInt 64 4503599627370495).toNat, ?_, ?_⟩
  · rw [BitVec.toNat_and]
    exact Nat.lt_of_le_of_lt Nat.and_le_right (by decide)
  · show IntKind.u64.wrap ((BitVec.ofInt 64 X &&& BitVec.ofInt 64 4503599627370495).toNat : Int) = _
    rw [IntKind.wrap_u64]
    have := (BitVec.ofInt 64 X &&& BitVec.ofInt 64 4503599627370495).isLt
    omega
theorem and_exp (K : Nat) (hK : K < 2048) : bits .and .i64 (K : Int) 2047 = (K : Int) := by
  show IntKind.i64.wrap ((BitVec.ofInt 64 (K : Int) &&& BitVec.ofInt 64 2047).toNat : Int) = _
  have e : (BitVec.ofInt 64 (K : Int) &&& BitVec.ofInt 64 2047).toNat = K := by
    rw [BitVec.toNat_and, ofInt_u64 K (by omega), show (BitVec.ofInt 64 2047).toNat = 2 ^ 11 - 1 from by decide, Nat.and_two_pow_sub_one_eq_mod]
    omega
  rw [e]
  simp [IntKind.wrap, IntKind.bits, IntKind.signed]
  omega
theorem asm_is (K : Nat) (hK : K < 2048) (X : Int) (ng : Bool) : ∃ m : Nat, m < 4503599627370496 ∧ asm ((K : Int) - 1023) X ng = (((if ng then 9223372036854775808 else 0) + K * 4503599627370496 + m : Nat) : Int) ∧ bits .and .u64 X 4503599627370495 = (m : Int) := by
  obtain ⟨m, hm, e⟩ := and_low X
  have e1 : ((K : Int) - 1023) + 1023 = (K : Int) := by omega
  have e2 : IntKind.u64.wrap (K : Int) = (K : Int) := by rw [IntKind.wrap_u64]; omega
  have e3 : IntKind.u64.wrap ((K : Int) * 4503599627370496) = ((K * 4503599627370496 : Nat) : Int) := by rw [IntKind.wrap_u64]; omega
  have e4 : bits .or .u64 (m : Int) ((K * 4503599627370496 : Nat) : Int) = ((K * 4503599627370496 + m : Nat) : Int) := by
    rw [u64_or_nat _ _ (by omega) (by omega), Nat.or_comm, nat_join 52 (K * 4503599627370496) m (by omega) (by omega)]
  refine ⟨m, hm, ?_, e⟩
  unfold asm
  rw [e, e1, and_exp K hK, e2, e3, e4]
  cases ng with
  | false => simp
  | true =>
    simp only [if_true]
    have h := u64_or_nat (K * 4503599627370496 + m) 9223372036854775808 (by omega) (by omega)
    rw [Nat.or_comm, nat_join 63 9223372036854775808 (K * 4503599627370496 + m) (by omega) (by omega)] at h
    refine h.trans ?_
    omega
theorem asm_fin {E : Int} (X : Int) (ng : Bool) (h1 : -1023 ≤ E) (h2 : E ≤ 1023) : Fnt (asm E X ng).toNat := by
  obtain ⟨m, hm, e, _⟩ := asm_is (E + 1023).toNat (by omega) X ng
  rw [show (((E + 1023).toNat : Nat) : Int) - 1023 = E from by omega] at e
  rw [e, Int.toNat_natCast]
  unfold Fnt
  cases ng <;> simp <;> omega
theorem asm_inf (ng : Bool) : Ift (asm 1024 0 ng).toNat := by
  unfold Ift
  cases ng <;> decide +kernel
end Dc
end Go.Proofs.YtbnicnhkakbglaaGreatDoor
