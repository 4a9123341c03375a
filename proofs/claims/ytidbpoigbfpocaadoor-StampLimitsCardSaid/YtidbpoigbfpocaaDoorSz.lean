/- Numbers with a sign and without: what the program's and the document's Zig and Zag answer. -/
import Derived.Test.YtidbpoigbfpocaaDoorRows
import Derived.WalkKit
import Derived.ProofKit
import Derived.OpenShut
import Derived.Handy
import Derived.BigQuiet
import Derived.Deep.QuietTactic
import Derived.WalkLawsBesides
import Derived.Lib.Hide
import Derived.LoopTactic
import Derived.IntWalk
import Derived.Laws.BitsAllLaws
namespace Go.Proofs.YtidbpoigbfpocaaDoor
open Go.RowKit
namespace Sz

def zig (n : Int) : Int := if n < 0 then -2 * n - 1 else 2 * n
def zag (m : Int) : Int := if m % 2 = 1 then -(m / 2) - 1 else m / 2

theorem all1 : BitVec.ofInt 64 18446744073709551615 = BitVec.allOnes 64 := by decide
theorem all1' : BitVec.ofInt 64 (-1) = BitVec.allOnes 64 := by decide
theorem max64 : IntKind.u64.max = 18446744073709551615 := by decide
theorem xor_max_nat (a : Nat) (ha : a < 18446744073709551616) : bits .xor .u64 (a : Int) 18446744073709551615 = 18446744073709551615 - (a : Int) := by
  show IntKind.u64.wrap ((BitVec.ofInt 64 (a : Int) ^^^ BitVec.ofInt 64 18446744073709551615).toNat : Int) = _
  rw [all1, BitVec.xor_allOnes, BitVec.toNat_not, ofInt_u64 a ha, IntKind.wrap_u64]
  omega
theorem xor_max (a : Int) (h1 : 0 ≤ a) (h2 : a < 18446744073709551616) : bits .xor .u64 a 18446744073709551615 = 18446744073709551615 - a := by
  obtain ⟨A, rfl⟩ := Int.eq_ofNat_of_zero_le h1
  exact xor_max_nat A (by omega)
theorem max_xor (a : Int) (h1 : 0 ≤ a) (h2 : a < 18446744073709551616) : bits .xor .u64 18446744073709551615 a = 18446744073709551615 - a := by
  rw [← xor_max a h1 h2]
  unfold bits
  simp only [BitVec.xor_comm]
theorem xor_zero (a : Int) (h1 : 0 ≤ a) (h2 : a < 18446744073709551616) : bits .xor .u64 a 0 = a := by
  obtain ⟨A, rfl⟩ := Int.eq_ofNat_of_zero_le h1
  show IntKind.u64.wrap ((BitVec.ofInt 64 (A : Int) ^^^ 0#64).toNat : Int) = _
  rw [BitVec.xor_zero, ofInt_u64 A (by omega), IntKind.wrap_u64]
  omega
theorem ixor_zero (a : Int) (h1 : 0 ≤ a) (h2 : a < 9223372036854775808) : bits .xor .i64 a 0 = a := by
  obtain ⟨A, rfl⟩ := Int.eq_ofNat_of_zero_le h1
  show IntKind.i64.wrap ((BitVec.ofInt 64 (A : Int) ^^^ 0#64).toNat : Int) = _
  rw [IntWalk.i64_left, BitVec.xor_zero, ofInt_u64 A (by omega)]
  unfold wrap64
  omega
theorem ixor_all (a : Int) (h1 : 0 ≤ a) (h2 : a < 9223372036854775808) : bits .xor .i64 a (-1) = -a - 1 := by
  obtain ⟨A, rfl⟩ := Int.eq_ofNat_of_zero_le h1
  show IntKind.i64.wrap ((BitVec.ofInt 64 (A : Int) ^^^ BitVec.ofInt 64 (-1)).toNat : Int) = _
  rw [IntWalk.i64_left, all1', BitVec.xor_allOnes, BitVec.toNat_not, ofInt_u64 A (by omega)]
  unfold wrap64
  omega
theorem and_one (m : Int) (h1 : 0 ≤ m) (h2 : m ≤ 18446744073709551615) : bits .and .u64 m 1 = m % 2 := by
  obtain ⟨A, rfl⟩ := Int.eq_ofNat_of_zero_le h1
  have h := u64_and_nat A 1 (by omega) (by omega)
  rw [nat_mask1] at h
  simpa using h

set_option maxRecDepth 100000 in
theorem zig22 (n : Int) (h1 : -9223372036854775808 ≤ n) (h2 : n ≤ 9223372036854775807) (w : World) :
    Calls Tryd.prog 35 #[.int .i64 n] w fun e w' => e = .returned (.int .u64 (zig n)) ∧ w' = w := by
  go_enter Tryd.func35, Tryd.ntmps35
  go_wp2_with fail
  have e : bits BinOp.xor IntKind.u64 (IntKind.u64.wrap (IntKind.u64.wrap n * 2)) (IntKind.u64.wrap (n / 9223372036854775808)) = zig n := by
    simp only [IntKind.wrap_u64]
    unfold zig
    split
    · rw [show n / 9223372036854775808 % 18446744073709551616 = 18446744073709551615 from by omega, xor_max _ (by omega) (by omega)]
      omega
    · rw [show n / 9223372036854775808 % 18446744073709551616 = 0 from by omega, xor_zero _ (by omega) (by omega)]
      omega
  rw [e]
  go_ret
  exact ⟨rfl, rfl⟩

set_option maxRecDepth 100000 in
theorem zig23 (n : Int) (h1 : -9223372036854775808 ≤ n) (h2 : n ≤ 9223372036854775807) (w : World) :
    Calls Tryd.prog 14 #[.int .i64 n] w fun e w' => e = .returned (.int .u64 (zig n)) ∧ w' = w := by
  go_enter Tryd.func14, Tryd.ntmps14
  go_wp2_with fail
  · have e : IntKind.u64.wrap (IntKind.u64.wrap (bits BinOp.xor IntKind.u64 IntKind.u64.max (IntKind.u64.wrap n) * 2) + 1) = zig n := by
      simp only [IntKind.wrap_u64, max64]
      rw [max_xor _ (by omega) (by omega)]
      unfold zig
      rw [if_pos (by assumption)]
      omega
    rw [e]
    go_ret
    exact ⟨rfl, rfl⟩
  · rw [show n * 2 = zig n from by unfold zig; rw [if_neg (by omega)]; omega]
    go_ret
    exact ⟨rfl, rfl⟩

set_option maxRecDepth 100000 in
theorem zag24 (m : Int) (h1 : 0 ≤ m) (h2 : m ≤ 18446744073709551615) (w : World) :
    Calls Tryd.prog 52 #[.int .u64 m] w fun e w' => e = .returned (.int .i64 (zag m)) ∧ w' = w := by
  go_enter Tryd.func52, Tryd.ntmps52
  go_wp2_with fail
  have e : bits BinOp.xor IntKind.i64 (m / 2) (wrap64 (-wrap64 (bits BinOp.and IntKind.u64 m 1))) = zag m := by
    rw [and_one m h1 h2]
    unfold zag
    split
    · rename_i h
      rw [h, show wrap64 (-wrap64 1) = -1 from by unfold wrap64; omega, ixor_all _ (by omega) (by omega)]
    · rw [show m % 2 = 0 from by omega, show wrap64 (-wrap64 0) = 0 from by unfold wrap64; omega, ixor_zero _ (by omega) (by omega)]
  rw [e]
  go_ret
  exact ⟨rfl, rfl⟩

set_option maxRecDepth 100000 in
theorem zag25 (m : Int) (h1 : 0 ≤ m) (h2 : m ≤ 18446744073709551615) (w : World) :
    Calls Tryd.prog 40 #[.int .u64 m] w fun e w' => e = .returned (.int .i64 (zag m)) ∧ w' = w := by
  go_enter Tryd.func40, Tryd.ntmps40
  go_wp2_with fail
  · have h : m % 2 = 1 := by rename_i hm; simpa using hm
    have e : wrap64 (bits BinOp.xor IntKind.u64 IntKind.u64.max (m / 2)) = zag m := by
      simp only [max64]
      rw [max_xor _ (by omega) (by omega)]
      unfold zag wrap64
      rw [if_pos h]
      omega
    rw [e]
    go_ret
    exact ⟨rfl, rfl⟩
  · have h : ¬ m % 2 = 1 := by rename_i hm; simpa using hm
    rw [show m / 2 = zag m from by unfold zag; rw [if_neg h]]
    go_ret
    exact ⟨rfl, rfl⟩

theorem zag_zig (n : Int) (h1 : -9223372036854775808 ≤ n) (h2 : n ≤ 9223372036854775807) : zag (zig n) = n := by
  unfold zag zig; split <;> split <;> omega
theorem zig_zag (m : Int) (h1 : 0 ≤ m) (h2 : m ≤ 18446744073709551615) : zig (zag m) = m := by
  unfold zag zig; split <;> split <;> omega
theorem zig_in (n : Int) (h1 : -9223372036854775808 ≤ n) (h2 : n ≤ 9223372036854775807) : 0 ≤ zig n ∧ zig n ≤ 18446744073709551615 := by
  unfold zig; split <;> omega
theorem zag_in (m : Int) (h1 : 0 ≤ m) (h2 : m ≤ 18446744073709551615) : -9223372036854775808 ≤ zag m ∧ zag m ≤ 9223372036854775807 := by
  unfold zag; split <;> omega
end Sz
end Go.Proofs.YtidbpoigbfpocaaDoor
