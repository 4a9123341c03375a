/- The shortest digits of 1.5: the library's own search for them, walked at this one number. -/
import Derived.Test.YtonbjaegjfegpaaGreatDoorRows
import Derived.Test.YtonbjaegjfegpaaGreatDoorShelf
import Derived.WalkKit
import Derived.ProofKit
import Derived.OpenShut
import Derived.Handy
import Derived.BigQuiet
import Derived.Deep.QuietTactic
import Derived.WalkLawsBesides
import Derived.Lib.Hide
namespace Go.Proofs.YtonbjaegjfegpaaGreatDoor
open Go.RowKit
namespace Sf
set_option maxRecDepth 100000

/-- The product of two numbers of 64 bits, with the numbers as whole ones. -/
theorem mul64 (x y : Int) (hx0 : 0 ≤ x) (hx : x < 18446744073709551616) (hy0 : 0 ≤ y) (hy : y < 18446744073709551616) (w : World) :
    Calls Tryz.prog 158 #[.int .u64 x, .int .u64 y] w fun e w' => e = .returned (.tuple #[.int .u64 (x * y / 18446744073709551616), .int .u64 (x * y % 18446744073709551616)]) ∧ w' = w := by
  obtain ⟨a, rfl⟩ := Int.eq_ofNat_of_zero_le hx0
  obtain ⟨b, rfl⟩ := Int.eq_ofNat_of_zero_le hy0
  have h := Tryz.bits_Mul64 a b (by omega) (by omega) w
  refine h.mono ?_
  rintro e w' ⟨rfl, rfl⟩
  exact ⟨by simp, rfl⟩

theorem cell_lt {w : World} {b o : Nat} {v : Value} (h : w.cell? ⟨b, o, none⟩ = some v) : b < w.heap.size := by
  rcases Nat.lt_or_ge b w.heap.size with g | g
  · exact g
  · simp [World.cell?, Array.getElem?_eq_none g] at h

theorem uscale_min (w : World) (a : Nat) (h0 : w.cell? ⟨a, 0, none⟩ = some (.int .u64 10240000000000000000)) (h1 : w.cell? ⟨a, 1, none⟩ = some (.int .u64 0)) (h2 : w.cell? ⟨a, 2, none⟩ = some (.int .i64 7)) :
    Calls Tryz.prog 135 #[.int .u64 13835058055282162688, .pointer (some ⟨a, 0, none⟩)] w fun e w' => e = .returned (.int .u64 59999999999999995) ∧ w' = w := by
  have b1 : bits BinOp.and IntKind.i64 7 63 = 7 := by kernel_rfl
  have b2 : bits BinOp.or IntKind.u64 59999999999999995 1 = 59999999999999995 := by kernel_rfl
  go_enter Tryz.func135, Tryz.ntmps135
  go_wp2_with (first | (go_at_call 158; refine (mul64 _ _ (by decide) (by decide) (by decide) (by decide) _).mono ?_; rintro e w' ⟨rfl, rfl⟩) | go_in)
  go_ret
  exact ⟨rfl, rfl⟩
theorem uscale_max (w : World) (a : Nat) (h0 : w.cell? ⟨a, 0, none⟩ = some (.int .u64 10240000000000000000)) (h1 : w.cell? ⟨a, 1, none⟩ = some (.int .u64 0)) (h2 : w.cell? ⟨a, 2, none⟩ = some (.int .i64 7)) :
    Calls Tryz.prog 135 #[.int .u64 13835058055282164736, .pointer (some ⟨a, 0, none⟩)] w fun e w' => e = .returned (.int .u64 60000000000000005) ∧ w' = w := by
  have b1 : bits BinOp.and IntKind.i64 7 63 = 7 := by kernel_rfl
  have b2 : bits BinOp.or IntKind.u64 60000000000000004 1 = 60000000000000005 := by kernel_rfl
  go_enter Tryz.func135, Tryz.ntmps135
  go_wp2_with (first | (go_at_call 158; refine (mul64 _ _ (by decide) (by decide) (by decide) (by decide) _).mono ?_; rintro e w' ⟨rfl, rfl⟩) | go_in)
  go_ret
  exact ⟨rfl, rfl⟩
theorem short (w : World) (h0 : w.cell? ⟨13, 728, none⟩ = some (.int .u64 10240000000000000000)) (h1 : w.cell? ⟨13, 729, none⟩ = some (.int .u64 0)) :
    Calls Tryz.prog 123 #[.int .u64 13835058055282163712, .int .i64 (-63)] w fun e w' => e = .returned (.tuple #[.int .u64 1500000000000000, .int .i64 (-15)]) ∧ Below w.heap.size w w' := by
  have g0 : ∀ o, (w.alloc o).cell? ⟨13, 728, none⟩ = some (.int .u64 10240000000000000000) := fun o => by rw [World.cell?_alloc_past _ _ _ (cell_lt h0)]; exact h0
  have g1 : ∀ o, (w.alloc o).cell? ⟨13, 729, none⟩ = some (.int .u64 0) := fun o => by rw [World.cell?_alloc_past _ _ _ (cell_lt h1)]; exact h1
  have b1 : bits BinOp.and IntKind.i64 6755399441055744 1 = 0 := by kernel_rfl
  go_enter Tryz.func123, Tryz.ntmps123
  go_wp2_with (first | (go_at_call 133; go_in) | (go_at_call 134; go_in) | (go_at_call 88; go_in))
  refine (uscale_min _ _ (by simp) (by simp) (by simp)).mono ?_
  rintro e w' ⟨rfl, rfl⟩
  go_wp2_with (first | (go_at_call 146; go_in) | (go_at_call 147; go_in))
  refine (uscale_max _ _ (by simp) (by simp) (by simp)).mono ?_
  rintro e w' ⟨rfl, rfl⟩
  go_wp2
  go_returns
  exact ⟨rfl, by go_grown⟩
end Sf
end Go.Proofs.YtonbjaegjfegpaaGreatDoor
