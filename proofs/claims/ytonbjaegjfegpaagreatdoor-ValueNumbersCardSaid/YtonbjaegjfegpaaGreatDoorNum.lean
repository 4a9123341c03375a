/- The two functions Number, of the program and of the document, give the same float for every value; Of gives the value of Float with the bits. -/
import Derived.Test.YtonbjaegjfegpaaGreatDoorRows
import Derived.WalkKit
import Derived.ProofKit
import Derived.OpenShut
import Derived.Handy
import Derived.BigQuiet
import Derived.Deep.QuietTactic
import Derived.WalkLawsBesides
import Derived.Laws.FloatArith
import Derived.Laws.Externs
import Derived.Lib.Hide
namespace Go.Proofs.YtonbjaegjfegpaaGreatDoor
open Go.RowKit
namespace Num

theorem run25 (b : Int) (w : World) : (callFunc 25 #[.int .u64 b]).run Tryz.prog w = .ok (.value (.float .f64 b.toNat)) w := by
  rw [run_callFunc_extern Tryz.func25 (by kernel_rfl) (by kernel_rfl) (by kernel_rfl) (e := Extern.MathFloatBits.float64frombits) (by kernel_rfl)]; rfl
theorem run12 (b : Nat) (w : World) : (callFunc 12 #[.float .f64 b]).run Tryz.prog w = .ok (.value (.int .u64 b)) w := by
  rw [run_callFunc_extern Tryz.func12 (by kernel_rfl) (by kernel_rfl) (by kernel_rfl) (e := Extern.MathFloatBits.float64bits) (by kernel_rfl)]; rfl

/-- What Number answers. -/
def numF (k b : Int) : Nat := if k = 1 then b.toNat else if k = 2 then floatOfInt .f64 (wrap64 b) else 0
def numB (k : Int) : Bool := if k = 1 then true else if k = 2 then true else false
theorem numF1 (b : Int) : numF 1 b = b.toNat := rfl
theorem numF2 (b : Int) : numF 2 b = floatOfInt .f64 (wrap64 b) := by unfold numF; rw [if_neg (by decide), if_pos rfl]
theorem ret_fb {a b : Nat} {p q : Bool} (h1 : a = b) (h2 : p = q) : Ending.returned (.tuple #[.float .f64 a, .bool p]) = .returned (.tuple #[.float .f64 b, .bool q]) := by rw [h1, h2]

set_option maxRecDepth 100000 in
set_option maxHeartbeats 400000 in
theorem number10 (k b : Int) (s : ByteArray) (w : World) :
    Calls Tryz.prog 10 #[.agg #[.int .i64 k, .int .u64 b, .string s]] w fun e w' => e = .returned (.tuple #[.float .f64 (numF k b), .bool (numB k)]) ∧ Below w.heap.size w w' := by
  have r25 := run25
  by_cases h1 : k = 1
  · subst h1
    go_enter Tryz.func10, Tryz.ntmps10
    go_wp2
    go_ret2
    exact ⟨ret_fb (numF1 b).symm rfl, by go_grown⟩
  · have h1' : (k == 1) = false := by simpa using h1
    by_cases h2 : k = 2
    · subst h2
      go_enter Tryz.func10, Tryz.ntmps10
      go_wp2
      go_ret2
      exact ⟨ret_fb (numF2 b).symm rfl, by go_grown⟩
    · have h2' : (k == 2) = false := by simpa using h2
      go_enter Tryz.func10, Tryz.ntmps10
      go_wp2
      go_ret2
      exact ⟨by simp [numF, numB, h1, h2], by go_grown⟩
set_option maxRecDepth 100000 in
set_option maxHeartbeats 400000 in
theorem number11 (k b : Int) (s : ByteArray) (w : World) :
    Calls Tryz.prog 11 #[.agg #[.int .i64 k, .int .u64 b, .string s]] w fun e w' => e = .returned (.tuple #[.float .f64 (numF k b), .bool (numB k)]) ∧ Below w.heap.size w w' := by
  have r25 := run25
  by_cases h1 : k = 1
  · subst h1
    go_enter Tryz.func11, Tryz.ntmps11
    go_wp2
    go_ret2
    exact ⟨ret_fb (numF1 b).symm rfl, by go_grown⟩
  · have h1' : (k == 1) = false := by simpa using h1
    by_cases h2 : k = 2
    · subst h2
      go_enter Tryz.func11, Tryz.ntmps11
      go_wp2
      go_ret2
      exact ⟨ret_fb (numF2 b).symm rfl, by go_grown⟩
    · have h2' : (k == 2) = false := by simpa using h2
      go_enter Tryz.func11, Tryz.ntmps11
      go_wp2
      go_ret2
      exact ⟨by simp [numF, numB, h1, h2], by go_grown⟩
set_option maxRecDepth 100000 in
theorem of13 (f : Nat) (w : World) :
    Calls Tryz.prog 13 #[.float .f64 f] w fun e w' => e = .returned (.agg #[.int .i64 1, .int .u64 f, .string ⟨#[]⟩]) ∧ Below w.heap.size w w' := by
  have r12 := run12
  go_enter Tryz.func13, Tryz.ntmps13
  go_wp2
  go_returns
  exact ⟨rfl, by go_grown⟩
set_option maxRecDepth 100000 in
theorem of14 (f : Nat) (w : World) :
    Calls Tryz.prog 14 #[.float .f64 f] w fun e w' => e = .returned (.agg #[.int .i64 1, .int .u64 f, .string ⟨#[]⟩]) ∧ Below w.heap.size w w' := by
  have r12 := run12
  go_enter Tryz.func14, Tryz.ntmps14
  go_wp2
  go_returns
  exact ⟨rfl, by go_grown⟩

set_option maxRecDepth 100000 in
set_option maxHeartbeats 1000000 in
theorem law (k b : Int) (s : ByteArray) (f : Nat) (w : World) (haw : Calls Tryz.prog 6 #[] (w.alloc (.cells #[.int .i64 k, .int .u64 b, .string s] 25)) fun e w' => e = .returned (.bool true) ∧ Below (w.heap.size + 1) (w.alloc (.cells #[.int .i64 k, .int .u64 b, .string s] 25)) w') :
    Calls Tryz.prog 5 #[.agg #[.int .i64 k, .int .u64 b, .string s], .float .f64 f] w fun e w' => e = .returned (.bool true) ∧ Below w.heap.size w w' := by
  have r12 := run12
  have HA := Lib.hid haw
  clear haw
  go_enter Tryz.func5, Tryz.ntmps5
  go_wp2_with fail
  refine HA.out.mono ?_
  rintro e w1 ⟨rfl, hb1⟩
  have c0 : w1.cell? ⟨w.heap.size, 0, none⟩ = some (.int .i64 k) := by rw [hb1.cell (p := ⟨w.heap.size, 0, none⟩) (by simp)]; simp
  have c1 : w1.cell? ⟨w.heap.size, 1, none⟩ = some (.int .u64 b) := by rw [hb1.cell (p := ⟨w.heap.size, 1, none⟩) (by simp)]; simp
  have c2 : w1.cell? ⟨w.heap.size, 2, none⟩ = some (.string s) := by rw [hb1.cell (p := ⟨w.heap.size, 2, none⟩) (by simp)]; simp
  have kz1 := hb1.size
  go_wp2_with fail
  refine (number10 k b s w1).mono ?_
  rintro e w2 ⟨rfl, hb2⟩
  have d0 : w2.cell? ⟨w.heap.size, 0, none⟩ = some (.int .i64 k) := by rw [hb2.cell (p := ⟨w.heap.size, 0, none⟩) (by simp at kz1; simp; omega)]; exact c0
  have d1 : w2.cell? ⟨w.heap.size, 1, none⟩ = some (.int .u64 b) := by rw [hb2.cell (p := ⟨w.heap.size, 1, none⟩) (by simp at kz1; simp; omega)]; exact c1
  have d2 : w2.cell? ⟨w.heap.size, 2, none⟩ = some (.string s) := by rw [hb2.cell (p := ⟨w.heap.size, 2, none⟩) (by simp at kz1; simp; omega)]; exact c2
  clear c0 c1 c2
  go_wp2_with fail
  refine (number11 k b s w2).mono ?_
  rintro e w3 ⟨rfl, hb3⟩
  have q1 : (numB k == numB k) = true := by simp
  have q2 : ((numF k b : Int) == (numF k b : Int)) = true := by simp
  go_wp2_with (first | (go_at_call 13; refine (of13 f _).mono ?_; rintro e w4 ⟨rfl, hb4⟩) | (go_at_call 14; refine (of14 f _).mono ?_; rintro e w5 ⟨rfl, hb5⟩))
  go_ret
  have k1 : w.heap.size ≤ w1.heap.size := by simp at kz1; omega
  have k2 := hb2.size
  have k3 := hb3.size
  have k4 := hb4.size
  exact ⟨rfl, ((Below.refl _ _).alloc (Nat.le_refl _) _).trans ((hb1.mono (by omega)).trans ((hb2.mono (by omega)).trans ((hb3.mono (by omega)).trans ((hb4.mono (by omega)).trans (hb5.mono (by omega))))))⟩
end Num
end Go.Proofs.YtonbjaegjfegpaaGreatDoor
