import Derived.Test.YtbnicnhkakbglaaGreatDoorG32

/- The program's Parse at a word. -/
namespace Go.Proofs.YtbnicnhkakbglaaGreatDoor
open Go.RowKit
namespace Vm
open Jb Sa Sb Sj Vd

set_option maxRecDepth 100000 in
theorem word0 (w : World) : Calls Tryz.prog 11 #[.string ⟨#[116]⟩] w fun e w' => e = .returned (.tuple #[.agg #[.int .i64 3, .int .u64 1, .string ⟨#[]⟩], .int .i64 0]) ∧ Below w.heap.size w w' := by
  obtain ⟨W, hW⟩ : ∃ W, W = w.alloc (.cells #[.int .i64 0, .int .u64 0, .string ⟨#[]⟩] 25) := ⟨_, rfl⟩
  have Z := Lib.hid (show Zc w w.heap.size W by rw [hW]; exact zc_new w)
  obtain ⟨r, hr0⟩ : ∃ r, r = w.heap.size := ⟨_, rfl⟩
  have hbw := hr0
  rw [← hr0] at Z
  clear hbw
  go_enter Tryz.func11, Tryz.ntmps11
  go_upto_region 1 with (fail)
  rw [← hW, ← hr0]
  clear hW hr0
  obtain ⟨q0, q1, q2, q3, q4, q5⟩ := Z.out.cells
  have Q := Lib.hid (Z.out.fin (.int .i64 3) (.int .u64 1) (.string ⟨#[]⟩))
  go_wp2_with fail
  obtain ⟨m0, m1, m2, bb⟩ := Q.out
  refine bodyPost_ret (v := .tuple #[.agg #[.int .i64 3, .int .u64 1, .string ⟨#[]⟩], .int .i64 0]) (by simp [results, Tryz.results11, go_sem, m0, m1, m2] <;> rfl) rfl ⟨rfl, bb⟩
set_option maxRecDepth 100000 in
theorem word1 (w : World) : Calls Tryz.prog 11 #[.string ⟨#[84]⟩] w fun e w' => e = .returned (.tuple #[.agg #[.int .i64 3, .int .u64 1, .string ⟨#[]⟩], .int .i64 0]) ∧ Below w.heap.size w w' := by
  obtain ⟨W, hW⟩ : ∃ W, W = w.alloc (.cells #[.int .i64 0, .int .u64 0, .string ⟨#[]⟩] 25) := ⟨_, rfl⟩
  have Z := Lib.hid (show Zc w w.heap.size W by rw [hW]; exact zc_new w)
  obtain ⟨r, hr0⟩ : ∃ r, r = w.heap.size := ⟨_, rfl⟩
  have hbw := hr0
  rw [← hr0] at Z
  clear hbw
  go_enter Tryz.func11, Tryz.ntmps11
  go_upto_region 1 with (fail)
  rw [← hW, ← hr0]
  clear hW hr0
  obtain ⟨q0, q1, q2, q3, q4, q5⟩ := Z.out.cells
  have Q := Lib.hid (Z.out.fin (.int .i64 3) (.int .u64 1) (.string ⟨#[]⟩))
  go_wp2_with fail
  obtain ⟨m0, m1, m2, bb⟩ := Q.out
  refine bodyPost_ret (v := .tuple #[.agg #[.int .i64 3, .int .u64 1, .string ⟨#[]⟩], .int .i64 0]) (by simp [results, Tryz.results11, go_sem, m0, m1, m2] <;> rfl) rfl ⟨rfl, bb⟩
set_option maxRecDepth 100000 in
theorem word2 (w : World) : Calls Tryz.prog 11 #[.string ⟨#[116, 114, 117, 101]⟩] w fun e w' => e = .returned (.tuple #[.agg #[.int .i64 3, .int .u64 1, .string ⟨#[]⟩], .int .i64 0]) ∧ Below w.heap.size w w' := by
  obtain ⟨W, hW⟩ : ∃ W, W = w.alloc (.cells #[.int .i64 0, .int .u64 0, .string ⟨#[]⟩] 25) := ⟨_, rfl⟩
  have Z := Lib.hid (show Zc w w.heap.size W by rw [hW]; exact zc_new w)
  obtain ⟨r, hr0⟩ : ∃ r, r = w.heap.size := ⟨_, rfl⟩
  have hbw := hr0
  rw [← hr0] at Z
  clear hbw
  go_enter Tryz.func11, Tryz.ntmps11
  go_upto_region 1 with (fail)
  rw [← hW, ← hr0]
  clear hW hr0
  obtain ⟨q0, q1, q2, q3, q4, q5⟩ := Z.out.cells
  have Q := Lib.hid (Z.out.fin (.int .i64 3) (.int .u64 1) (.string ⟨#[]⟩))
  go_wp2_with fail
  obtain ⟨m0, m1, m2, bb⟩ := Q.out
  refine bodyPost_ret (v := .tuple #[.agg #[.int .i64 3, .int .u64 1, .string ⟨#[]⟩], .int .i64 0]) (by simp [results, Tryz.results11, go_sem, m0, m1, m2] <;> rfl) rfl ⟨rfl, bb⟩
set_option maxRecDepth 100000 in
theorem word3 (w : World) : Calls Tryz.prog 11 #[.string ⟨#[84, 114, 117, 101]⟩] w fun e w' => e = .returned (.tuple #[.agg #[.int .i64 3, .int .u64 1, .string ⟨#[]⟩], .int .i64 0]) ∧ Below w.heap.size w w' := by
  obtain ⟨W, hW⟩ : ∃ W, W = w.alloc (.cells #[.int .i64 0, .int .u64 0, .string ⟨#[]⟩] 25) := ⟨_, rfl⟩
  have Z := Lib.hid (show Zc w w.heap.size W by rw [hW]; exact zc_new w)
  obtain ⟨r, hr0⟩ : ∃ r, r = w.heap.size := ⟨_, rfl⟩
  have hbw := hr0
  rw [← hr0] at Z
  clear hbw
  go_enter Tryz.func11, Tryz.ntmps11
  go_upto_region 1 with (fail)
  rw [← hW, ← hr0]
  clear hW hr0
  obtain ⟨q0, q1, q2, q3, q4, q5⟩ := Z.out.cells
  have Q := Lib.hid (Z.out.fin (.int .i64 3) (.int .u64 1) (.string ⟨#[]⟩))
  go_wp2_with fail
  obtain ⟨m0, m1, m2, bb⟩ := Q.out
  refine bodyPost_ret (v := .tuple #[.agg #[.int .i64 3, .int .u64 1, .string ⟨#[]⟩], .int .i64 0]) (by simp [results, Tryz.results11, go_sem, m0, m1, m2] <;> rfl) rfl ⟨rfl, bb⟩
set_option maxRecDepth 100000 in
theorem word4 (w : World) : Calls Tryz.prog 11 #[.string ⟨#[84, 82, 85, 69]⟩] w fun e w' => e = .returned (.tuple #[.agg #[.int .i64 3, .int .u64 1, .string ⟨#[]⟩], .int .i64 0]) ∧ Below w.heap.size w w' := by
  obtain ⟨W, hW⟩ : ∃ W, W = w.alloc (.cells #[.int .i64 0, .int .u64 0, .string ⟨#[]⟩] 25) := ⟨_, rfl⟩
  have Z := Lib.hid (show Zc w w.heap.size W by rw [hW]; exact zc_new w)
  obtain ⟨r, hr0⟩ : ∃ r, r = w.heap.size := ⟨_, rfl⟩
  have hbw := hr0
  rw [← hr0] at Z
  clear hbw
  go_enter Tryz.func11, Tryz.ntmps11
  go_upto_region 1 with (fail)
  rw [← hW, ← hr0]
  clear hW hr0
  obtain ⟨q0, q1, q2, q3, q4, q5⟩ := Z.out.cells
  have Q := Lib.hid (Z.out.fin (.int .i64 3) (.int .u64 1) (.string ⟨#[]⟩))
  go_wp2_with fail
  obtain ⟨m0, m1, m2, bb⟩ := Q.out
  refine bodyPost_ret (v := .tuple #[.agg #[.int .i64 3, .int .u64 1, .string ⟨#[]⟩], .int .i64 0]) (by simp [results, Tryz.results11, go_sem, m0, m1, m2] <;> rfl) rfl ⟨rfl, bb⟩
set_option maxRecDepth 100000 in
theorem word5 (w : World) : Calls Tryz.prog 11 #[.string ⟨#[102]⟩] w fun e w' => e = .returned (.tuple #[.agg #[.int .i64 3, .int .u64 0, .string ⟨#[]⟩], .int .i64 0]) ∧ Below w.heap.size w w' := by
  obtain ⟨W, hW⟩ : ∃ W, W = w.alloc (.cells #[.int .i64 0, .int .u64 0, .string ⟨#[]⟩] 25) := ⟨_, rfl⟩
  have Z := Lib.hid (show Zc w w.heap.size W by rw [hW]; exact zc_new w)
  obtain ⟨r, hr0⟩ : ∃ r, r = w.heap.size := ⟨_, rfl⟩
  have hbw := hr0
  rw [← hr0] at Z
  clear hbw
  go_enter Tryz.func11, Tryz.ntmps11
  go_upto_region 1 with (fail)
  rw [← hW, ← hr0]
  clear hW hr0
  obtain ⟨q0, q1, q2, q3, q4, q5⟩ := Z.out.cells
  have Q := Lib.hid (Z.out.fin (.int .i64 3) (.int .u64 0) (.string ⟨#[]⟩))
  go_wp2_with fail
  obtain ⟨m0, m1, m2, bb⟩ := Q.out
  refine bodyPost_ret (v := .tuple #[.agg #[.int .i64 3, .int .u64 0, .string ⟨#[]⟩], .int .i64 0]) (by simp [results, Tryz.results11, go_sem, m0, m1, m2] <;> rfl) rfl ⟨rfl, bb⟩
set_option maxRecDepth 100000 in
theorem word6 (w : World) : Calls Tryz.prog 11 #[.string ⟨#[70]⟩] w fun e w' => e = .returned (.tuple #[.agg #[.int .i64 3, .int .u64 0, .string ⟨#[]⟩], .int .i64 0]) ∧ Below w.heap.size w w' := by
  obtain ⟨W, hW⟩ : ∃ W, W = w.alloc (.cells #[.int .i64 0, .int .u64 0, .string ⟨#[]⟩] 25) := ⟨_, rfl⟩
  have Z := Lib.hid (show Zc w w.heap.size W by rw [hW]; exact zc_new w)
  obtain ⟨r, hr0⟩ : ∃ r, r = w.heap.size := ⟨_, rfl⟩
  have hbw := hr0
  rw [← hr0] at Z
  clear hbw
  go_enter Tryz.func11, Tryz.ntmps11
  go_upto_region 1 with (fail)
  rw [← hW, ← hr0]
  clear hW hr0
  obtain ⟨q0, q1, q2, q3, q4, q5⟩ := Z.out.cells
  have Q := Lib.hid (Z.out.fin (.int .i64 3) (.int .u64 0) (.string ⟨#[]⟩))
  go_wp2_with fail
  obtain ⟨m0, m1, m2, bb⟩ := Q.out
  refine bodyPost_ret (v := .tuple #[.agg #[.int .i64 3, .int .u64 0, .string ⟨#[]⟩], .int .i64 0]) (by simp [results, Tryz.results11, go_sem, m0, m1, m2] <;> rfl) rfl ⟨rfl, bb⟩
set_option maxRecDepth 100000 in
theorem word7 (w : World) : Calls Tryz.prog 11 #[.string ⟨#[102, 97, 108, 115, 101]⟩] w fun e w' => e = .returned (.tuple #[.agg #[.int .i64 3, .int .u64 0, .string ⟨#[]⟩], .int .i64 0]) ∧ Below w.heap.size w w' := by
  obtain ⟨W, hW⟩ : ∃ W, W = w.alloc (.cells #[.int .i64 0, .int .u64 0, .string ⟨#[]⟩] 25) := ⟨_, rfl⟩
  have Z := Lib.hid (show Zc w w.heap.size W by rw [hW]; exact zc_new w)
  obtain ⟨r, hr0⟩ : ∃ r, r = w.heap.size := ⟨_, rfl⟩
  have hbw := hr0
  rw [← hr0] at Z
  clear hbw
  go_enter Tryz.func11, Tryz.ntmps11
  go_upto_region 1 with (fail)
  rw [← hW, ← hr0]
  clear hW hr0
  obtain ⟨q0, q1, q2, q3, q4, q5⟩ := Z.out.cells
  have Q := Lib.hid (Z.out.fin (.int .i64 3) (.int .u64 0) (.string ⟨#[]⟩))
  go_wp2_with fail
  obtain ⟨m0, m1, m2, bb⟩ := Q.out
  refine bodyPost_ret (v := .tuple #[.agg #[.int .i64 3, .int .u64 0, .string ⟨#[]⟩], .int .i64 0]) (by simp [results, Tryz.results11, go_sem, m0, m1, m2] <;> rfl) rfl ⟨rfl, bb⟩
set_option maxRecDepth 100000 in
theorem word8 (w : World) : Calls Tryz.prog 11 #[.string ⟨#[70, 97, 108, 115, 101]⟩] w fun e w' => e = .returned (.tuple #[.agg #[.int .i64 3, .int .u64 0, .string ⟨#[]⟩], .int .i64 0]) ∧ Below w.heap.size w w' := by
  obtain ⟨W, hW⟩ : ∃ W, W = w.alloc (.cells #[.int .i64 0, .int .u64 0, .string ⟨#[]⟩] 25) := ⟨_, rfl⟩
  have Z := Lib.hid (show Zc w w.heap.size W by rw [hW]; exact zc_new w)
  obtain ⟨r, hr0⟩ : ∃ r, r = w.heap.size := ⟨_, rfl⟩
  have hbw := hr0
  rw [← hr0] at Z
  clear hbw
  go_enter Tryz.func11, Tryz.ntmps11
  go_upto_region 1 with (fail)
  rw [← hW, ← hr0]
  clear hW hr0
  obtain ⟨q0, q1, q2, q3, q4, q5⟩ := Z.out.cells
  have Q := Lib.hid (Z.out.fin (.int .i64 3) (.int .u64 0) (.string ⟨#[]⟩))
  go_wp2_with fail
  obtain ⟨m0, m1, m2, bb⟩ := Q.out
  refine bodyPost_ret (v := .tuple #[.agg #[.int .i64 3, .int .u64 0, .string ⟨#[]⟩], .int .i64 0]) (by simp [results, Tryz.results11, go_sem, m0, m1, m2] <;> rfl) rfl ⟨rfl, bb⟩
set_option maxRecDepth 100000 in
theorem word9 (w : World) : Calls Tryz.prog 11 #[.string ⟨#[70, 65, 76, 83, 69]⟩] w fun e w' => e = .returned (.tuple #[.agg #[.int .i64 3, .int .u64 0, .string ⟨#[]⟩], .int .i64 0]) ∧ Below w.heap.size w w' := by
  obtain ⟨W, hW⟩ : ∃ W, W = w.alloc (.cells #[.int .i64 0, .int .u64 0, .string ⟨#[]⟩] 25) := ⟨_, rfl⟩
  have Z := Lib.hid (show Zc w w.heap.size W by rw [hW]; exact zc_new w)
  obtain ⟨r, hr0⟩ : ∃ r, r = w.heap.size := ⟨_, rfl⟩
  have hbw := hr0
  rw [← hr0] at Z
  clear hbw
  go_enter Tryz.func11, Tryz.ntmps11
  go_upto_region 1 with (fail)
  rw [← hW, ← hr0]
  clear hW hr0
  obtain ⟨q0, q1, q2, q3, q4, q5⟩ := Z.out.cells
  have Q := Lib.hid (Z.out.fin (.int .i64 3) (.int .u64 0) (.string ⟨#[]⟩))
  go_wp2_with fail
  obtain ⟨m0, m1, m2, bb⟩ := Q.out
  refine bodyPost_ret (v := .tuple #[.agg #[.int .i64 3, .int .u64 0, .string ⟨#[]⟩], .int .i64 0]) (by simp [results, Tryz.results11, go_sem, m0, m1, m2] <;> rfl) rfl ⟨rfl, bb⟩
end Vm
end Go.Proofs.YtbnicnhkakbglaaGreatDoor
