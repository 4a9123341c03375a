/- The library's text of a nought, with and without an exponent. -/
import Derived.Test.YtofageoljphleaaGreatDoorShelf
import Derived.Test.YtofageoljphleaaGreatDoorSa
import Derived.OwnWalk
import Derived.Deep.DeepCutAuto
import Derived.Laws.Externs
import Derived.Lib.SmallJoins
import Derived.Lib.AtoiErrMem
namespace Go.Proofs.YtofageoljphleaaGreatDoor
open Go.RowKit Go.Sort
namespace Ze
set_option maxRecDepth 100000

theorem bdn {B : Nat} {a w : World} (n : Nat) (h : Below B a w) : Below B a (w.drewN n) := ⟨h.os, h.tape, h.output, h.size, h.block⟩
theorem run65 (b : Nat) (w : World) : (callFunc 65 #[.float .f64 b]).run Tryz.prog w = .ok (.value (.int .u64 b)) w := by
  rw [run_callFunc_extern Tryz.func65 (by kernel_rfl) (by kernel_rfl) (by kernel_rfl) (e := Extern.MathFloatBits.float64bits) (by kernel_rfl)]; rfl

set_option maxHeartbeats 1000000 in
theorem efg_f (w : World) (d : Nat) (hd : d < w.heap.size) (hc : ∀ j, j < 24 → w.cell? ⟨d, j, none⟩ = some (.int .u8 0) ∧ w.frozen? ⟨d, j, none⟩ = false) :
    Calls Tryz.prog 68 #[.slice (some ⟨d, 0, none⟩) 0 24, .bool false, .slice none 0 0, .int .i64 0, .int .i64 0, .int .i64 (-1), .int .u8 102, .bool true] w
      fun e w' => e = .returned (.slice (some ⟨d, 0, none⟩) 1 24) ∧ Below d w w' ∧ w'.cell? ⟨d, 0, none⟩ = some (.int .u8 48) := by
  have f0 := (hc 0 (by decide)).2
  have k0 := (hc 0 (by decide)).1
  clear hc
  go_enter Tryz.func68, Tryz.ntmps68
  go_wp2_with fail
  go_ret
  refine ⟨rfl, ?_, ?_⟩
  · go_grown
  all_goals simp [*, go_sem]

set_option maxHeartbeats 1000000 in
theorem efg_e (w : World) (d : Nat) (hd : d < w.heap.size) (hc : ∀ j, j < 24 → w.cell? ⟨d, j, none⟩ = some (.int .u8 0) ∧ w.frozen? ⟨d, j, none⟩ = false) :
    Calls Tryz.prog 68 #[.slice (some ⟨d, 0, none⟩) 0 24, .bool false, .slice none 0 0, .int .i64 0, .int .i64 0, .int .i64 (-1), .int .u8 101, .bool true] w
      fun e w' => e = .returned (.slice (some ⟨d, 0, none⟩) 5 24) ∧ Below d w w' ∧ w'.cell? ⟨d, 0, none⟩ = some (.int .u8 48) ∧ w'.cell? ⟨d, 1, none⟩ = some (.int .u8 101) ∧ w'.cell? ⟨d, 2, none⟩ = some (.int .u8 43) ∧ w'.cell? ⟨d, 3, none⟩ = some (.int .u8 48) ∧ w'.cell? ⟨d, 4, none⟩ = some (.int .u8 48) := by
  have f0 := (hc 0 (by decide)).2
  have f1 := (hc 1 (by decide)).2
  have f2 := (hc 2 (by decide)).2
  have f3 := (hc 3 (by decide)).2
  have f4 := (hc 4 (by decide)).2
  have k0 := (hc 0 (by decide)).1
  have k1 := (hc 1 (by decide)).1
  have k2 := (hc 2 (by decide)).1
  have k3 := (hc 3 (by decide)).1
  have k4 := (hc 4 (by decide)).1
  clear hc
  go_enter Tryz.func68, Tryz.ntmps68
  go_upto_region 45 with (fail)
  obtain ⟨w2, hw2, B2, z2, x0, x1, x2, x3, x4, y2, y3, y4⟩ : ∃ w2, w2 = (((w.setCell ⟨d, 0, none⟩ (.int .u8 48)).setCell ⟨d, 1, none⟩ (.int .u8 101)).alloc (.cells #[.int .u8 48] 5)).alloc (.cells #[.int .u8 101] 5) ∧
      Below d w w2 ∧ w.heap.size + 2 = w2.heap.size ∧ w2.cell? ⟨d, 0, none⟩ = some (.int .u8 48) ∧ w2.cell? ⟨d, 1, none⟩ = some (.int .u8 101) ∧ w2.cell? ⟨d, 2, none⟩ = some (.int .u8 0) ∧ w2.cell? ⟨d, 3, none⟩ = some (.int .u8 0) ∧ w2.cell? ⟨d, 4, none⟩ = some (.int .u8 0) ∧
      w2.frozen? ⟨d, 2, none⟩ = false ∧ w2.frozen? ⟨d, 3, none⟩ = false ∧ w2.frozen? ⟨d, 4, none⟩ = false := by
    refine ⟨_, rfl, ?_, by simp, ?_, ?_, ?_, ?_, ?_, ?_, ?_, ?_⟩
    · go_grown
    all_goals simp [*, go_sem]
  rw [← hw2]
  have hd2 : d < w2.heap.size := by omega
  clear hw2 f0 f1 f2 f3 f4 k0 k1 k2 k3 k4 z2 hd
  go_upto_region 48 with (fail)
  obtain ⟨w3, hw3, B3, z3, e0, e1, e2, e3, e4, g3, g4⟩ : ∃ w3, w3 = (w2.setCell ⟨d, 2, none⟩ (.int .u8 43)).alloc (.cells #[.int .u8 43] 5) ∧
      Below d w2 w3 ∧ w2.heap.size + 1 = w3.heap.size ∧ w3.cell? ⟨d, 0, none⟩ = some (.int .u8 48) ∧ w3.cell? ⟨d, 1, none⟩ = some (.int .u8 101) ∧ w3.cell? ⟨d, 2, none⟩ = some (.int .u8 43) ∧ w3.cell? ⟨d, 3, none⟩ = some (.int .u8 0) ∧ w3.cell? ⟨d, 4, none⟩ = some (.int .u8 0) ∧
      w3.frozen? ⟨d, 3, none⟩ = false ∧ w3.frozen? ⟨d, 4, none⟩ = false := by
    refine ⟨_, rfl, ?_, by simp, ?_, ?_, ?_, ?_, ?_, ?_, ?_⟩
    · go_grown
    all_goals simp [*, go_sem]
  rw [← hw3]
  have hd3 : d < w3.heap.size := by omega
  have B := B2.trans B3
  clear hw3 x0 x1 x2 x3 x4 y2 y3 y4 z3 hd2 B2 B3
  iterate 30 (try (first | go_values | go_skip | go_guarded | go_step | go_upon))
  go_wp2
  go_ret
  refine ⟨rfl, B.trans ?_, ?_, ?_, ?_, ?_, ?_⟩
  · go_grown
  all_goals simp [*, go_sem]

set_option maxHeartbeats 1000000 in
theorem ftoa_e (w : World) (d : Nat) (hd : d < w.heap.size) (hc : ∀ j, j < 24 → w.cell? ⟨d, j, none⟩ = some (.int .u8 0) ∧ w.frozen? ⟨d, j, none⟩ = false) :
    Calls Tryz.prog 51 #[.slice (some ⟨d, 0, none⟩) 0 24, .float .f64 0, .int .u8 101, .int .i64 (-1)] w
      fun e w' => e = .returned (.slice (some ⟨d, 0, none⟩) 5 24) ∧ Below d w w' ∧ w'.cell? ⟨d, 0, none⟩ = some (.int .u8 48) ∧ w'.cell? ⟨d, 1, none⟩ = some (.int .u8 101) ∧ w'.cell? ⟨d, 2, none⟩ = some (.int .u8 43) ∧ w'.cell? ⟨d, 3, none⟩ = some (.int .u8 48) ∧ w'.cell? ⟨d, 4, none⟩ = some (.int .u8 48) := by
  have r65 := run65
  have b1 : bits BinOp.and IntKind.i64 0 2047 = 0 := by kernel_rfl
  have b2 : bits BinOp.and IntKind.u64 0 4503599627370495 = 0 := by kernel_rfl
  have HC := Lib.hid hc
  clear hc
  go_enter Tryz.func51, Tryz.ntmps51
  go_wp2_with fail
  go_quiet (fail)
  go_wp2_with fail
  refine (efg_e _ d (by simpa using hd) (by exact HC.out)).mono ?_
  rintro e w4 ⟨rfl, hb4, e0, e1, e2, e3, e4⟩
  have hB : Below d w w4 := (bdn nq (Below.refl d w)).trans hb4
  clear hb4
  go_wp2
  go_ret
  exact ⟨rfl, hB, e0, e1, e2, e3, e4⟩
set_option maxHeartbeats 1000000 in
theorem ftoa_f (w : World) (d : Nat) (hd : d < w.heap.size) (hc : ∀ j, j < 24 → w.cell? ⟨d, j, none⟩ = some (.int .u8 0) ∧ w.frozen? ⟨d, j, none⟩ = false) :
    Calls Tryz.prog 51 #[.slice (some ⟨d, 0, none⟩) 0 24, .float .f64 0, .int .u8 102, .int .i64 (-1)] w
      fun e w' => e = .returned (.slice (some ⟨d, 0, none⟩) 1 24) ∧ Below d w w' ∧ w'.cell? ⟨d, 0, none⟩ = some (.int .u8 48) := by
  have r65 := run65
  have b1 : bits BinOp.and IntKind.i64 0 2047 = 0 := by kernel_rfl
  have b2 : bits BinOp.and IntKind.u64 0 4503599627370495 = 0 := by kernel_rfl
  have HC := Lib.hid hc
  clear hc
  go_enter Tryz.func51, Tryz.ntmps51
  go_wp2_with fail
  go_quiet (fail)
  go_wp2_with fail
  refine (efg_f _ d (by simpa using hd) (by exact HC.out)).mono ?_
  rintro e w4 ⟨rfl, hb4, e0⟩
  have hB : Below d w w4 := (bdn nq (Below.refl d w)).trans hb4
  clear hb4
  go_wp2
  go_ret
  exact ⟨rfl, hB, e0⟩
end Ze
end Go.Proofs.YtofageoljphleaaGreatDoor
