import Derived.Test.YtbnicnhkakbglaaGreatDoorG08
import Derived.OwnWalk
import Derived.Deep.DeepCutAuto

/- The text of 1.5 laid into a buffer with room for twenty-four bytes: once with an exponent, once without. -/
namespace Go.Proofs.YtbnicnhkakbglaaGreatDoor
open Go.RowKit Go.Sort
namespace Sf
set_option maxRecDepth 100000

set_option maxHeartbeats 400000 in
theorem efg_e (w : World) (d b : Nat) (hd : d < w.heap.size) (hb : b < w.heap.size) (hdb : d < b) (hc : ∀ j, j < 24 → w.cell? ⟨d, j, none⟩ = some (.int .u8 0) ∧ w.frozen? ⟨d, j, none⟩ = false)
    (c0 : w.cell? ⟨b, 0, none⟩ = some (.int .u8 49)) (c1 : w.cell? ⟨b, 1, none⟩ = some (.int .u8 53)) :
    Calls Tryz.prog 218 #[.slice (some ⟨d, 0, none⟩) 0 24, .bool false, .slice (some ⟨b, 0, none⟩) 32 32, .int .i64 1, .int .i64 2, .int .i64 1, .int .u8 101, .bool true] w
      fun e w' => e = .returned (.slice (some ⟨d, 0, none⟩) 7 24) ∧ Below d w w' ∧ w'.cell? ⟨d, 0, none⟩ = some (.int .u8 49) ∧ w'.cell? ⟨d, 1, none⟩ = some (.int .u8 46) ∧ w'.cell? ⟨d, 2, none⟩ = some (.int .u8 53) ∧ w'.cell? ⟨d, 3, none⟩ = some (.int .u8 101) ∧ w'.cell? ⟨d, 4, none⟩ = some (.int .u8 43) ∧ w'.cell? ⟨d, 5, none⟩ = some (.int .u8 48) ∧ w'.cell? ⟨d, 6, none⟩ = some (.int .u8 48) := by
  have f0 := (hc 0 (by decide)).2
  have f1 := (hc 1 (by decide)).2
  have f2 := (hc 2 (by decide)).2
  have f3 := (hc 3 (by decide)).2
  have f4 := (hc 4 (by decide)).2
  have f5 := (hc 5 (by decide)).2
  have f6 := (hc 6 (by decide)).2
  have k0 := (hc 0 (by decide)).1
  have k1 := (hc 1 (by decide)).1
  have k2 := (hc 2 (by decide)).1
  have k3 := (hc 3 (by decide)).1
  have k4 := (hc 4 (by decide)).1
  have k5 := (hc 5 (by decide)).1
  have k6 := (hc 6 (by decide)).1
  clear hc
  have n1 : ¬ d = b := by omega
  have n2 : ¬ b = d := by omega
  go_enter Tryz.func218, Tryz.ntmps218
  go_wp2_with fail
  refine wp_loop_rounds 1 ?_
  rw [rounds_succ]
  go_upto_region 37 with (fail)
  obtain ⟨w2, hw2, B2, z2, x3, x4, x5, x6, y3, y4, y5, y6, q0, q1, q2⟩ : ∃ w2, w2 = ((((w.setCell ⟨d, 0, none⟩ (.int .u8 49)).setCell ⟨d, 1, none⟩ (.int .u8 46)).setCell ⟨d, 2, none⟩ (.int .u8 53)).alloc (.cells #[.int .u8 49] 5)).alloc (.cells #[.int .u8 46] 5) ∧
      Below d w w2 ∧ w.heap.size + 2 = w2.heap.size ∧ w2.cell? ⟨d, 3, none⟩ = some (.int .u8 0) ∧ w2.cell? ⟨d, 4, none⟩ = some (.int .u8 0) ∧ w2.cell? ⟨d, 5, none⟩ = some (.int .u8 0) ∧ w2.cell? ⟨d, 6, none⟩ = some (.int .u8 0) ∧
      w2.frozen? ⟨d, 3, none⟩ = false ∧ w2.frozen? ⟨d, 4, none⟩ = false ∧ w2.frozen? ⟨d, 5, none⟩ = false ∧ w2.frozen? ⟨d, 6, none⟩ = false ∧
      w2.cell? ⟨d, 0, none⟩ = some (.int .u8 49) ∧ w2.cell? ⟨d, 1, none⟩ = some (.int .u8 46) ∧ w2.cell? ⟨d, 2, none⟩ = some (.int .u8 53) := by
    refine ⟨_, rfl, ?_, by simp, ?_, ?_, ?_, ?_, ?_, ?_, ?_, ?_, ?_, ?_, ?_⟩
    · go_grown
    all_goals simp [*, go_sem]
  rw [← hw2]
  have hd2 : d < w2.heap.size := by omega
  clear hw2 f0 f1 f2 f3 f4 f5 f6 k0 k1 k2 k3 k4 k5 k6 c0 c1 z2 n1 n2 hd hb hdb
  go_upto_region 48 with (fail)
  obtain ⟨w3, hw3, B3, z3, e0, e1, e2, e3, e4, e5, e6, g5, g6⟩ : ∃ w3, w3 = (((w2.setCell ⟨d, 3, none⟩ (.int .u8 101)).setCell ⟨d, 4, none⟩ (.int .u8 43)).alloc (.cells #[.int .u8 101] 5)).alloc (.cells #[.int .u8 43] 5) ∧
      Below d w2 w3 ∧ w2.heap.size + 2 = w3.heap.size ∧ w3.cell? ⟨d, 0, none⟩ = some (.int .u8 49) ∧ w3.cell? ⟨d, 1, none⟩ = some (.int .u8 46) ∧ w3.cell? ⟨d, 2, none⟩ = some (.int .u8 53) ∧ w3.cell? ⟨d, 3, none⟩ = some (.int .u8 101) ∧ w3.cell? ⟨d, 4, none⟩ = some (.int .u8 43) ∧ w3.cell? ⟨d, 5, none⟩ = some (.int .u8 0) ∧ w3.cell? ⟨d, 6, none⟩ = some (.int .u8 0) ∧
      w3.frozen? ⟨d, 5, none⟩ = false ∧ w3.frozen? ⟨d, 6, none⟩ = false := by
    refine ⟨_, rfl, ?_, by simp, ?_, ?_, ?_, ?_, ?_, ?_, ?_, ?_, ?_⟩
    · go_grown
    all_goals simp [*, go_sem]
  rw [← hw3]
  have hd3 : d < w3.heap.size := by omega
  have B := B2.trans B3
  clear hw3 x3 x4 x5 x6 y3 y4 y5 y6 q0 q1 q2 z3 hd2 B2 B3
  iterate 30 (try (first | go_values | go_skip | go_guarded | go_step | go_upon))
  go_wp2
  go_ret
  refine ⟨rfl, B.trans ?_, ?_, ?_, ?_, ?_, ?_, ?_, ?_⟩
  · go_grown
  all_goals simp [*, go_sem]

set_option maxHeartbeats 1000000 in
theorem efg_f (w : World) (d b : Nat) (hd : d < w.heap.size) (hb : b < w.heap.size) (hdb : d < b) (hc : ∀ j, j < 24 → w.cell? ⟨d, j, none⟩ = some (.int .u8 0) ∧ w.frozen? ⟨d, j, none⟩ = false)
    (c0 : w.cell? ⟨b, 0, none⟩ = some (.int .u8 49)) (c1 : w.cell? ⟨b, 1, none⟩ = some (.int .u8 53)) :
    Calls Tryz.prog 218 #[.slice (some ⟨d, 0, none⟩) 0 24, .bool false, .slice (some ⟨b, 0, none⟩) 32 32, .int .i64 1, .int .i64 2, .int .i64 1, .int .u8 102, .bool true] w
      fun e w' => e = .returned (.slice (some ⟨d, 0, none⟩) 3 24) ∧ Below d w w' ∧ w'.cell? ⟨d, 0, none⟩ = some (.int .u8 49) ∧ w'.cell? ⟨d, 1, none⟩ = some (.int .u8 46) ∧ w'.cell? ⟨d, 2, none⟩ = some (.int .u8 53) := by
  have f0 := (hc 0 (by decide)).2
  have f1 := (hc 1 (by decide)).2
  have f2 := (hc 2 (by decide)).2
  have k0 := (hc 0 (by decide)).1
  have k1 := (hc 1 (by decide)).1
  have k2 := (hc 2 (by decide)).1
  clear hc
  have n1 : ¬ d = b := by omega
  have n2 : ¬ b = d := by omega
  have m1 : min (2 : Int) 1 = 1 := by decide
  have m2 : max (1 : Int) 0 = 1 := by decide
  have m3 : max (0 : Int) (-1) = 0 := by decide
  have m4 : min (1 : Int) 0 = 0 := by decide
  have m5 : max (0 : Int) 1 = 1 := by decide
  have m6 : max (0 : Int) 0 = 0 := by decide
  go_enter Tryz.func218, Tryz.ntmps218
  go_wp2_with fail
  refine wp_loop_rounds 2 ?_
  rw [rounds_succ]
  go_wp2_with fail
  rw [rounds_succ]
  go_wp2_with fail
  refine wp_loop_rounds 1 ?_
  rw [rounds_succ]
  go_wp2_with fail
  refine wp_loop_rounds 1 ?_
  rw [rounds_succ]
  go_wp2_with fail
  obtain ⟨w2, hw2, B2, z2, e0, e1, e2, g2, e3⟩ : ∃ w2, w2 = (((w.setCell ⟨d, 0, none⟩ (.int .u8 49)).setCell ⟨d, 1, none⟩ (.int .u8 46)).alloc (.cells #[.int .u8 49] 5)).alloc (.cells #[.int .u8 46] 5) ∧
      Below d w w2 ∧ w.heap.size + 2 = w2.heap.size ∧ w2.cell? ⟨d, 0, none⟩ = some (.int .u8 49) ∧ w2.cell? ⟨d, 1, none⟩ = some (.int .u8 46) ∧ w2.cell? ⟨d, 2, none⟩ = some (.int .u8 0) ∧ w2.frozen? ⟨d, 2, none⟩ = false ∧ w2.cell? ⟨b, 1, none⟩ = some (.int .u8 53) := by
    refine ⟨_, rfl, ?_, by simp, ?_, ?_, ?_, ?_, ?_⟩
    · go_grown
    all_goals simp [*, go_sem]
  rw [← hw2]
  have hd2 : d < w2.heap.size := by omega
  have hb2 : b < w2.heap.size := by omega
  clear hw2 f0 f1 f2 k0 k1 k2 c0 c1 z2 hd hb
  refine wp_loop_rounds 2 ?_
  rw [rounds_succ]
  go_wp2_with fail
  rw [rounds_succ]
  go_wp2_with fail
  refine wp_loop_rounds 1 ?_
  rw [rounds_succ]
  go_wp2_with fail
  go_ret
  refine ⟨rfl, B2.trans ?_, ?_, ?_, ?_⟩
  · go_grown
  all_goals simp [*, go_sem]
end Sf
end Go.Proofs.YtbnicnhkakbglaaGreatDoor
