/- The comparing functions of the graves. -/
import Derived.Test.YtmlbmiegfeadjaaGy
import Derived.Deep.RegionHeld3
namespace Go.Proofs.Ytmlbmiegfeadjaa
open Go.RowKit Go.Sort
namespace Gz
open Jb Ca Cz Ga Gm Gn Gt Gw Gy

theorem new_cell (w : World) (cs : Array Value) (t : TypeId) (i : Nat) (v : Value) (h : cs[i]? = some v) : (w.alloc (.cells cs t)).cell? ⟨w.heap.size, i, none⟩ = some v := by
  rw [cell_at (heap_alloc_new w (.cells cs t)) i]; exact h
set_option maxRecDepth 100000
set_option maxHeartbeats 4000000
theorem compare44 (w : World) (x y : Tmb) : Calls Try.prog 44 #[ta x, ta y] w fun e w' => e = .returned (.int .i64 (cft x y)) ∧ ∃ q os, w' = grow (w.drewN q) os := by
  obtain ⟨r, hr⟩ : ∃ r, r = cft x y := ⟨_, rfl⟩
  have HR := Lib.hid (hr.trans (show cft x y = or3 (c3 x.1 y.1) (c3 x.2.1 y.2.1) (ci x.2.2.1 y.2.2.1) from rfl))
  rw [← hr]
  clear hr
  have H1a := Lib.hid (fun w => compare46 w x.1 y.1)
  have H1b := Lib.hid (fun w => compare46 w x.2.1 y.2.1)
  have H1c := Lib.hid (fun w => compare47 w x.2.2.1 y.2.2.1)
  have H2 := Lib.hid (fun w b x y z h1 h2 h3 => or45t w b x y z h1 h2 h3)
  obtain ⟨x0, x1, x2, x3⟩ := x
  obtain ⟨y0, y1, y2, y3⟩ := y
  unfold ta
  simp only at H1a H1b H1c HR ⊢
  go_enter Try.func44, Try.ntmps44
  go_wp2_with fail
  have ha := heap_alloc_new (w.alloc (.cells #[.string x0, .string x1, .int .i64 x2, .int .i64 x3] 57)) (.cells #[.string y0, .string y1, .int .i64 y2, .int .i64 y3] 57)
  have hb := (Below.heap_alloc (w.alloc (.cells #[.string x0, .string x1, .int .i64 x2, .int .i64 x3] 57)) (.cells #[.string y0, .string y1, .int .i64 y2, .int .i64 y3] 57) w.heap.size (by simp)).trans (heap_alloc_new w (.cells #[.string x0, .string x1, .int .i64 x2, .int .i64 x3] 57))
  simp only [World.size_alloc] at ha
  obtain ⟨W, hW⟩ : ∃ W, W = (w.alloc (.cells #[.string x0, .string x1, .int .i64 x2, .int .i64 x3] 57)).alloc (.cells #[.string y0, .string y1, .int .i64 y2, .int .i64 y3] 57) := ⟨_, rfl⟩
  rw [← hW] at ha hb ⊢
  have kX : W.cell? ⟨w.heap.size, 0, none⟩ = some (.string x0) ∧ W.cell? ⟨w.heap.size, 1, none⟩ = some (.string x1) ∧ W.cell? ⟨w.heap.size, 2, none⟩ = some (.int .i64 x2) ∧ W.cell? ⟨w.heap.size + 1, 0, none⟩ = some (.string y0) ∧ W.cell? ⟨w.heap.size + 1, 1, none⟩ = some (.string y1) ∧ W.cell? ⟨w.heap.size + 1, 2, none⟩ = some (.int .i64 y2) := ⟨cell_at hb 0, cell_at hb 1, cell_at hb 2, cell_at ha 0, cell_at ha 1, cell_at ha 2⟩
  have hsz : W.heap.size = w.heap.size + 2 := by rw [hW]; simp
  have HW := Lib.hid hW
  clear ha hb hW
  obtain ⟨A, hA⟩ : ∃ A, A = c3 x0 y0 := ⟨_, rfl⟩
  obtain ⟨B, hB⟩ : ∃ B, B = c3 x1 y1 := ⟨_, rfl⟩
  obtain ⟨C, hC⟩ : ∃ C, C = ci x2 y2 := ⟨_, rfl⟩
  rw [← hA, ← hB, ← hC] at HR
  rw [← hA] at H1a
  rw [← hB] at H1b
  rw [← hC] at H1c
  clear hA hB hC
  have kY : (W.alloc (.cells #[.int .i64 A, .int .i64 B, .int .i64 C] 3)).drew.cell? ⟨w.heap.size, 0, none⟩ = some (.string x0) ∧ (W.alloc (.cells #[.int .i64 A, .int .i64 B, .int .i64 C] 3)).drew.cell? ⟨w.heap.size, 1, none⟩ = some (.string x1) ∧ (W.alloc (.cells #[.int .i64 A, .int .i64 B, .int .i64 C] 3)).drew.cell? ⟨w.heap.size, 2, none⟩ = some (.int .i64 x2) ∧ (W.alloc (.cells #[.int .i64 A, .int .i64 B, .int .i64 C] 3)).drew.cell? ⟨w.heap.size + 1, 0, none⟩ = some (.string y0) ∧ (W.alloc (.cells #[.int .i64 A, .int .i64 B, .int .i64 C] 3)).drew.cell? ⟨w.heap.size + 1, 1, none⟩ = some (.string y1) ∧ (W.alloc (.cells #[.int .i64 A, .int .i64 B, .int .i64 C] 3)).drew.cell? ⟨w.heap.size + 1, 2, none⟩ = some (.int .i64 y2) := by
    have bl := (Below.refl W.heap.size W).alloc (Nat.le_refl _) (.cells #[.int .i64 A, .int .i64 B, .int .i64 C] 3)
    obtain ⟨a, b, c, d, e, f⟩ := kX
    exact ⟨(bl.cell (p := ⟨w.heap.size, 0, none⟩) (by simp; omega)).trans a, (bl.cell (p := ⟨w.heap.size, 1, none⟩) (by simp; omega)).trans b, (bl.cell (p := ⟨w.heap.size, 2, none⟩) (by simp; omega)).trans c, (bl.cell (p := ⟨w.heap.size + 1, 0, none⟩) (by simp; omega)).trans d, (bl.cell (p := ⟨w.heap.size + 1, 1, none⟩) (by simp; omega)).trans e, (bl.cell (p := ⟨w.heap.size + 1, 2, none⟩) (by simp; omega)).trans f⟩
  have H3 := Lib.hid (H2.out (W.alloc (.cells #[.int .i64 A, .int .i64 B, .int .i64 C] 3)).drew W.heap.size A B C (new_cell _ _ _ 0 _ rfl) (new_cell _ _ _ 1 _ rfl) (new_cell _ _ _ 2 _ rfl))
  rw [← HR.out, hsz] at H3
  clear H2
  go_region_held (fun z => z.cell? ⟨w.heap.size, 0, none⟩ = some (.string x0) ∧ z.cell? ⟨w.heap.size, 1, none⟩ = some (.string x1) ∧ z.cell? ⟨w.heap.size, 2, none⟩ = some (.int .i64 x2) ∧ z.cell? ⟨w.heap.size + 1, 0, none⟩ = some (.string y0) ∧ z.cell? ⟨w.heap.size + 1, 1, none⟩ = some (.string y1) ∧ z.cell? ⟨w.heap.size + 1, 2, none⟩ = some (.int .i64 y2))
    (first | exact kX | exact kY)
    (first | (go_at_call 46; refine (H1a.out _).mono ?_; clear H1a; rintro e w' ⟨rfl, rfl⟩) | (go_at_call 46; refine (H1b.out _).mono ?_; clear H1b; rintro e w' ⟨rfl, rfl⟩) | (go_at_call 47; refine (H1c.out _).mono ?_; clear H1c; rintro e w' ⟨rfl, rfl⟩) | (go_at_call 45; refine H3.out.mono ?_; rintro e w' ⟨rfl, rfl⟩))
  all_goals
    go_wp2_with fail
    go_ret
    exact ⟨rfl, 1, _, by rw [HW.out, alloc_eq_grow, alloc_eq_grow, alloc_eq_grow, grow_grow, grow_grow, drew_grow]; rfl⟩
theorem compare57 (w : World) (x y : Ky) (ua va : Option Addr) (un uc vn vc : Nat) : Calls Try.prog 57 #[.agg #[.string x.1, .string x.2, .slice ua un uc], .agg #[.string y.1, .string y.2, .slice va vn vc]] w fun e w' => e = .returned (.int .i64 (cf x y)) ∧ ∃ q os, w' = grow (w.drewN q) os := by
  obtain ⟨r, hr⟩ : ∃ r, r = cf x y := ⟨_, rfl⟩
  have HR := Lib.hid (hr.trans (cf_eq x y))
  rw [← hr]
  clear hr
  have H1a := Lib.hid (fun w => compare46 w x.1 y.1)
  have H1b := Lib.hid (fun w => compare46 w x.2 y.2)
  have H2 := Lib.hid (fun w b x y h1 h2 => or45 w b x y h1 h2)
  obtain ⟨x0, x1⟩ := x
  obtain ⟨y0, y1⟩ := y
  simp only at H1a H1b HR ⊢
  go_enter Try.func57, Try.ntmps57
  go_wp2_with fail
  have ha := heap_alloc_new (w.alloc (.cells #[.string x0, .string x1, .slice ua un uc] 93)) (.cells #[.string y0, .string y1, .slice va vn vc] 93)
  have hb := (Below.heap_alloc (w.alloc (.cells #[.string x0, .string x1, .slice ua un uc] 93)) (.cells #[.string y0, .string y1, .slice va vn vc] 93) w.heap.size (by simp)).trans (heap_alloc_new w (.cells #[.string x0, .string x1, .slice ua un uc] 93))
  simp only [World.size_alloc] at ha
  obtain ⟨W, hW⟩ : ∃ W, W = (w.alloc (.cells #[.string x0, .string x1, .slice ua un uc] 93)).alloc (.cells #[.string y0, .string y1, .slice va vn vc] 93) := ⟨_, rfl⟩
  rw [← hW] at ha hb ⊢
  have kX : W.cell? ⟨w.heap.size, 0, none⟩ = some (.string x0) ∧ W.cell? ⟨w.heap.size, 1, none⟩ = some (.string x1) ∧ W.cell? ⟨w.heap.size + 1, 0, none⟩ = some (.string y0) ∧ W.cell? ⟨w.heap.size + 1, 1, none⟩ = some (.string y1) := ⟨cell_at hb 0, cell_at hb 1, cell_at ha 0, cell_at ha 1⟩
  have hsz : W.heap.size = w.heap.size + 2 := by rw [hW]; simp
  have HW := Lib.hid hW
  clear ha hb hW
  obtain ⟨A, hA⟩ : ∃ A, A = c3 x0 y0 := ⟨_, rfl⟩
  obtain ⟨B, hB⟩ : ∃ B, B = c3 x1 y1 := ⟨_, rfl⟩
  rw [← hA, ← hB] at HR
  rw [← hA] at H1a
  rw [← hB] at H1b
  clear hA hB
  have kY : (W.alloc (.cells #[.int .i64 A, .int .i64 B] 3)).drew.cell? ⟨w.heap.size, 0, none⟩ = some (.string x0) ∧ (W.alloc (.cells #[.int .i64 A, .int .i64 B] 3)).drew.cell? ⟨w.heap.size, 1, none⟩ = some (.string x1) ∧ (W.alloc (.cells #[.int .i64 A, .int .i64 B] 3)).drew.cell? ⟨w.heap.size + 1, 0, none⟩ = some (.string y0) ∧ (W.alloc (.cells #[.int .i64 A, .int .i64 B] 3)).drew.cell? ⟨w.heap.size + 1, 1, none⟩ = some (.string y1) := by
    have bl := (Below.refl W.heap.size W).alloc (Nat.le_refl _) (.cells #[.int .i64 A, .int .i64 B] 3)
    obtain ⟨a, b, d, e⟩ := kX
    exact ⟨(bl.cell (p := ⟨w.heap.size, 0, none⟩) (by simp; omega)).trans a, (bl.cell (p := ⟨w.heap.size, 1, none⟩) (by simp; omega)).trans b, (bl.cell (p := ⟨w.heap.size + 1, 0, none⟩) (by simp; omega)).trans d, (bl.cell (p := ⟨w.heap.size + 1, 1, none⟩) (by simp; omega)).trans e⟩
  have H3 := Lib.hid (H2.out (W.alloc (.cells #[.int .i64 A, .int .i64 B] 3)).drew W.heap.size A B (new_cell _ _ _ 0 _ rfl) (new_cell _ _ _ 1 _ rfl))
  rw [← HR.out, hsz] at H3
  clear H2
  go_region_held (fun z => z.cell? ⟨w.heap.size, 0, none⟩ = some (.string x0) ∧ z.cell? ⟨w.heap.size, 1, none⟩ = some (.string x1) ∧ z.cell? ⟨w.heap.size + 1, 0, none⟩ = some (.string y0) ∧ z.cell? ⟨w.heap.size + 1, 1, none⟩ = some (.string y1))
    (first | exact kX | exact kY)
    (first | (go_at_call 46; refine (H1a.out _).mono ?_; clear H1a; rintro e w' ⟨rfl, rfl⟩) | (go_at_call 46; refine (H1b.out _).mono ?_; clear H1b; rintro e w' ⟨rfl, rfl⟩) | (go_at_call 45; refine H3.out.mono ?_; rintro e w' ⟨rfl, rfl⟩))
  all_goals
    go_wp2_with fail
    go_ret
    exact ⟨rfl, 1, _, by rw [HW.out, alloc_eq_grow, alloc_eq_grow, alloc_eq_grow, grow_grow, grow_grow, drew_grow]; rfl⟩
end Gz
end Go.Proofs.Ytmlbmiegfeadjaa
