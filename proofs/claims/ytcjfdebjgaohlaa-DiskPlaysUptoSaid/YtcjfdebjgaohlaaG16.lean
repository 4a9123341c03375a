import Derived.Test.YtcjfdebjgaohlaaG15
import Derived.Deep.RegionHeld

/- The law's play: Rename. -/
namespace Go.Proofs.Ytcjfdebjgaohlaa
open Go.RowKit Go.Maps Go.ChangeMaps Go.MapKept
namespace Yx
open Jb Jm Jd Jw Jx Jn Je Jf Jg Jh Jk Jc Jl Jo Jq J1 J2 J3 J4 Jr J6 J9 Ya Yb Yc Yd Ye Yf Yg Yh Yi Yj Yk Yl Ym Yn Yo Yp Yq Yr Ys Yt Yu Yv Yw

set_option maxRecDepth 100000
set_option maxHeartbeats 8000000 in
theorem play_rename (w : World) (S T : Nat → Prop) (g h N : Nat) (V : Vw) (t : Dt) (q : Two w S T g h N V t) (n : Int) (nm tn : ByteArray) (v : Value) (hs : nm.size ≤ 140737488355328) (hb : t.L.length ≤ 999999999) (hz : tn.size ≤ 140737488355328) (hN : N ≤ 140737488353000) :
    Calls Try.prog 7 #[.pointer (some ⟨g, 0, none⟩), .pointer (some ⟨h, 0, none⟩), .agg #[.int .i64 3, .int .i64 n, .string nm, .string tn, v]] w fun e w' => e = .returned (.bool true) ∧ Aft w S T g h (N + 1) V t 1 0 w' := by
  obtain ⟨r, bo⟩ := rename_both V t q.mt nm tn hs hz (by omega) N hN
  have hS : ¬ S w.heap.size := fun e => Nat.lt_irrefl _ (q.dv.lt e)
  have hT : ¬ T w.heap.size := fun e => Nat.lt_irrefl _ (q.wk.lt _ e)
  have B0 : Below w.heap.size w (w.alloc (.cells #[.int .i64 3, .int .i64 n, .string nm, .string tn, v] 31)).drew := ((Below.refl _ _).alloc (Nat.le_refl _) _).drew
  have z0 := heap_alloc_new w (.cells #[.int .i64 3, .int .i64 n, .string nm, .string tn, v] 31)
  have ea : ∀ a b b' : Value, #[a] ++ #[b, b'] = #[a, b, b'] := fun _ _ _ => rfl
  have P1 := both_P (q.below B0) bo
  have D1 := both_D (q.below B0) bo
  simp only [ea] at P1 D1
  have P1 := Lib.hid P1
  have D1 := Lib.hid D1
  clear ea
  have HB := Lib.hid (fun y (X : Nat → Prop) (hX : ¬ X w.heap.size) (c : Chg (w.alloc (.cells #[.int .i64 3, .int .i64 n, .string nm, .string tn, v] 31)).drew y X) => bx_of (y := y) ((c.block w.heap.size (by simp) hX).trans z0))
  have FIN := Lib.hid (fun w2 (e : Aft (w.alloc (.cells #[.int .i64 3, .int .i64 n, .string nm, .string tn, v] 31)).drew S T g h (N + 1) V t 0 0 w2) => Aft.mono (Aft.lift B0 e) (Nat.le_refl (N + 1)) (Nat.zero_le 1) (Nat.le_refl 0))
  obtain ⟨x0, x1, x2, x3, x4⟩ := bx_of z0
  clear q bo z0 B0
  go_enter Try.func7, Try.ntmps7
  go_upto_region 10 with (fail)
  go_region_held (fun y => y.cell? ⟨w.heap.size, 2, none⟩ = some (.string nm) ∧ y.cell? ⟨w.heap.size, 3, none⟩ = some (.string tn)) (first | exact ⟨x2, x3⟩ | exact ⟨y12, y13⟩ | exact ⟨z12, z13⟩)
    (first
    | (go_at_call 15; refine G2.out.mono ?_; rintro e y2 ⟨rfl, e2, _⟩; have E2 := Lib.hid e2; obtain ⟨_, _, _, _, _, _, _, cc, _, _⟩ := e2; obtain ⟨z10, z11, z12, z13, z14⟩ := HB.out y2 (fun k => S k ∨ T k) (fun e => e.elim hS hT) cc; clear cc)
    | (go_at_call 16; refine G2.out.mono ?_; rintro e y2 ⟨rfl, e2, _⟩; have E2 := Lib.hid e2; obtain ⟨_, _, _, _, _, _, _, cc, _, _⟩ := e2; obtain ⟨z10, z11, z12, z13, z14⟩ := HB.out y2 (fun k => S k ∨ T k) (fun e => e.elim hS hT) cc; clear cc)
    | (go_at_call 15; refine P1.out.mono ?_; rintro e y1 ⟨rfl, c1, g2⟩; have G2 := Lib.hid g2; obtain ⟨y10, y11, y12, y13, y14⟩ := HB.out y1 S hS c1; clear g2 c1)
    | (go_at_call 16; refine D1.out.mono ?_; rintro e y1 ⟨rfl, c1, g2⟩; have G2 := Lib.hid g2; obtain ⟨y10, y11, y12, y13, y14⟩ := HB.out y1 T hT c1; clear g2 c1))
  all_goals
    go_wp2_with fail
    go_ret
    exact ⟨rfl, FIN.out _ E2.out⟩
end Yx
end Go.Proofs.Ytcjfdebjgaohlaa

/- The law's play: Remove. -/
namespace Go.Proofs.Ytcjfdebjgaohlaa
open Go.RowKit Go.Maps Go.ChangeMaps Go.MapKept
namespace Yy
open Jb Jm Jd Jw Jx Jn Je Jf Jg Jh Jk Jc Jl Jo Jq J1 J2 J3 J4 Jr J6 J9 Ya Yb Yc Yd Ye Yf Yg Yh Yi Yj Yk Yl Ym Yn Yo Yp Yq Yr Ys Yt Yu Yv Yw

set_option maxRecDepth 100000
set_option maxHeartbeats 2000000 in
theorem play_remove (w : World) (S T : Nat → Prop) (g h N : Nat) (V : Vw) (t : Dt) (q : Two w S T g h N V t) (n : Int) (nm tn : ByteArray) (v : Value) (hs : nm.size ≤ 140737488355328) (hb : t.L.length ≤ 999999999) :
    Calls Try.prog 7 #[.pointer (some ⟨g, 0, none⟩), .pointer (some ⟨h, 0, none⟩), .agg #[.int .i64 4, .int .i64 n, .string nm, .string tn, v]] w fun e w' => e = .returned (.bool true) ∧ Aft w S T g h (N + 1) V t 1 0 w' := by
  obtain ⟨r, bo⟩ := remove_both V t q.mt nm hs (by omega) N
  have hS : ¬ S w.heap.size := fun e => Nat.lt_irrefl _ (q.dv.lt e)
  have hT : ¬ T w.heap.size := fun e => Nat.lt_irrefl _ (q.wk.lt _ e)
  have B0 : Below w.heap.size w (w.alloc (.cells #[.int .i64 4, .int .i64 n, .string nm, .string tn, v] 31)).drew := ((Below.refl _ _).alloc (Nat.le_refl _) _).drew
  have z0 := heap_alloc_new w (.cells #[.int .i64 4, .int .i64 n, .string nm, .string tn, v] 31)
  have ea : ∀ a b : Value, #[a] ++ #[b] = #[a, b] := fun _ _ => rfl
  have P1 := both_P (q.below B0) bo
  have D1 := both_D (q.below B0) bo
  simp only [ea] at P1 D1
  have P1 := Lib.hid P1
  have D1 := Lib.hid D1
  clear ea
  have HB := Lib.hid (fun y (X : Nat → Prop) (hX : ¬ X w.heap.size) (c : Chg (w.alloc (.cells #[.int .i64 4, .int .i64 n, .string nm, .string tn, v] 31)).drew y X) => bx_of (y := y) ((c.block w.heap.size (by simp) hX).trans z0))
  have FIN := Lib.hid (fun w2 (e : Aft (w.alloc (.cells #[.int .i64 4, .int .i64 n, .string nm, .string tn, v] 31)).drew S T g h N V t 0 0 w2) => Aft.mono (Aft.lift B0 e) (Nat.le_succ N) (Nat.zero_le 1) (Nat.le_refl 0))
  obtain ⟨x0, x1, x2, x3, x4⟩ := bx_of z0
  clear q bo z0 B0
  go_enter Try.func7, Try.ntmps7
  go_upto_region 12 with (fail)
  go_region_with (first
    | (go_at_call 17; refine G2.out.mono ?_; rintro e y2 ⟨rfl, e2, _⟩; have E2 := Lib.hid e2; clear e2)
    | (go_at_call 18; refine G2.out.mono ?_; rintro e y2 ⟨rfl, e2, _⟩; have E2 := Lib.hid e2; clear e2)
    | (go_at_call 17; refine P1.out.mono ?_; rintro e y1 ⟨rfl, c1, g2⟩; have G2 := Lib.hid g2; obtain ⟨y10, y11, y12, y13, y14⟩ := HB.out y1 S hS c1; clear g2 c1)
    | (go_at_call 18; refine D1.out.mono ?_; rintro e y1 ⟨rfl, c1, g2⟩; have G2 := Lib.hid g2; obtain ⟨y10, y11, y12, y13, y14⟩ := HB.out y1 T hT c1; clear g2 c1))
  all_goals
    go_wp2_with fail
    go_ret
    exact ⟨rfl, FIN.out _ E2.out⟩
end Yy
end Go.Proofs.Ytcjfdebjgaohlaa

/- The law's play: Cut. -/
namespace Go.Proofs.Ytcjfdebjgaohlaa
open Go.RowKit Go.Maps Go.ChangeMaps Go.MapKept
namespace Yz
open Jb Jm Jd Jw Jx Jn Je Jf Jg Jh Jk Jc Jl Jo Jq J1 J2 J3 J4 Jr J6 J9 Ya Yb Yc Yd Ye Yf Yg Yh Yi Yj Yk Yl Ym Yn Yo Yp Yq Yr Ys Yt Yu Yv Yw

set_option maxRecDepth 100000
set_option maxHeartbeats 8000000 in
theorem play_cut (w : World) (S T : Nat → Prop) (g h N : Nat) (V : Vw) (t : Dt) (q : Two w S T g h N V t) (n : Int) (nm tn : ByteArray) (v : Value) (hs : nm.size ≤ 140737488355328) (hb : t.L.length ≤ 999999999) (hbd : sumL t.L ≤ 140737488355328) :
    Calls Try.prog 7 #[.pointer (some ⟨g, 0, none⟩), .pointer (some ⟨h, 0, none⟩), .agg #[.int .i64 5, .int .i64 n, .string nm, .string tn, v]] w fun e w' => e = .returned (.bool true) ∧ Aft w S T g h (N + 1) V t 1 0 w' := by
  obtain ⟨r, bo⟩ := cut_both V t q.mt nm n hs (by omega) hbd N
  have hS : ¬ S w.heap.size := fun e => Nat.lt_irrefl _ (q.dv.lt e)
  have hT : ¬ T w.heap.size := fun e => Nat.lt_irrefl _ (q.wk.lt _ e)
  have B0 : Below w.heap.size w (w.alloc (.cells #[.int .i64 5, .int .i64 n, .string nm, .string tn, v] 31)).drew := ((Below.refl _ _).alloc (Nat.le_refl _) _).drew
  have z0 := heap_alloc_new w (.cells #[.int .i64 5, .int .i64 n, .string nm, .string tn, v] 31)
  have ea : ∀ a b b' : Value, #[a] ++ #[b, b'] = #[a, b, b'] := fun _ _ _ => rfl
  have P1 := both_P (q.below B0) bo
  have D1 := both_D (q.below B0) bo
  simp only [ea] at P1 D1
  have P1 := Lib.hid P1
  have D1 := Lib.hid D1
  clear ea
  have HB := Lib.hid (fun y (X : Nat → Prop) (hX : ¬ X w.heap.size) (c : Chg (w.alloc (.cells #[.int .i64 5, .int .i64 n, .string nm, .string tn, v] 31)).drew y X) => bx_of (y := y) ((c.block w.heap.size (by simp) hX).trans z0))
  have FIN := Lib.hid (fun w2 (e : Aft (w.alloc (.cells #[.int .i64 5, .int .i64 n, .string nm, .string tn, v] 31)).drew S T g h N V t 0 0 w2) => Aft.mono (Aft.lift B0 e) (Nat.le_succ N) (Nat.zero_le 1) (Nat.le_refl 0))
  obtain ⟨x0, x1, x2, x3, x4⟩ := bx_of z0
  clear q bo z0 B0
  go_enter Try.func7, Try.ntmps7
  go_upto_region 14 with (fail)
  go_region_held (fun y => y.cell? ⟨w.heap.size, 2, none⟩ = some (.string nm) ∧ y.cell? ⟨w.heap.size, 1, none⟩ = some (.int .i64 n)) (first | exact ⟨x2, x1⟩ | exact ⟨y12, y11⟩ | exact ⟨z12, z11⟩)
    (first
    | (go_at_call 19; refine G2.out.mono ?_; rintro e y2 ⟨rfl, e2, _⟩; have E2 := Lib.hid e2; obtain ⟨_, _, _, _, _, _, _, cc, _, _⟩ := e2; obtain ⟨z10, z11, z12, z13, z14⟩ := HB.out y2 (fun k => S k ∨ T k) (fun e => e.elim hS hT) cc; clear cc)
    | (go_at_call 20; refine G2.out.mono ?_; rintro e y2 ⟨rfl, e2, _⟩; have E2 := Lib.hid e2; obtain ⟨_, _, _, _, _, _, _, cc, _, _⟩ := e2; obtain ⟨z10, z11, z12, z13, z14⟩ := HB.out y2 (fun k => S k ∨ T k) (fun e => e.elim hS hT) cc; clear cc)
    | (go_at_call 19; refine P1.out.mono ?_; rintro e y1 ⟨rfl, c1, g2⟩; have G2 := Lib.hid g2; obtain ⟨y10, y11, y12, y13, y14⟩ := HB.out y1 S hS c1; clear g2 c1)
    | (go_at_call 20; refine D1.out.mono ?_; rintro e y1 ⟨rfl, c1, g2⟩; have G2 := Lib.hid g2; obtain ⟨y10, y11, y12, y13, y14⟩ := HB.out y1 T hT c1; clear g2 c1))
  all_goals
    go_wp2_with fail
    go_ret
    exact ⟨rfl, FIN.out _ E2.out⟩
end Yz
end Go.Proofs.Ytcjfdebjgaohlaa
