/- The texts of a nought and of what is infinite, by the program and by the document. -/
import Derived.Test.YtofageoljphleaaGreatDoorZs
namespace Go.Proofs.YtofageoljphleaaGreatDoor
open Go.RowKit Go.Sort
namespace Ze
set_option maxRecDepth 100000

set_option maxHeartbeats 1000000 in
theorem noughts0 (w : World) : Calls Tryz.prog 32 #[.int .i64 0] w fun e w' => e = .returned (.string ⟨#[]⟩) ∧ w = w' := by
  go_enter Tryz.func32, Tryz.ntmps32
  go_wp2
  refine wp_loop_rounds 1 ?_
  rw [rounds_succ]
  go_wp2_with fail
  go_ret
  exact ⟨rfl, rfl⟩
set_option maxHeartbeats 1000000 in
theorem float21 (w : World) : Calls Tryz.prog 21 #[.float .f64 0] w fun e w' => e = .returned (.string ⟨#[48]⟩) ∧ Below w.heap.size w w' := by
  go_enter Tryz.func21, Tryz.ntmps21
  go_wp2_with fail
  refine (fmt_e _).mono ?_
  rintro e w1 ⟨rfl, hb1⟩
  go_wp2_with fail
  refine wp_loop_rounds 2 ?_
  rw [rounds_succ]
  go_wp2_with fail
  rw [rounds_succ]
  go_wp2_with fail
  refine (atoi_0 _).mono ?_
  rintro e w2 ⟨rfl, hb2⟩
  go_wp2_with (go_at_call 32; refine (noughts0 _).mono ?_; rintro e w' ⟨rfl, rfl⟩)
  go_ret
  exact ⟨rfl, hb1.trans (hb2.mono hb1.size)⟩

theorem ord0 : FloatKind.f64.format.order 0 0 = some .eq := by kernel_rfl
set_option maxHeartbeats 1000000 in
theorem part0 (w : World) : Calls Tryz.prog 14 #[.float .f64 0] w fun e w' => e = .returned (.string ⟨#[48]⟩) ∧ Below w.heap.size w w' := by
  have o1 := ord0
  have o2 : (FloatKind.f64.format.order 0 9218868437227405311 == some .gt) = false := by kernel_rfl
  have o3 : (FloatKind.f64.format.order 0 18442240474082181119 == some .lt) = false := by kernel_rfl
  go_enter Tryz.func14, Tryz.ntmps14
  go_wp2_with (go_at_call 21; refine (float21 _).mono ?_; rintro e w' ⟨rfl, hb⟩)
  go_ret
  exact ⟨rfl, hb⟩
set_option maxHeartbeats 1000000 in
theorem text0 (w : World) (hT : Tab w) : Calls Tryz.prog 13 #[.float .f64 0] w fun e w' => e = .returned (.string ⟨#[48]⟩) ∧ Below w.heap.size w w' := by
  have HT := Lib.hid hT
  clear hT
  have r12 := run15
  have o1 := ord0
  have o2 : (FloatKind.f64.format.order 0 9218868437227405311 == some .gt) = false := by kernel_rfl
  have o3 : (FloatKind.f64.format.order 9223372036854775808 9218868437227405311 == some .gt) = false := by kernel_rfl
  have hn : ∀ w, (Op.unary UnOp.neg (Value.float FloatKind.f64 0)).run Tryz.prog w = .ok (.float .f64 9223372036854775808) w := fun _ => by kernel_rfl
  go_enter Tryz.func13, Tryz.ntmps13
  go_wp2_with (first | (go_at_call 17; go_in) | (go_at_call 18; go_in) | (go_at_call 20; go_in))
  refine (print0 _ (HT.out.below ((Below.refl w.heap.size w).alloc (Nat.le_refl _) _))).mono ?_
  rintro e w1 ⟨rfl, hb1⟩
  have hB : Below w.heap.size w w1 := ((Below.refl w.heap.size w).alloc (Nat.le_refl _) _).trans (hb1.mono (by simp))
  clear hb1
  go_wp2
  go_ret
  exact ⟨rfl, hB⟩
/-- What is infinite, above or below. -/
def inf (s : Bool) : Nat := if s then 18442240474082181120 else 9218868437227405312
def infText (s : Bool) : ByteArray := if s then ⟨#[45, 73, 110, 102]⟩ else ⟨#[43, 73, 110, 102]⟩
set_option maxHeartbeats 1000000 in
theorem partInf (s : Bool) (w : World) : Calls Tryz.prog 14 #[.float .f64 (inf s)] w fun e w' => e = .returned (.string (infText s)) ∧ w = w' := by
  cases s
  · simp only [inf, infText]
    have o1 : FloatKind.f64.format.order 9218868437227405312 9218868437227405312 = some .eq := by kernel_rfl
    have o2 : (FloatKind.f64.format.order 9218868437227405312 9218868437227405311 == some .gt) = true := by kernel_rfl
    go_enter Tryz.func14, Tryz.ntmps14
    go_wp2
    go_ret
    exact ⟨rfl, rfl⟩
  · simp only [inf, infText]
    have o1 : FloatKind.f64.format.order 18442240474082181120 18442240474082181120 = some .eq := by kernel_rfl
    have o2 : (FloatKind.f64.format.order 18442240474082181120 9218868437227405311 == some .gt) = false := by kernel_rfl
    have o3 : (FloatKind.f64.format.order 18442240474082181120 18442240474082181119 == some .lt) = true := by kernel_rfl
    go_enter Tryz.func14, Tryz.ntmps14
    go_wp2
    go_ret
    exact ⟨rfl, rfl⟩
set_option maxHeartbeats 1000000 in
theorem textInf (s : Bool) (w : World) : Calls Tryz.prog 13 #[.float .f64 (inf s)] w fun e w' => e = .returned (.string (infText s)) ∧ w = w' := by
  cases s
  · simp only [inf, infText]
    have o1 : FloatKind.f64.format.order 9218868437227405312 9218868437227405312 = some .eq := by kernel_rfl
    have o2 : (FloatKind.f64.format.order 9218868437227405312 9218868437227405311 == some .gt) = true := by kernel_rfl
    go_enter Tryz.func13, Tryz.ntmps13
    go_wp2_with (first | (go_at_call 17; go_in) | (go_at_call 18; go_in))
    go_ret
    exact ⟨rfl, rfl⟩
  · simp only [inf, infText]
    have o1 : FloatKind.f64.format.order 18442240474082181120 18442240474082181120 = some .eq := by kernel_rfl
    have o2 : (FloatKind.f64.format.order 18442240474082181120 9218868437227405311 == some .gt) = false := by kernel_rfl
    have o3 : (FloatKind.f64.format.order 9218868437227405312 9218868437227405311 == some .gt) = true := by kernel_rfl
    have hn : ∀ w, (Op.unary UnOp.neg (Value.float FloatKind.f64 18442240474082181120)).run Tryz.prog w = .ok (.float .f64 9218868437227405312) w := fun _ => by kernel_rfl
    go_enter Tryz.func13, Tryz.ntmps13
    go_wp2_with (first | (go_at_call 17; go_in) | (go_at_call 18; go_in))
    go_ret
    exact ⟨rfl, rfl⟩
end Ze
end Go.Proofs.YtofageoljphleaaGreatDoor
