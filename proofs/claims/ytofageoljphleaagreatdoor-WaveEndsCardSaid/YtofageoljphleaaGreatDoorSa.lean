/- What the statements ask first; when two complex numbers are the same. -/
import Derived.Test.YtofageoljphleaaGreatDoorSu
namespace Go.Proofs.YtofageoljphleaaGreatDoor
open Go.RowKit
namespace St

theorem run14 (b : Nat) (w : World) : (callFunc 15 #[.float .f64 b]).run Tryz.prog w = .ok (.value (.int .u64 b)) w := by
  rw [run_callFunc_extern Tryz.func15 (by kernel_rfl) (by kernel_rfl) (by kernel_rfl) (e := Extern.MathFloatBits.float64bits) (by kernel_rfl)]; rfl

set_option maxRecDepth 100000 in
set_option maxHeartbeats 800000 in
theorem same10 (a b : Nat) (w : World) (h : Eqv a b) : Calls Tryz.prog 10 #[.float .f64 a, .float .f64 b] w fun e w' => e = .returned (.bool true) ∧ w = w' := by
  have r14 := run14
  by_cases hab : a = b
  · subst hab
    have hb : ((a : Int) == (a : Int)) = true := by simp
    go_enter Tryz.func10, Tryz.ntmps10
    go_wp2
    go_ret
    exact ⟨rfl, rfl⟩
  · have hn : ((a : Int) == (b : Int)) = false := by simpa using (fun e => hab (by exact_mod_cast e))
    obtain ⟨ha, hb⟩ := h.resolve_left hab
    have oa := order_nan (s := a) ha
    have ob := order_nan (s := b) hb
    clear ha hb h
    go_enter Tryz.func10, Tryz.ntmps10
    go_wp2
    go_ret
    exact ⟨rfl, rfl⟩

set_option maxRecDepth 100000 in
set_option maxHeartbeats 800000 in
theorem same5 (a b c d : Nat) (w : World) (h : Eqv a c) (h' : Eqv b d) : Calls Tryz.prog 5 #[.complex .f64 a b, .complex .f64 c d] w fun e w' => e = .returned (.bool true) ∧ w = w' := by
  have H := Lib.hid h
  have H' := Lib.hid h'
  clear h h'
  go_enter Tryz.func5, Tryz.ntmps5
  go_wp2_with (go_at_call 10; first | (refine (same10 _ _ _ (by exact H.out)).mono ?_; rintro e w' ⟨rfl, rfl⟩) | (refine (same10 _ _ _ (by exact H'.out)).mono ?_; rintro e w' ⟨rfl, rfl⟩))
  go_ret
  exact ⟨rfl, rfl⟩

/-- The row 1, 2, 3, 4. -/
def four (i : Nat) : Nat := [4607182418800017408, 4611686018427387904, 4613937818241073152, 4616189618054758400].getD i 0
theorem res_some {op : BinOp} {x y r s : Nat} (h : Res op x y r) (e : floatBits op .f64 x y = some s) : r = s := by
  rcases h with h | ⟨h, _⟩ <;> rw [e] at h
  · exact (by simpa using h.symm)
  · cases h
theorem st0 {a b v c d s : Nat} (h : St 0 a b v c d) (e : floatBits .add .f64 a v = some s) : c = s ∧ d = b := by
  rcases h with ⟨_, h1, h2⟩ | ⟨h0, _⟩ | ⟨h0, _⟩ | ⟨h0, _⟩ <;> first | (cases h0; done) | exact ⟨res_some h1 e, h2⟩
theorem st1 {a b v c d s : Nat} (h : St 1 a b v c d) (e : floatBits .add .f64 b v = some s) : c = a ∧ d = s := by
  rcases h with ⟨h0, _⟩ | ⟨_, h1, h2⟩ | ⟨h0, _⟩ | ⟨h0, _⟩ <;> first | (cases h0; done) | exact ⟨h1, res_some h2 e⟩
theorem st2 {a b v c d s : Nat} (h : St 2 a b v c d) (e : floatBits .sub .f64 a v = some s) : c = s ∧ d = b := by
  rcases h with ⟨h0, _⟩ | ⟨h0, _⟩ | ⟨_, h1, h2⟩ | ⟨h0, _⟩ <;> first | (cases h0; done) | exact ⟨res_some h1 e, h2⟩
theorem st3 {a b v c d s : Nat} (h : St 3 a b v c d) (e : floatBits .sub .f64 b v = some s) : c = a ∧ d = s := by
  rcases h with ⟨h0, _⟩ | ⟨h0, _⟩ | ⟨h0, _⟩ | ⟨_, h1, h2⟩ <;> first | (cases h0; done) | exact ⟨h1, res_some h2 e⟩
theorem four_sum {c d : Nat} (h : Sr four 4 c d) : c = 13835058055282163712 ∧ d = 13835058055282163712 := by
  obtain ⟨c3, d3, ⟨c2, d2, ⟨c1, d1, ⟨c0, d0, ⟨rfl, rfl⟩, h0⟩, h1⟩, h2⟩, h3⟩ := h
  obtain ⟨rfl, rfl⟩ := st0 (s := 4607182418800017408) h0 (by kernel_rfl)
  obtain ⟨rfl, rfl⟩ := st1 (s := 4611686018427387904) h1 (by kernel_rfl)
  obtain ⟨rfl, rfl⟩ := st2 (s := 13835058055282163712) h2 (by kernel_rfl)
  obtain ⟨rfl, rfl⟩ := st3 (s := 13835058055282163712) h3 (by kernel_rfl)
  exact ⟨rfl, rfl⟩

set_option maxRecDepth 100000 in
set_option maxHeartbeats 800000 in
theorem awake4 (w : World) : Calls Tryz.prog 4 #[] w fun e w' => e = .returned (.bool true) ∧ Below w.heap.size w w' := by
  have o1 : FloatKind.f64.format.order 13835058055282163712 13835058055282163712 = some .eq := by kernel_rfl
  go_enter Tryz.func4, Tryz.ntmps4
  go_wp2_with fail
  have hF : IsF (w.alloc (Obj.cells #[Value.float FloatKind.f64 4607182418800017408, Value.float FloatKind.f64 4611686018427387904, Value.float FloatKind.f64 4613937818241073152, Value.float FloatKind.f64 4616189618054758400] 23)) (some ⟨w.heap.size, 0, none⟩) 4 4 four := by
    refine .inr ⟨w.heap.size, 0, rfl, by simp, by decide, by decide, fun i hi => ?_⟩
    have h4 : i = 0 ∨ i = 1 ∨ i = 2 ∨ i = 3 := by omega
    rcases h4 with rfl | rfl | rfl | rfl <;> simp [four]
  refine (sum6 _ 4 4 four _ hF).mono ?_
  rintro e w' ⟨c, d, rfl, hs, hb⟩
  obtain ⟨rfl, rfl⟩ := four_sum hs
  clear hs hF
  go_wp2
  go_ret
  exact ⟨rfl, (Below.refl _ _).alloc (Nat.le_refl _) _ |>.trans (hb.mono (by simp))⟩

end St
end Go.Proofs.YtofageoljphleaaGreatDoor
