/- The library's FormatFloat at 1.5, and what the program prints for it. -/
import Derived.Test.YtonbjaegjfegpaaGreatDoorFt
import Derived.Lib.AtoiErrMem
namespace Go.Proofs.YtonbjaegjfegpaaGreatDoor
open Go.RowKit Go.Sort
namespace Sf
set_option maxRecDepth 100000

set_option maxHeartbeats 1000000 in
theorem format_e (w : World) (hT : Tabs w) :
    Calls Tryz.prog 64 #[.float .f64 4609434218613702656, .int .u8 101, .int .i64 (-1), .int .i64 64] w
      fun e w' => e = .returned (.string ⟨#[49, 46, 53, 101, 43, 48, 48]⟩) ∧ Below w.heap.size w w' := by
  have HT := Lib.hid hT
  clear hT
  have m2 : max (3 : Int) 24 = 24 := by decide
  have hmk : ∀ w, (Instr.makeSlice 55 (.int .i64 0) (.int .i64 24)).run Tryz.prog w = .ok (.slice (some ⟨w.heap.size, 0, none⟩) 0 24) (w.alloc (.cells (Array.replicate 24 (.int .u8 0)) 5)) := fun _ => by kernel_rfl
  go_enter Tryz.func64, Tryz.ntmps64
  go_wp2_with fail
  refine (ftoa_e _ w.heap.size (by simp) (fun j hj => ⟨?_, ?_⟩) (HT.out.below ((Below.refl w.heap.size w).alloc (Nat.le_refl _) _) (Nat.le_refl _))).mono ?_
  · rw [World.cell?_alloc_at (w := w) _ _ w.heap.size j rfl]; simp [hj]
  · exact World.frozen?_alloc_at (w := w) _ _ w.heap.size j rfl
  rintro e w2 ⟨rfl, hb2, e0, e1, e2, e3, e4, e5, e6⟩
  have hB : Below w.heap.size w w2 := ((Below.refl w.heap.size w).alloc (Nat.le_refl _) _).trans hb2
  have hcv : (convert 55 9 (.slice (some ⟨w.heap.size, 0, none⟩) 7 24)).run Tryz.prog w2 = .ok (.string ⟨#[49, 46, 53, 101, 43, 48, 48]⟩) w2 := by
    refine run_convert_bytes_back w2 55 9 5 ⟨w.heap.size, 0, none⟩ 24 [49, 46, 53, 101, 43, 48, 48] Tryz.underlying55 Tryz.underlying5 Tryz.underlying9 ?_
    intro i hi
    match i, hi with
    | 0, _ => simpa [Addr.add] using e0
    | 1, _ => simpa [Addr.add] using e1
    | 2, _ => simpa [Addr.add] using e2
    | 3, _ => simpa [Addr.add] using e3
    | 4, _ => simpa [Addr.add] using e4
    | 5, _ => simpa [Addr.add] using e5
    | 6, _ => simpa [Addr.add] using e6
  clear e0 e1 e2 e3 e4 e5 e6 hb2
  go_wp2
  go_ret
  exact ⟨rfl, hB⟩
set_option maxHeartbeats 1000000 in
theorem format_f (w : World) (hT : Tabs w) :
    Calls Tryz.prog 64 #[.float .f64 4609434218613702656, .int .u8 102, .int .i64 (-1), .int .i64 64] w
      fun e w' => e = .returned (.string ⟨#[49, 46, 53]⟩) ∧ Below w.heap.size w w' := by
  have HT := Lib.hid hT
  clear hT
  have m2 : max (3 : Int) 24 = 24 := by decide
  have hmk : ∀ w, (Instr.makeSlice 55 (.int .i64 0) (.int .i64 24)).run Tryz.prog w = .ok (.slice (some ⟨w.heap.size, 0, none⟩) 0 24) (w.alloc (.cells (Array.replicate 24 (.int .u8 0)) 5)) := fun _ => by kernel_rfl
  go_enter Tryz.func64, Tryz.ntmps64
  go_wp2_with fail
  refine (ftoa_f _ w.heap.size (by simp) (fun j hj => ⟨?_, ?_⟩) (HT.out.below ((Below.refl w.heap.size w).alloc (Nat.le_refl _) _) (Nat.le_refl _))).mono ?_
  · rw [World.cell?_alloc_at (w := w) _ _ w.heap.size j rfl]; simp [hj]
  · exact World.frozen?_alloc_at (w := w) _ _ w.heap.size j rfl
  rintro e w2 ⟨rfl, hb2, e0, e1, e2⟩
  have hB : Below w.heap.size w w2 := ((Below.refl w.heap.size w).alloc (Nat.le_refl _) _).trans hb2
  have hcv : (convert 55 9 (.slice (some ⟨w.heap.size, 0, none⟩) 3 24)).run Tryz.prog w2 = .ok (.string ⟨#[49, 46, 53]⟩) w2 := by
    refine run_convert_bytes_back w2 55 9 5 ⟨w.heap.size, 0, none⟩ 24 [49, 46, 53] Tryz.underlying55 Tryz.underlying5 Tryz.underlying9 ?_
    intro i hi
    match i, hi with
    | 0, _ => simpa [Addr.add] using e0
    | 1, _ => simpa [Addr.add] using e1
    | 2, _ => simpa [Addr.add] using e2
  clear e0 e1 e2 hb2
  go_wp2
  go_ret
  exact ⟨rfl, hB⟩
theorem fmt41_e (w : World) (hT : Tabs w) : Calls Tryz.prog 41 #[.float .f64 4609434218613702656, .int .u8 101, .int .i64 (-1), .int .i64 64] w
      fun e w' => e = .returned (.string ⟨#[49, 46, 53, 101, 43, 48, 48]⟩) ∧ Below w.heap.size w w' := by
  have HT := Lib.hid hT
  clear hT
  go_enter Tryz.func41, Tryz.ntmps41
  go_wp2_with (go_at_call 64; refine (format_e _ HT.out).mono ?_; rintro e w' ⟨rfl, hb⟩)
  go_ret
  exact ⟨rfl, hb⟩
theorem fmt41_f (w : World) (hT : Tabs w) : Calls Tryz.prog 41 #[.float .f64 4609434218613702656, .int .u8 102, .int .i64 (-1), .int .i64 64] w
      fun e w' => e = .returned (.string ⟨#[49, 46, 53]⟩) ∧ Below w.heap.size w w' := by
  have HT := Lib.hid hT
  clear hT
  go_enter Tryz.func41, Tryz.ntmps41
  go_wp2_with (go_at_call 64; refine (format_f _ HT.out).mono ?_; rintro e w' ⟨rfl, hb⟩)
  go_ret
  exact ⟨rfl, hb⟩
/-- The text parted at its e. -/
theorem cut_e (w : World) (hT : Tabs w) : Calls Tryz.prog 42 #[.string ⟨#[49, 46, 53, 101, 43, 48, 48]⟩, .string ⟨#[101]⟩] w
      fun e w' => e = .returned (.tuple #[.string ⟨#[49, 46, 53]⟩, .string ⟨#[43, 48, 48]⟩, .bool true]) ∧ Below w.heap.size w w' := by
  obtain ⟨_, _, _, m, hm⟩ := hT
  refine (Tryz.strings_Cut ⟨#[49, 46, 53, 101, 43, 48, 48]⟩ ⟨#[101]⟩ m w (by decide) hm).mono ?_
  rintro e w' ⟨rfl, n, rfl⟩
  refine ⟨?_, bdn n (Below.refl _ _)⟩
  have h : Lib.cut [49, 46, 53, 101, 43, 48, 48] [101] = ([49, 46, 53], [43, 48, 48], true) := by decide
  simp [h]
theorem atoi_0 (w : World) : Calls Tryz.prog 43 #[.string ⟨#[43, 48, 48]⟩] w fun e w' => e = .returned (.tuple #[.int .i64 0, .nilIface]) ∧ Below w.heap.size w w' := by
  refine (Tryz.strconv_Atoi ⟨#[43, 48, 48]⟩ 0 (by decide) (by decide) w).mono ?_
  rintro e w' ⟨rfl, t, rfl⟩
  exact ⟨rfl, Lib.bytesWorld_below _ _ _⟩
set_option maxHeartbeats 1000000 in
theorem printFloat (w : World) (hT : Tabs w) : Calls Tryz.prog 26 #[.float .f64 4609434218613702656] w
      fun e w' => e = .returned (.string ⟨#[49, 46, 53]⟩) ∧ Below w.heap.size w w' := by
  have HT := Lib.hid hT
  clear hT
  go_enter Tryz.func26, Tryz.ntmps26
  go_wp2_with fail
  refine (fmt41_e _ HT.out).mono ?_
  rintro e w1 ⟨rfl, hb1⟩
  go_wp2_with fail
  refine (cut_e _ (HT.out.below hb1 (Nat.le_refl _))).mono ?_
  rintro e w2 ⟨rfl, hb2⟩
  go_wp2_with fail
  refine (atoi_0 _).mono ?_
  rintro e w3 ⟨rfl, hb3⟩
  have hB : Below w.heap.size w w3 := hb1.trans ((hb2.mono hb1.size).trans (hb3.mono (Nat.le_trans hb1.size hb2.size)))
  go_wp2_with fail
  refine (fmt41_f _ (HT.out.below hB (Nat.le_refl _))).mono ?_
  rintro e w4 ⟨rfl, hb4⟩
  go_wp2
  go_ret
  exact ⟨rfl, hB.trans (hb4.mono hB.size)⟩
theorem run12 (b : Nat) (w : World) : (callFunc 12 #[.float .f64 b]).run Tryz.prog w = .ok (.value (.int .u64 b)) w := by
  rw [run_callFunc_extern Tryz.func12 (by kernel_rfl) (by kernel_rfl) (by kernel_rfl) (e := Extern.MathFloatBits.float64bits) (by kernel_rfl)]; rfl
theorem run25 (b : Int) (w : World) : (callFunc 25 #[.int .u64 b]).run Tryz.prog w = .ok (.value (.float .f64 b.toNat)) w := by
  rw [run_callFunc_extern Tryz.func25 (by kernel_rfl) (by kernel_rfl) (by kernel_rfl) (e := Extern.MathFloatBits.float64frombits) (by kernel_rfl)]; rfl
set_option maxHeartbeats 1000000 in
theorem formed (w : World) : Calls Tryz.prog 24 #[.agg #[.int .i64 1, .int .u64 4609434218613702656, .string ⟨#[]⟩]] w
      fun e w' => e = .returned (.bool true) ∧ Below w.heap.size w w' := by
  have r25 := run25
  have r12 := run12
  have o1 : FloatKind.f64.format.order 4609434218613702656 4609434218613702656 = some .eq := by kernel_rfl
  have b1 : bits BinOp.andNot IntKind.u64 4609434218613702656 9223372036854775808 = 4609434218613702656 := by kernel_rfl
  have o2 : (FloatKind.f64.format.order 4609434218613702656 9218868437227405311 == some .gt) = false := by kernel_rfl
  go_enter Tryz.func24, Tryz.ntmps24
  go_wp2
  go_ret
  exact ⟨rfl, by go_grown⟩

set_option maxHeartbeats 1000000 in
theorem print15 (w : World) (hT : Tabs w) : Calls Tryz.prog 15 #[.agg #[.int .i64 1, .int .u64 4609434218613702656, .string ⟨#[]⟩]] w
      fun e w' => e = .returned (.tuple #[.string ⟨#[49, 46, 53]⟩, .int .i64 0]) ∧ Below w.heap.size w w' := by
  have HT := Lib.hid hT
  clear hT
  have r25 := run25
  go_enter Tryz.func15, Tryz.ntmps15
  go_wp2_with fail
  refine (formed _).mono ?_
  rintro e w1 ⟨rfl, hb1⟩
  have hB : Below w.heap.size w w1 := ((Below.refl w.heap.size w).alloc (Nat.le_refl _) _).trans (hb1.mono (by simp))
  have c0 : w1.cell? ⟨w.heap.size, 0, none⟩ = some (.int .i64 1) := by rw [hb1.cell (p := ⟨w.heap.size, 0, none⟩) (by simp)]; simp
  have c1 : w1.cell? ⟨w.heap.size, 1, none⟩ = some (.int .u64 4609434218613702656) := by rw [hb1.cell (p := ⟨w.heap.size, 1, none⟩) (by simp)]; simp
  clear hb1
  go_wp2_with fail
  refine (printFloat _ (HT.out.below hB (Nat.le_refl _))).mono ?_
  rintro e w2 ⟨rfl, hb2⟩
  go_wp2
  go_ret2
  exact ⟨rfl, hB.trans (hb2.mono hB.size)⟩

set_option maxHeartbeats 1000000 in
theorem awake (w : World) (hT : Tabs w) : Calls Tryz.prog 6 #[] w fun e w' => e = .returned (.bool true) ∧ Below w.heap.size w w' := by
  have HT := Lib.hid hT
  clear hT
  have r12 := run12
  go_enter Tryz.func6, Tryz.ntmps6
  go_wp2_with (go_at_call 13; go_in)
  refine (print15 _ (HT.out.below ((Below.refl w.heap.size w).alloc (Nat.le_refl _) _) (Nat.le_refl _))).mono ?_
  rintro e w1 ⟨rfl, hb1⟩
  have hB : Below w.heap.size w w1 := ((Below.refl w.heap.size w).alloc (Nat.le_refl _) _).trans (hb1.mono (by simp))
  clear hb1
  go_wp2
  go_ret
  exact ⟨rfl, hB⟩
end Sf
end Go.Proofs.YtonbjaegjfegpaaGreatDoor
