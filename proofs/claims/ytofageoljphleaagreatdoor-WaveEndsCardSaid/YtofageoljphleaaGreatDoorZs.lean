/- What the program and the document print for a nought. -/
import Derived.Test.YtofageoljphleaaGreatDoorZe
namespace Go.Proofs.YtofageoljphleaaGreatDoor
open Go.RowKit Go.Sort
namespace Ze
set_option maxRecDepth 100000

set_option maxHeartbeats 1000000 in
theorem format_e (w : World) :
    Calls Tryz.prog 40 #[.float .f64 0, .int .u8 101, .int .i64 (-1), .int .i64 64] w
      fun e w' => e = .returned (.string ⟨#[48, 101, 43, 48, 48]⟩) ∧ Below w.heap.size w w' := by
  have m2 : max (3 : Int) 24 = 24 := by decide
  have hmk : ∀ w, (Instr.makeSlice 59 (.int .i64 0) (.int .i64 24)).run Tryz.prog w = .ok (.slice (some ⟨w.heap.size, 0, none⟩) 0 24) (w.alloc (.cells (Array.replicate 24 (.int .u8 0)) 5)) := fun _ => by kernel_rfl
  go_enter Tryz.func40, Tryz.ntmps40
  go_wp2_with fail
  refine (ftoa_e _ w.heap.size (by simp) (fun j hj => ⟨?_, ?_⟩)).mono ?_
  · rw [World.cell?_alloc_at (w := w) _ _ w.heap.size j rfl]; simp [hj]
  · exact World.frozen?_alloc_at (w := w) _ _ w.heap.size j rfl
  rintro e w2 ⟨rfl, hb2, e0, e1, e2, e3, e4⟩
  have hB : Below w.heap.size w w2 := ((Below.refl w.heap.size w).alloc (Nat.le_refl _) _).trans hb2
  have hcv : (convert 59 9 (.slice (some ⟨w.heap.size, 0, none⟩) 5 24)).run Tryz.prog w2 = .ok (.string ⟨#[48, 101, 43, 48, 48]⟩) w2 := by
    refine run_convert_bytes_back w2 59 9 5 ⟨w.heap.size, 0, none⟩ 24 [48, 101, 43, 48, 48] Tryz.underlying59 Tryz.underlying5 Tryz.underlying9 ?_
    intro i hi
    match i, hi with
    | 0, _ => simpa [Addr.add] using e0
    | 1, _ => simpa [Addr.add] using e1
    | 2, _ => simpa [Addr.add] using e2
    | 3, _ => simpa [Addr.add] using e3
    | 4, _ => simpa [Addr.add] using e4
  clear e0 e1 e2 e3 e4 hb2
  go_wp2
  go_ret
  exact ⟨rfl, hB⟩
set_option maxHeartbeats 1000000 in
theorem format_f (w : World) :
    Calls Tryz.prog 40 #[.float .f64 0, .int .u8 102, .int .i64 (-1), .int .i64 64] w
      fun e w' => e = .returned (.string ⟨#[48]⟩) ∧ Below w.heap.size w w' := by
  have m2 : max (3 : Int) 24 = 24 := by decide
  have hmk : ∀ w, (Instr.makeSlice 59 (.int .i64 0) (.int .i64 24)).run Tryz.prog w = .ok (.slice (some ⟨w.heap.size, 0, none⟩) 0 24) (w.alloc (.cells (Array.replicate 24 (.int .u8 0)) 5)) := fun _ => by kernel_rfl
  go_enter Tryz.func40, Tryz.ntmps40
  go_wp2_with fail
  refine (ftoa_f _ w.heap.size (by simp) (fun j hj => ⟨?_, ?_⟩)).mono ?_
  · rw [World.cell?_alloc_at (w := w) _ _ w.heap.size j rfl]; simp [hj]
  · exact World.frozen?_alloc_at (w := w) _ _ w.heap.size j rfl
  rintro e w2 ⟨rfl, hb2, e0⟩
  have hB : Below w.heap.size w w2 := ((Below.refl w.heap.size w).alloc (Nat.le_refl _) _).trans hb2
  have hcv : (convert 59 9 (.slice (some ⟨w.heap.size, 0, none⟩) 1 24)).run Tryz.prog w2 = .ok (.string ⟨#[48]⟩) w2 := by
    refine run_convert_bytes_back w2 59 9 5 ⟨w.heap.size, 0, none⟩ 24 [48] Tryz.underlying59 Tryz.underlying5 Tryz.underlying9 ?_
    intro i hi
    match i, hi with
    | 0, _ => simpa [Addr.add] using e0
  clear e0 hb2
  go_wp2
  go_ret
  exact ⟨rfl, hB⟩
theorem fmt_e (w : World) : Calls Tryz.prog 29 #[.float .f64 0, .int .u8 101, .int .i64 (-1), .int .i64 64] w
      fun e w' => e = .returned (.string ⟨#[48, 101, 43, 48, 48]⟩) ∧ Below w.heap.size w w' := by
  go_enter Tryz.func29, Tryz.ntmps29
  go_wp2_with (go_at_call 40; refine (format_e _).mono ?_; rintro e w' ⟨rfl, hb⟩)
  go_ret
  exact ⟨rfl, hb⟩
theorem fmt_f (w : World) : Calls Tryz.prog 29 #[.float .f64 0, .int .u8 102, .int .i64 (-1), .int .i64 64] w
      fun e w' => e = .returned (.string ⟨#[48]⟩) ∧ Below w.heap.size w w' := by
  go_enter Tryz.func29, Tryz.ntmps29
  go_wp2_with (go_at_call 40; refine (format_f _).mono ?_; rintro e w' ⟨rfl, hb⟩)
  go_ret
  exact ⟨rfl, hb⟩
/-- The one package variable that the searching reads: a number. -/
def Tab (w : World) : Prop := ∃ m, w.cell? ⟨5, 0, none⟩ = some (.int .i64 m)
theorem Tab.below {w w' : World} (h : Tab w) (hb : Below w.heap.size w w') : Tab w' := by
  obtain ⟨m, hm⟩ := h
  have : (5 : Nat) < w.heap.size := by
    rcases Nat.lt_or_ge 5 w.heap.size with g | g
    · exact g
    · simp [World.cell?, Array.getElem?_eq_none g] at hm
  exact ⟨m, by rw [hb.cell (p := ⟨5, 0, none⟩) this]; exact hm⟩
theorem cut_e (w : World) (hT : Tab w) : Calls Tryz.prog 34 #[.string ⟨#[48, 101, 43, 48, 48]⟩, .string ⟨#[101]⟩] w
      fun e w' => e = .returned (.tuple #[.string ⟨#[48]⟩, .string ⟨#[43, 48, 48]⟩, .bool true]) ∧ Below w.heap.size w w' := by
  obtain ⟨m, hm⟩ := hT
  refine (Tryz.strings_Cut ⟨#[48, 101, 43, 48, 48]⟩ ⟨#[101]⟩ m w (by decide) hm).mono ?_
  rintro e w' ⟨rfl, n, rfl⟩
  refine ⟨?_, bdn n (Below.refl _ _)⟩
  have h : Lib.cut [48, 101, 43, 48, 48] [101] = ([48], [43, 48, 48], true) := by decide
  simp [h]
theorem atoi_0 (w : World) : Calls Tryz.prog 30 #[.string ⟨#[43, 48, 48]⟩] w fun e w' => e = .returned (.tuple #[.int .i64 0, .nilIface]) ∧ Below w.heap.size w w' := by
  refine (Tryz.strconv_Atoi ⟨#[43, 48, 48]⟩ 0 (by decide) (by decide) w).mono ?_
  rintro e w' ⟨rfl, t, rfl⟩
  exact ⟨rfl, Lib.bytesWorld_below _ _ _⟩
set_option maxHeartbeats 1000000 in
theorem printFloat (w : World) (hT : Tab w) : Calls Tryz.prog 24 #[.float .f64 0] w
      fun e w' => e = .returned (.string ⟨#[48]⟩) ∧ Below w.heap.size w w' := by
  have HT := Lib.hid hT
  clear hT
  go_enter Tryz.func24, Tryz.ntmps24
  go_wp2_with fail
  refine (fmt_e _).mono ?_
  rintro e w1 ⟨rfl, hb1⟩
  go_wp2_with fail
  refine (cut_e _ (HT.out.below hb1)).mono ?_
  rintro e w2 ⟨rfl, hb2⟩
  go_wp2_with fail
  refine (atoi_0 _).mono ?_
  rintro e w3 ⟨rfl, hb3⟩
  have hB : Below w.heap.size w w3 := hb1.trans ((hb2.mono hb1.size).trans (hb3.mono (Nat.le_trans hb1.size hb2.size)))
  go_wp2_with fail
  refine (fmt_f _).mono ?_
  rintro e w4 ⟨rfl, hb4⟩
  go_wp2
  go_ret
  exact ⟨rfl, hB.trans (hb4.mono hB.size)⟩
theorem run15 (b : Nat) (w : World) : (callFunc 15 #[.float .f64 b]).run Tryz.prog w = .ok (.value (.int .u64 b)) w := by
  rw [run_callFunc_extern Tryz.func15 (by kernel_rfl) (by kernel_rfl) (by kernel_rfl) (e := Extern.MathFloatBits.float64bits) (by kernel_rfl)]; rfl
theorem run25 (b : Int) (w : World) : (callFunc 25 #[.int .u64 b]).run Tryz.prog w = .ok (.value (.float .f64 b.toNat)) w := by
  rw [run_callFunc_extern Tryz.func25 (by kernel_rfl) (by kernel_rfl) (by kernel_rfl) (e := Extern.MathFloatBits.float64frombits) (by kernel_rfl)]; rfl
set_option maxHeartbeats 1000000 in
theorem formed (w : World) : Calls Tryz.prog 23 #[.agg #[.int .i64 1, .int .u64 0, .string ⟨#[]⟩]] w
      fun e w' => e = .returned (.bool true) ∧ Below w.heap.size w w' := by
  have r25 := run25
  have r12 := run15
  have o1 : FloatKind.f64.format.order 0 0 = some .eq := by kernel_rfl
  have b1 : bits BinOp.andNot IntKind.u64 0 9223372036854775808 = 0 := by kernel_rfl
  have o2 : (FloatKind.f64.format.order 0 9218868437227405311 == some .gt) = false := by kernel_rfl
  go_enter Tryz.func23, Tryz.ntmps23
  go_wp2
  go_ret
  exact ⟨rfl, by go_grown⟩

set_option maxHeartbeats 1000000 in
theorem print0 (w : World) (hT : Tab w) : Calls Tryz.prog 19 #[.agg #[.int .i64 1, .int .u64 0, .string ⟨#[]⟩]] w
      fun e w' => e = .returned (.tuple #[.string ⟨#[48]⟩, .int .i64 0]) ∧ Below w.heap.size w w' := by
  have HT := Lib.hid hT
  clear hT
  have r25 := run25
  go_enter Tryz.func19, Tryz.ntmps19
  go_wp2_with fail
  refine (formed _).mono ?_
  rintro e w1 ⟨rfl, hb1⟩
  have hB : Below w.heap.size w w1 := ((Below.refl w.heap.size w).alloc (Nat.le_refl _) _).trans (hb1.mono (by simp))
  have c0 : w1.cell? ⟨w.heap.size, 0, none⟩ = some (.int .i64 1) := by rw [hb1.cell (p := ⟨w.heap.size, 0, none⟩) (by simp)]; simp
  have c1 : w1.cell? ⟨w.heap.size, 1, none⟩ = some (.int .u64 0) := by rw [hb1.cell (p := ⟨w.heap.size, 1, none⟩) (by simp)]; simp
  clear hb1
  go_wp2_with fail
  refine (printFloat _ (HT.out.below hB)).mono ?_
  rintro e w2 ⟨rfl, hb2⟩
  go_wp2
  go_ret2
  exact ⟨rfl, hB.trans (hb2.mono hB.size)⟩
end Ze
end Go.Proofs.YtofageoljphleaaGreatDoor
