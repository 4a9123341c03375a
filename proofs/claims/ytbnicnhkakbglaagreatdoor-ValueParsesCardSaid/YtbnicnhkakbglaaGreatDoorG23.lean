import Derived.Test.YtbnicnhkakbglaaGreatDoorG12
import Derived.Laws.Externs
import Derived.Lib.SmallJoins
import Derived.Laws.FloatArith

/- The library's text of 1.5, with and without an exponent. -/
namespace Go.Proofs.YtbnicnhkakbglaaGreatDoor
open Go.RowKit Go.Sort
namespace Sf
set_option maxRecDepth 100000

theorem run113 (b : Nat) (w : World) : (callFunc 215 #[.float .f64 b]).run Tryz.prog w = .ok (.value (.int .u64 b)) w := by
  rw [run_callFunc_extern Tryz.func215 (by kernel_rfl) (by kernel_rfl) (by kernel_rfl) (e := Extern.MathFloatBits.float64bits) (by kernel_rfl)]; rfl

theorem len53 (w : World) : Calls Tryz.prog 161 #[.int .u64 6755399441055744] w fun e w' => e = .returned (.int .i64 53) ∧ w' = w := by
  refine (Tryz.bits_Len64 6755399441055744 w (by decide) (by decide)).mono ?_
  rintro e w' ⟨rfl, rfl⟩
  have h : Lib.bitLen (6755399441055744 : Int).toNat = 53 := by kernel_rfl
  rw [h]
  exact ⟨rfl, rfl⟩
/-- Facts of a world that a later world keeps: the two words of the table of powers, the table of tens. -/
def Tabs (w : World) : Prop := w.cell? ⟨13, 728, none⟩ = some (.int .u64 10240000000000000000) ∧ w.cell? ⟨13, 729, none⟩ = some (.int .u64 0) ∧ Lib.TabIs Tryz.prog w "internal/strconv.uint64pow10" .u64 Lib.pow10Tab ∧ ∃ m, w.cell? ⟨3, 0, none⟩ = some (.int .i64 m)
theorem g3 : Tryz.prog.globalNamed "internal/strconv.uint64pow10" = some 4 := by kernel_rfl
theorem Tabs.below {w w' : World} {B : Nat} (h : Tabs w) (hb : Below B w w') (hB : w.heap.size ≤ B) : Tabs w' := by
  obtain ⟨h0, h1, h2, m, h3⟩ := h
  have l0 := cell_lt h0
  have l3 := cell_lt h3
  exact ⟨by rw [hb.cell (p := ⟨13, 728, none⟩) (by simp; omega)]; exact h0, by rw [hb.cell (p := ⟨13, 729, none⟩) (by simp; omega)]; exact h1, Joins.tab_stays g3 h2 hb hB, m, by rw [hb.cell (p := ⟨3, 0, none⟩) (by simp; omega)]; exact h3⟩
theorem Tabs.near {w w' : World} {B : Nat} (h : Tabs w) (hb : Below B w w') (hB : 16 < B) : Tabs w' := by
  obtain ⟨h0, h1, h2, m, h3⟩ := h
  refine ⟨by rw [hb.cell (p := ⟨13, 728, none⟩) (by simp; omega)]; exact h0, by rw [hb.cell (p := ⟨13, 729, none⟩) (by simp; omega)]; exact h1, ?_, m, by rw [hb.cell (p := ⟨3, 0, none⟩) (by simp; omega)]; exact h3⟩
  unfold Lib.TabIs World.var? at h2 ⊢
  rw [g3] at h2 ⊢
  simp only [Option.bind_some] at h2 ⊢
  rw [hb.block 4 (by omega)]
  exact h2

theorem nd16 (w : World) (h : Tabs w) : Calls Tryz.prog 125 #[.int .u64 1500000000000000] w fun e w' => e = .returned (.int .i64 16) ∧ w' = w := by
  refine (Tryz.internal_strconv_numDigits 1500000000000000 (by decide) (by decide) w h.2.2.1).mono ?_
  rintro e w' ⟨rfl, rfl⟩
  have e16 : Lib.nDigits 1500000000000000 = 16 := by kernel_rfl
  rw [e16]
  exact ⟨rfl, rfl⟩
theorem bdn {B : Nat} {a w : World} (n : Nat) (h : Below B a w) : Below B a (w.drewN n) := ⟨h.os, h.tape, h.output, h.size, h.block⟩
set_option maxHeartbeats 1000000 in
theorem ftoa_e (w : World) (d : Nat) (hd : d < w.heap.size) (hc : ∀ j, j < 24 → w.cell? ⟨d, j, none⟩ = some (.int .u8 0) ∧ w.frozen? ⟨d, j, none⟩ = false) (hT : Tabs w) :
    Calls Tryz.prog 181 #[.slice (some ⟨d, 0, none⟩) 0 24, .float .f64 4609434218613702656, .int .u8 101, .int .i64 (-1)] w
      fun e w' => e = .returned (.slice (some ⟨d, 0, none⟩) 7 24) ∧ Below d w w' ∧ w'.cell? ⟨d, 0, none⟩ = some (.int .u8 49) ∧ w'.cell? ⟨d, 1, none⟩ = some (.int .u8 46) ∧ w'.cell? ⟨d, 2, none⟩ = some (.int .u8 53) ∧ w'.cell? ⟨d, 3, none⟩ = some (.int .u8 101) ∧ w'.cell? ⟨d, 4, none⟩ = some (.int .u8 43) ∧ w'.cell? ⟨d, 5, none⟩ = some (.int .u8 48) ∧ w'.cell? ⟨d, 6, none⟩ = some (.int .u8 48) := by
  have r113 := run113
  have b1 : bits BinOp.and IntKind.i64 1023 2047 = 1023 := by kernel_rfl
  have b2 : bits BinOp.and IntKind.u64 4609434218613702656 4503599627370495 = 2251799813685248 := by kernel_rfl
  have b3 : bits BinOp.or IntKind.u64 2251799813685248 4503599627370496 = 6755399441055744 := by kernel_rfl
  have HC := Lib.hid hc
  have HT := Lib.hid hT
  clear hc hT
  go_enter Tryz.func181, Tryz.ntmps181
  go_wp2_with fail
  go_quiet (fail)
  go_wp2_with (go_at_call 161; refine (len53 _).mono ?_; rintro e w' ⟨rfl, rfl⟩)
  refine (short _ ?_ ?_).mono ?_
  · exact (HT.out.below (bdn nq (Below.refl w.heap.size w) |>.alloc (Nat.le_refl _) _) (Nat.le_refl _)).1
  · exact (HT.out.below (bdn nq (Below.refl w.heap.size w) |>.alloc (Nat.le_refl _) _) (Nat.le_refl _)).2.1
  rintro e w2 ⟨rfl, hb2⟩
  have z2 : w.heap.size + 1 ≤ w2.heap.size := by simpa using hb2.size
  have hB : Below w.heap.size w w2 := (bdn nq (Below.refl w.heap.size w) |>.alloc (Nat.le_refl _) _).trans (hb2.mono (by simp))
  have hbuf : ∀ j, j < 32 → w2.cell? ⟨w.heap.size, j, none⟩ = some (.int .u8 0) ∧ w2.frozen? ⟨w.heap.size, j, none⟩ = false := by
    intro j hj
    rw [hb2.cell (p := ⟨w.heap.size, j, none⟩) (by simp), hb2.frozen (p := ⟨w.heap.size, j, none⟩) (by simp)]
    refine ⟨?_, World.frozen?_alloc_at (w := w.drewN nq) _ _ w.heap.size j rfl⟩
    rw [World.cell?_alloc_at (w := w.drewN nq) _ _ w.heap.size j rfl]
    show (Array.replicate 32 (Value.int .u8 0))[j]? = _
    simp [hj]
  have hdc : ∀ j, j < 24 → w2.cell? ⟨d, j, none⟩ = some (.int .u8 0) ∧ w2.frozen? ⟨d, j, none⟩ = false := by
    intro j hj
    rw [hB.cell (p := ⟨d, j, none⟩) hd, hB.frozen (p := ⟨d, j, none⟩) hd]
    exact HC.out j hj
  have hT2 : Tabs w2 := HT.out.below hB (Nat.le_refl _)
  have HD := Lib.hid hdc
  have HU := Lib.hid hbuf
  have HT2 := Lib.hid hT2
  clear hdc hbuf hT2 hb2
  generalize hbn : w.heap.size = b at *
  have hbb : b < w2.heap.size := by omega
  go_wp2_with fail
  go_region_with (first | (go_at_call 125; refine (nd16 _ (by exact HT2.out)).mono ?_; rintro e w' ⟨rfl, rfl⟩) | (go_at_call 220; refine (setd _ b (by exact HU.out)).mono ?_; rintro e w3 ⟨rfl, hb3, hz3, c0, c1⟩))
  have hz3' : b < w3.heap.size := by rw [hz3]; exact hbb
  have hdc3 : ∀ j, j < 24 → w3.cell? ⟨d, j, none⟩ = some (.int .u8 0) ∧ w3.frozen? ⟨d, j, none⟩ = false := by
    intro j hj
    rw [hb3.cell (p := ⟨d, j, none⟩) hd, hb3.frozen (p := ⟨d, j, none⟩) hd]
    exact HD.out j hj
  have HD3 := Lib.hid hdc3
  have C0 := Lib.hid c0
  have C1 := Lib.hid c1
  have hB3 : Below b w w3 := (hB.drew).trans hb3
  have m2 : max (1 : Int) 0 = 1 := by decide
  clear hdc3 c0 c1 hz3 HU HT2 hbb HD hbn z2 HC HT hB hb3
  go_wp2_with fail
  refine (efg_e w3 d b (by omega) hz3' hd HD3.out C0.out C1.out).mono ?_
  rintro e w4 ⟨rfl, hb4, e0, e1, e2, e3, e4, e5, e6⟩
  go_wp2
  go_ret
  exact ⟨rfl, (hB3.mono (by omega)).trans hb4, e0, e1, e2, e3, e4, e5, e6⟩
set_option maxHeartbeats 1000000 in
theorem ftoa_f (w : World) (d : Nat) (hd : d < w.heap.size) (hc : ∀ j, j < 24 → w.cell? ⟨d, j, none⟩ = some (.int .u8 0) ∧ w.frozen? ⟨d, j, none⟩ = false) (hT : Tabs w) :
    Calls Tryz.prog 181 #[.slice (some ⟨d, 0, none⟩) 0 24, .float .f64 4609434218613702656, .int .u8 102, .int .i64 (-1)] w
      fun e w' => e = .returned (.slice (some ⟨d, 0, none⟩) 3 24) ∧ Below d w w' ∧ w'.cell? ⟨d, 0, none⟩ = some (.int .u8 49) ∧ w'.cell? ⟨d, 1, none⟩ = some (.int .u8 46) ∧ w'.cell? ⟨d, 2, none⟩ = some (.int .u8 53) := by
  have r113 := run113
  have b1 : bits BinOp.and IntKind.i64 1023 2047 = 1023 := by kernel_rfl
  have b2 : bits BinOp.and IntKind.u64 4609434218613702656 4503599627370495 = 2251799813685248 := by kernel_rfl
  have b3 : bits BinOp.or IntKind.u64 2251799813685248 4503599627370496 = 6755399441055744 := by kernel_rfl
  have HC := Lib.hid hc
  have HT := Lib.hid hT
  clear hc hT
  go_enter Tryz.func181, Tryz.ntmps181
  go_wp2_with fail
  go_quiet (fail)
  go_wp2_with (go_at_call 161; refine (len53 _).mono ?_; rintro e w' ⟨rfl, rfl⟩)
  refine (short _ ?_ ?_).mono ?_
  · exact (HT.out.below (bdn nq (Below.refl w.heap.size w) |>.alloc (Nat.le_refl _) _) (Nat.le_refl _)).1
  · exact (HT.out.below (bdn nq (Below.refl w.heap.size w) |>.alloc (Nat.le_refl _) _) (Nat.le_refl _)).2.1
  rintro e w2 ⟨rfl, hb2⟩
  have z2 : w.heap.size + 1 ≤ w2.heap.size := by simpa using hb2.size
  have hB : Below w.heap.size w w2 := (bdn nq (Below.refl w.heap.size w) |>.alloc (Nat.le_refl _) _).trans (hb2.mono (by simp))
  have hbuf : ∀ j, j < 32 → w2.cell? ⟨w.heap.size, j, none⟩ = some (.int .u8 0) ∧ w2.frozen? ⟨w.heap.size, j, none⟩ = false := by
    intro j hj
    rw [hb2.cell (p := ⟨w.heap.size, j, none⟩) (by simp), hb2.frozen (p := ⟨w.heap.size, j, none⟩) (by simp)]
    refine ⟨?_, World.frozen?_alloc_at (w := w.drewN nq) _ _ w.heap.size j rfl⟩
    rw [World.cell?_alloc_at (w := w.drewN nq) _ _ w.heap.size j rfl]
    show (Array.replicate 32 (Value.int .u8 0))[j]? = _
    simp [hj]
  have hdc : ∀ j, j < 24 → w2.cell? ⟨d, j, none⟩ = some (.int .u8 0) ∧ w2.frozen? ⟨d, j, none⟩ = false := by
    intro j hj
    rw [hB.cell (p := ⟨d, j, none⟩) hd, hB.frozen (p := ⟨d, j, none⟩) hd]
    exact HC.out j hj
  have hT2 : Tabs w2 := HT.out.below hB (Nat.le_refl _)
  have HD := Lib.hid hdc
  have HU := Lib.hid hbuf
  have HT2 := Lib.hid hT2
  clear hdc hbuf hT2 hb2
  generalize hbn : w.heap.size = b at *
  have hbb : b < w2.heap.size := by omega
  go_wp2_with fail
  go_region_with (first | (go_at_call 125; refine (nd16 _ (by exact HT2.out)).mono ?_; rintro e w' ⟨rfl, rfl⟩) | (go_at_call 220; refine (setd _ b (by exact HU.out)).mono ?_; rintro e w3 ⟨rfl, hb3, hz3, c0, c1⟩))
  have hz3' : b < w3.heap.size := by rw [hz3]; exact hbb
  have hdc3 : ∀ j, j < 24 → w3.cell? ⟨d, j, none⟩ = some (.int .u8 0) ∧ w3.frozen? ⟨d, j, none⟩ = false := by
    intro j hj
    rw [hb3.cell (p := ⟨d, j, none⟩) hd, hb3.frozen (p := ⟨d, j, none⟩) hd]
    exact HD.out j hj
  have HD3 := Lib.hid hdc3
  have C0 := Lib.hid c0
  have C1 := Lib.hid c1
  have hB3 : Below b w w3 := (hB.drew).trans hb3
  have m2 : max (1 : Int) 0 = 1 := by decide
  clear hdc3 c0 c1 hz3 HU HT2 hbb HD hbn z2 HC HT hB hb3
  go_wp2_with fail
  refine (efg_f w3 d b (by omega) hz3' hd HD3.out C0.out C1.out).mono ?_
  rintro e w4 ⟨rfl, hb4, e0, e1, e2⟩
  go_wp2
  go_ret
  exact ⟨rfl, (hB3.mono (by omega)).trans hb4, e0, e1, e2⟩

end Sf
end Go.Proofs.YtbnicnhkakbglaaGreatDoor
