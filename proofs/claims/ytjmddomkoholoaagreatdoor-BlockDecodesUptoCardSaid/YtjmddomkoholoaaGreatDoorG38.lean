import Derived.Test.YtjmddomkoholoaaGreatDoorG37
import Derived.Lib.SlBytesConst

/- The laws' first question. -/
namespace Go.Proofs.YtjmddomkoholoaaGreatDoor
open Go.RowKit
namespace Kw
open Cm Wr Bm Pk Zs Vs Fo Cv Kd Kp Ke

def P1 : List Pnt := [(5, 3, 1, [])]
theorem enc1 : enc8 P1 = (0, lay 3 (Tm.bytesOf [5]) [128]) := by rfl
theorem enc1_len : (enc8 P1).2.length = 21 := by rw [enc1, lay_len]; rfl
theorem enc1_hd : (u8s (enc8 P1).2)[0]? = some (.int .u8 3) := by rw [enc1]; rfl
abbrev w1 (w : World) : World := w.alloc (Obj.cells #[.int .i64 5, .int .i64 3, .int .u64 1, .string { data := #[] }] 37)
theorem pi1 (w : World) : Pi (w1 w) (.slice (some ⟨w.heap.size, 0, none⟩) 1 1) P1 := by
  refine ⟨?_, .inr ⟨w.heap.size, 0, 1, rfl, by decide, by simp, fun i hi => ?_⟩⟩
  · intro x hx
    simp only [P1, List.mem_cons, List.not_mem_nil, or_false] at hx
    subst hx
    exact ⟨by decide, by decide, by decide, by decide, fun y hy => by cases hy⟩
  · have hi' : i = 0 := by simp [P1] at hi; omega
    subst hi'
    refine ⟨?_, ?_, ?_, ?_⟩ <;> simp only [Nat.zero_mul, Nat.zero_add] <;> (refine (World.cell?_alloc_new _ _ _ _).trans ?_) <;> simp [P1, str_nil]
set_option maxRecDepth 100000 in
set_option maxHeartbeats 1000000 in
theorem awake14 (w : World) (hT : Tab w) (hD : Dt w) : Calls Tryz.prog 6 #[] w fun e w' => e = .returned (.bool true) ∧ Below w.heap.size w w' := by
  have B1 := Lib.hid (show Below w.heap.size w (w1 w) from (Below.refl _ _).alloc (Nat.le_refl _) _)
  have FE := Lib.hid (encode16 (w1 w) _ P1 (pi1 w) (by decide) (hT.below B1.out hT.1) (hD.below B1.out (by have := hD.1; omega)))
  clear hT hD
  go_enter Tryz.func6, Tryz.ntmps6
  go_wp2_with fail
  refine FE.out.mono ?_
  rintro e w4 ⟨r, rfl, o4, b4⟩
  rw [enc1_len] at o4
  have hc0 : ((enc8 P1).1 : Int) = 0 := by rw [enc1]; rfl
  rw [hc0]
  have B4 := Lib.hid (B1.out.trans (b4.mono B1.out.size))
  obtain ⟨g, c, hr⟩ := Go.Joins.ownsRow_form o4 (by decide)
  subst hr
  have hc : w4.cell? ⟨g, 0, none⟩ = some (.int .u8 3) := by
    have := o4.cells rfl 0 _ enc1_hd
    simpa [Addr.add] using this
  have hcv := Lib.run_convert_bytes_const (P := Tryz.prog) w4 22 5 #[.int .u8 49, .int .u8 50, .int .u8 51, .int .u8 52, .int .u8 53, .int .u8 54, .int .u8 55, .int .u8 56, .int .u8 57] 9 9 Tryz.underlying22 Tryz.underlying5
  have FS := Lib.hid (Ks.sum_small (w4.alloc (.cells #[.int .u8 49, .int .u8 50, .int .u8 51, .int .u8 52, .int .u8 53, .int .u8 54, .int .u8 55, .int .u8 56, .int .u8 57] 5 (9, 10))) w4.heap.size 0 9 9 [49, 50, 51, 52, 53, 54, 55, 56, 57] (by decide) rfl (by decide) (fun i hi => by
    rw [World.cell?_alloc_mark]
    rcases (show i = 0 ∨ i = 1 ∨ i = 2 ∨ i = 3 ∨ i = 4 ∨ i = 5 ∨ i = 6 ∨ i = 7 ∨ i = 8 by omega) with rfl | rfl | rfl | rfl | rfl | rfl | rfl | rfl | rfl <;> rfl))
  rw [Kc.sum_check] at FS
  have B5 := Lib.hid (B4.out.alloc B4.out.size (.cells #[.int .u8 49, .int .u8 50, .int .u8 51, .int .u8 52, .int .u8 53, .int .u8 54, .int .u8 55, .int .u8 56, .int .u8 57] 5 (9, 10)))
  clear b4 o4
  go_wp2_with (first | rw [hcv] | (go_at_call 11; refine FS.out.mono ?_; rintro e w5 ⟨rfl, h5⟩; rw [h5]; clear h5 w5))
  go_ret
  exact ⟨rfl, B5.out⟩
end Kw
end Go.Proofs.YtjmddomkoholoaaGreatDoor
