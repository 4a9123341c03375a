/- The law TombCovers. -/
import Derived.Test.YtmlbmiegfeadjaaHk
namespace Go.Proofs.Ytmlbmiegfeadjaa
open Go.RowKit
namespace Hl
open Jb Ca Cz Ga Gm Gn Gt Gu Gw Gx Gy Gz Hb Hc Hd He Hf Hg Hh Hi Hj Hk

/-- One column of one point, of a literal. -/
theorem one_ci (w : World) (s f : ByteArray) (t : Int) (ht : -9223372036854775808 ≤ t ∧ t ≤ 9223372036854775807) (bp bc : Nat) (hp : w.heap[bp]? = some (.cells #[.int .i64 t, .int .i64 0, .int .u64 0, .string ⟨#[]⟩] 50)) (hc : w.heap[bc]? = some (.cells #[.string s, .string f, .slice (some ⟨bp, 0, none⟩) 1 1] 53)) :
    Ci w (.slice (some ⟨bc, 0, none⟩) 1 1) [((s, f), [(t, 0, 0, [])])] := by
  have lp : bp < w.heap.size := (Array.getElem?_eq_some_iff.1 hp).1
  have lc : bc < w.heap.size := (Array.getElem?_eq_some_iff.1 hc).1
  refine ⟨_, 1, rfl, fun i hi => ?_⟩
  obtain rfl : i = 0 := by simpa using hi
  refine ⟨bc, 0, some ⟨bp, 0, none⟩, 1, rfl, Nat.le_refl _, lc, by simp, cell_at hc 0, cell_at hc 1, cell_at hc 2, fun x hx => ?_, .inr ⟨bp, 0, 1, rfl, Nat.le_refl _, lp, fun j hj => ?_⟩⟩
  · obtain rfl : x = (t, 0, 0, []) := by simpa using hx
    refine ⟨ht, by simp only; omega, by simp only; omega, by simp only; omega, fun x hx => by cases hx⟩
  · obtain rfl : j = 0 := by simpa using hj
    refine ⟨cell_at hp 0, cell_at hp 1, cell_at hp 2, ?_⟩
    have := cell_at hp 3
    simpa [str_nil] using this
theorem apl_one (f : Ky → Int → Bool) (k : Ky) (p : Pnt) : (apl f [(k, [p])]).length = if f k p.1 then 0 else 1 := by
  unfold apl keep
  cases h : f k p.1 <;> simp [h]
set_option maxRecDepth 100000
set_option maxHeartbeats 8000000
theorem covers6 (w : World) (lv : Value) (L : List Tmb) (s0 f : ByteArray) (t0' which : Int) (hL : Ti w lv L) (hn : L.length * 56 ≤ 140737488355328) (ht : -9223372036854775808 ≤ t0' ∧ t0' ≤ 9223372036854775807) (_ : -9223372036854775808 ≤ which ∧ which ≤ 9223372036854775807) :
    Calls Try.prog 6 #[lv, .string s0, .string f, .int .i64 t0', .int .i64 which] w fun e w' => e = .returned (.bool true) ∧ Below w.heap.size w w' := by
  have A9 := Lib.hid (awake9 w)
  have TH := Lib.hid (fun (y : World) (hy : Below w.heap.size w y) => theirs12 y lv L (hL.below hy) (by omega))
  have AP := Lib.hid (fun (y y2 : World) (r cv : Value) (C : List Kp) (h : y2.ownsRow y.heap.size 57 4 r L.length (tcs L)) (hc : Ci y2 cv C) (h1 : C.length = 1) => apply18 y2 y.heap.size r cv L C h hL.1 hn hc (by omega))
  have CV := Lib.hid (fun (y y2 : World) (r : Value) (k : Ky) (t : Int) (h : y2.ownsRow y.heap.size 57 4 r L.length (tcs L)) => covers20 y2 r L (ti_own h hL.1) k t (by omega))
  have RC := Lib.hid (fun (y : World) (hy : Below w.heap.size w y) (k : Ky) (t : Int) => refcovers21 y lv L (hL.below hy) k t (by omega))
  obtain ⟨la, lc, rfl, hg⟩ := hL.get
  have HW := Lib.hid hL.1
  have HG := Lib.hid hg
  obtain ⟨n, hN⟩ : ∃ n, n = L.length := ⟨_, rfl⟩
  have HN := Lib.hid hN
  rw [← hN] at TH AP CV RC HG hn ⊢
  clear hL hg hN
  go_enter Try.func6, Try.ntmps6
  go_wp2_with fail
  refine A9.out.mono ?_
  rintro e w1 ⟨rfl, b1⟩
  have B1 := Lib.hid b1
  clear b1 A9
  by_cases h0 : n = 0
  · subst h0
    have hTT := ht
    go_upto_region 6 with (fail)
    have BZ := B1
    go_wp2_with fail
    refine (TH.out _ BZ.out).mono ?_
    rintro e w2 ⟨r, rfl, o2, b2⟩
    have B2 := Lib.hid (BZ.out.trans (b2.mono BZ.out.size))
    have hp := heap_alloc_new w2 (.cells #[.int .i64 t0', .int .i64 0, .int .u64 0, .string ⟨#[]⟩] 50)
    have bP := (Below.refl w2.heap.size w2).alloc (Nat.le_refl _) (.cells #[.int .i64 t0', .int .i64 0, .int .u64 0, .string ⟨#[]⟩] 50)
    have hc := heap_alloc_new (w2.alloc (.cells #[.int .i64 t0', .int .i64 0, .int .u64 0, .string ⟨#[]⟩] 50)) (.cells #[.string s0, .string f, .slice (some ⟨w2.heap.size, 0, none⟩) 1 1] 53)
    have bC := (Below.refl (w2.alloc (.cells #[.int .i64 t0', .int .i64 0, .int .u64 0, .string ⟨#[]⟩] 50)).heap.size (w2.alloc (.cells #[.int .i64 t0', .int .i64 0, .int .u64 0, .string ⟨#[]⟩] 50))).alloc (Nat.le_refl _) (.cells #[.string s0, .string f, .slice (some ⟨w2.heap.size, 0, none⟩) 1 1] 53)
    have hp2 := (bC.block w2.heap.size (by simp)).trans hp
    simp only [World.size_alloc] at hc
    have CI := one_ci ((w2.alloc (.cells #[.int .i64 t0', .int .i64 0, .int .u64 0, .string ⟨#[]⟩] 50)).alloc (.cells #[.string s0, .string f, .slice (some ⟨w2.heap.size, 0, none⟩) 1 1] 53)) s0 f t0' hTT w2.heap.size (w2.heap.size + 1) hp2 hc
    have A3 := Lib.hid (AP.out _ ((w2.alloc (.cells #[.int .i64 t0', .int .i64 0, .int .u64 0, .string ⟨#[]⟩] 50)).alloc (.cells #[.string s0, .string f, .slice (some ⟨w2.heap.size, 0, none⟩) 1 1] 53)) r _ _ ((o2.alloc (.cells #[.int .i64 t0', .int .i64 0, .int .u64 0, .string ⟨#[]⟩] 50)).alloc (.cells #[.string s0, .string f, .slice (some ⟨w2.heap.size, 0, none⟩) 1 1] 53)) CI rfl)
    have B2' := Lib.hid (B2.out.trans ((bP.trans (bC.mono (by simp))).mono B2.out.size))
    clear o2 b2 hp bP hc bC hp2 CI AP
    go_wp2_with fail
    refine A3.out.mono ?_
    rintro e w3 ⟨r3, R3, rfl, t3, e3, b3⟩
    have B3 := Lib.hid (B2'.out.trans (b3.mono B2'.out.size))
    have LR : R3.length = if cov L (s0, f) t0' then 0 else 1 := by rw [← tab_len R3, e3]; exact apl_one _ _ _
    obtain ⟨ra, rc, hr3⟩ := own_forms t3.own
    have TH4 := Lib.hid (TH.out w3 B3.out)
    rw [LR] at hr3
    clear b3 t3 e3 A3 LR
    cases hC : cov L (s0, f) t0' with
    | true =>
      rw [hC] at hr3
      have hr4 : r3 = .slice ra 0 rc := hr3
      subst hr4
      clear hr3
      go_wp2_with fail
      refine TH4.out.mono ?_
      rintro e w4 ⟨r4, rfl, o4, b4⟩
      have B4 := Lib.hid (B3.out.trans (b4.mono B3.out.size))
      have C4 := Lib.hid (CV.out _ w4 r4 (s0, f) t0' o4)
      rw [hC] at C4
      simp only at C4
      clear o4 b4
      go_wp2_with fail
      refine C4.out.mono ?_
      rintro e w5 ⟨rfl, b5⟩
      have B5 := Lib.hid (B4.out.trans (b5.mono B4.out.size))
      have C5 := Lib.hid (RC.out w5 B5.out (s0, f) t0')
      rw [hC] at C5
      simp only at C5
      clear b5
      go_wp2_with fail
      refine C5.out.mono ?_
      rintro e w6 ⟨rfl, rfl⟩
      go_wp2_with fail
      go_ret
      exact ⟨rfl, B5.out⟩
    | false =>
      rw [hC] at hr3
      have hr4 : r3 = .slice ra 1 rc := hr3
      subst hr4
      clear hr3
      go_wp2_with fail
      refine TH4.out.mono ?_
      rintro e w4 ⟨r4, rfl, o4, b4⟩
      have B4 := Lib.hid (B3.out.trans (b4.mono B3.out.size))
      have C4 := Lib.hid (CV.out _ w4 r4 (s0, f) t0' o4)
      rw [hC] at C4
      simp only at C4
      clear o4 b4
      go_wp2_with fail
      refine C4.out.mono ?_
      rintro e w5 ⟨rfl, b5⟩
      have B5 := Lib.hid (B4.out.trans (b5.mono B4.out.size))
      have C5 := Lib.hid (RC.out w5 B5.out (s0, f) t0')
      rw [hC] at C5
      simp only at C5
      clear b5
      go_wp2_with fail
      refine C5.out.mono ?_
      rintro e w6 ⟨rfl, rfl⟩
      go_wp2_with fail
      go_ret
      exact ⟨rfl, B5.out⟩
  have hn0 : (0 : Int) < (n : Int) := by omega
  by_cases h2 : which.tmod 2 = 0
  · obtain ⟨I, hI, hIn⟩ : ∃ I : Nat, wrap64 ((IntKind.u64.wrap which).tmod (n : Int)) = (I : Int) ∧ I < n := by
      have e1 : 0 ≤ IntKind.u64.wrap which := by rw [IntKind.wrap_u64]; omega
      have e2 : (IntKind.u64.wrap which).tmod (n : Int) = (IntKind.u64.wrap which) % (n : Int) := Int.tmod_eq_emod_of_nonneg e1
      have e3 := Int.emod_nonneg (IntKind.u64.wrap which) (show (n : Int) ≠ 0 by omega)
      have e4 := Int.emod_lt_of_pos (IntKind.u64.wrap which) hn0
      refine ⟨((IntKind.u64.wrap which) % (n : Int)).toNat, ?_, by omega⟩
      rw [e2]
      unfold wrap64
      omega
    obtain ⟨b, off, rfl, hnc, hb, hT⟩ := HG.out I hIn
    obtain ⟨x0, x1, x2, x3⟩ := hT w1 B1.out
    have hx := HW.out (L.getD I t0) (by rw [List.getD_eq_getElem?_getD, List.getElem?_eq_getElem (by rw [← HN.out]; exact hIn)]; exact List.getElem_mem _)
    generalize L.getD I t0 = x at x0 x1 x2 x3 hT hx
    obtain ⟨xs, xf, x4, x5⟩ := x
    have hTT := hx.1
    simp only at x0 x1 x2 x3 hTT
    have hbz : b < w1.heap.size := Nat.lt_of_lt_of_le hb B1.out.size
    clear hT HG hx
    go_upto_region 5 with (fail)
    have ha := heap_alloc_new w1 (.cells #[.string xs, .string xf, .int .i64 x4, .int .i64 x5] 44)
    have bA := (Below.refl w1.heap.size w1).alloc (Nat.le_refl _) (.cells #[.string xs, .string xf, .int .i64 x4, .int .i64 x5] 44)
    obtain ⟨W, hW⟩ : ∃ W, W = w1.alloc (.cells #[.string xs, .string xf, .int .i64 x4, .int .i64 x5] 44) := ⟨_, rfl⟩
    rw [← hW] at ha bA ⊢
    have z0 : W.cell? ⟨w1.heap.size, 0, none⟩ = some (.string xs) := cell_at ha 0
    have z2 : W.cell? ⟨w1.heap.size, 2, none⟩ = some (.int .i64 x4) := cell_at ha 2
    have BW := Lib.hid (B1.out.trans (bA.mono B1.out.size))
    clear hW ha bA x0 x1 x2 x3
    go_quiet (fail)
    have BZ := Lib.hid (bdn BW.out nq)
    clear z0 z2
    go_wp2_with fail
    refine (TH.out _ BZ.out).mono ?_
    rintro e w2 ⟨r, rfl, o2, b2⟩
    have B2 := Lib.hid (BZ.out.trans (b2.mono BZ.out.size))
    have hp := heap_alloc_new w2 (.cells #[.int .i64 x4, .int .i64 0, .int .u64 0, .string ⟨#[]⟩] 50)
    have bP := (Below.refl w2.heap.size w2).alloc (Nat.le_refl _) (.cells #[.int .i64 x4, .int .i64 0, .int .u64 0, .string ⟨#[]⟩] 50)
    have hc := heap_alloc_new (w2.alloc (.cells #[.int .i64 x4, .int .i64 0, .int .u64 0, .string ⟨#[]⟩] 50)) (.cells #[.string xs, .string f, .slice (some ⟨w2.heap.size, 0, none⟩) 1 1] 53)
    have bC := (Below.refl (w2.alloc (.cells #[.int .i64 x4, .int .i64 0, .int .u64 0, .string ⟨#[]⟩] 50)).heap.size (w2.alloc (.cells #[.int .i64 x4, .int .i64 0, .int .u64 0, .string ⟨#[]⟩] 50))).alloc (Nat.le_refl _) (.cells #[.string xs, .string f, .slice (some ⟨w2.heap.size, 0, none⟩) 1 1] 53)
    have hp2 := (bC.block w2.heap.size (by simp)).trans hp
    simp only [World.size_alloc] at hc
    have CI := one_ci ((w2.alloc (.cells #[.int .i64 x4, .int .i64 0, .int .u64 0, .string ⟨#[]⟩] 50)).alloc (.cells #[.string xs, .string f, .slice (some ⟨w2.heap.size, 0, none⟩) 1 1] 53)) xs f x4 hTT w2.heap.size (w2.heap.size + 1) hp2 hc
    have A3 := Lib.hid (AP.out _ ((w2.alloc (.cells #[.int .i64 x4, .int .i64 0, .int .u64 0, .string ⟨#[]⟩] 50)).alloc (.cells #[.string xs, .string f, .slice (some ⟨w2.heap.size, 0, none⟩) 1 1] 53)) r _ _ ((o2.alloc (.cells #[.int .i64 x4, .int .i64 0, .int .u64 0, .string ⟨#[]⟩] 50)).alloc (.cells #[.string xs, .string f, .slice (some ⟨w2.heap.size, 0, none⟩) 1 1] 53)) CI rfl)
    have B2' := Lib.hid (B2.out.trans ((bP.trans (bC.mono (by simp))).mono B2.out.size))
    clear o2 b2 hp bP hc bC hp2 CI AP
    go_wp2_with fail
    refine A3.out.mono ?_
    rintro e w3 ⟨r3, R3, rfl, t3, e3, b3⟩
    have B3 := Lib.hid (B2'.out.trans (b3.mono B2'.out.size))
    have LR : R3.length = if cov L (xs, f) x4 then 0 else 1 := by rw [← tab_len R3, e3]; exact apl_one _ _ _
    obtain ⟨ra, rc, hr3⟩ := own_forms t3.own
    have TH4 := Lib.hid (TH.out w3 B3.out)
    rw [LR] at hr3
    clear b3 t3 e3 A3 LR
    cases hC : cov L (xs, f) x4 with
    | true =>
      rw [hC] at hr3
      have hr4 : r3 = .slice ra 0 rc := hr3
      subst hr4
      clear hr3
      go_wp2_with fail
      refine TH4.out.mono ?_
      rintro e w4 ⟨r4, rfl, o4, b4⟩
      have B4 := Lib.hid (B3.out.trans (b4.mono B3.out.size))
      have C4 := Lib.hid (CV.out _ w4 r4 (xs, f) x4 o4)
      rw [hC] at C4
      simp only at C4
      clear o4 b4
      go_wp2_with fail
      refine C4.out.mono ?_
      rintro e w5 ⟨rfl, b5⟩
      have B5 := Lib.hid (B4.out.trans (b5.mono B4.out.size))
      have C5 := Lib.hid (RC.out w5 B5.out (xs, f) x4)
      rw [hC] at C5
      simp only at C5
      clear b5
      go_wp2_with fail
      refine C5.out.mono ?_
      rintro e w6 ⟨rfl, rfl⟩
      go_wp2_with fail
      go_ret
      exact ⟨rfl, B5.out⟩
    | false =>
      rw [hC] at hr3
      have hr4 : r3 = .slice ra 1 rc := hr3
      subst hr4
      clear hr3
      go_wp2_with fail
      refine TH4.out.mono ?_
      rintro e w4 ⟨r4, rfl, o4, b4⟩
      have B4 := Lib.hid (B3.out.trans (b4.mono B3.out.size))
      have C4 := Lib.hid (CV.out _ w4 r4 (xs, f) x4 o4)
      rw [hC] at C4
      simp only at C4
      clear o4 b4
      go_wp2_with fail
      refine C4.out.mono ?_
      rintro e w5 ⟨rfl, b5⟩
      have B5 := Lib.hid (B4.out.trans (b5.mono B4.out.size))
      have C5 := Lib.hid (RC.out w5 B5.out (xs, f) x4)
      rw [hC] at C5
      simp only at C5
      clear b5
      go_wp2_with fail
      refine C5.out.mono ?_
      rintro e w6 ⟨rfl, rfl⟩
      go_wp2_with fail
      go_ret
      exact ⟨rfl, B5.out⟩
  · have hTT := ht
    have h2' : (which.tmod 2 == 0) = false := by simpa using h2
    go_upto_region 6 with (fail)
    have BZ := B1
    go_wp2_with fail
    refine (TH.out _ BZ.out).mono ?_
    rintro e w2 ⟨r, rfl, o2, b2⟩
    have B2 := Lib.hid (BZ.out.trans (b2.mono BZ.out.size))
    have hp := heap_alloc_new w2 (.cells #[.int .i64 t0', .int .i64 0, .int .u64 0, .string ⟨#[]⟩] 50)
    have bP := (Below.refl w2.heap.size w2).alloc (Nat.le_refl _) (.cells #[.int .i64 t0', .int .i64 0, .int .u64 0, .string ⟨#[]⟩] 50)
    have hc := heap_alloc_new (w2.alloc (.cells #[.int .i64 t0', .int .i64 0, .int .u64 0, .string ⟨#[]⟩] 50)) (.cells #[.string s0, .string f, .slice (some ⟨w2.heap.size, 0, none⟩) 1 1] 53)
    have bC := (Below.refl (w2.alloc (.cells #[.int .i64 t0', .int .i64 0, .int .u64 0, .string ⟨#[]⟩] 50)).heap.size (w2.alloc (.cells #[.int .i64 t0', .int .i64 0, .int .u64 0, .string ⟨#[]⟩] 50))).alloc (Nat.le_refl _) (.cells #[.string s0, .string f, .slice (some ⟨w2.heap.size, 0, none⟩) 1 1] 53)
    have hp2 := (bC.block w2.heap.size (by simp)).trans hp
    simp only [World.size_alloc] at hc
    have CI := one_ci ((w2.alloc (.cells #[.int .i64 t0', .int .i64 0, .int .u64 0, .string ⟨#[]⟩] 50)).alloc (.cells #[.string s0, .string f, .slice (some ⟨w2.heap.size, 0, none⟩) 1 1] 53)) s0 f t0' hTT w2.heap.size (w2.heap.size + 1) hp2 hc
    have A3 := Lib.hid (AP.out _ ((w2.alloc (.cells #[.int .i64 t0', .int .i64 0, .int .u64 0, .string ⟨#[]⟩] 50)).alloc (.cells #[.string s0, .string f, .slice (some ⟨w2.heap.size, 0, none⟩) 1 1] 53)) r _ _ ((o2.alloc (.cells #[.int .i64 t0', .int .i64 0, .int .u64 0, .string ⟨#[]⟩] 50)).alloc (.cells #[.string s0, .string f, .slice (some ⟨w2.heap.size, 0, none⟩) 1 1] 53)) CI rfl)
    have B2' := Lib.hid (B2.out.trans ((bP.trans (bC.mono (by simp))).mono B2.out.size))
    clear o2 b2 hp bP hc bC hp2 CI AP
    go_wp2_with fail
    refine A3.out.mono ?_
    rintro e w3 ⟨r3, R3, rfl, t3, e3, b3⟩
    have B3 := Lib.hid (B2'.out.trans (b3.mono B2'.out.size))
    have LR : R3.length = if cov L (s0, f) t0' then 0 else 1 := by rw [← tab_len R3, e3]; exact apl_one _ _ _
    obtain ⟨ra, rc, hr3⟩ := own_forms t3.own
    have TH4 := Lib.hid (TH.out w3 B3.out)
    rw [LR] at hr3
    clear b3 t3 e3 A3 LR
    cases hC : cov L (s0, f) t0' with
    | true =>
      rw [hC] at hr3
      have hr4 : r3 = .slice ra 0 rc := hr3
      subst hr4
      clear hr3
      go_wp2_with fail
      refine TH4.out.mono ?_
      rintro e w4 ⟨r4, rfl, o4, b4⟩
      have B4 := Lib.hid (B3.out.trans (b4.mono B3.out.size))
      have C4 := Lib.hid (CV.out _ w4 r4 (s0, f) t0' o4)
      rw [hC] at C4
      simp only at C4
      clear o4 b4
      go_wp2_with fail
      refine C4.out.mono ?_
      rintro e w5 ⟨rfl, b5⟩
      have B5 := Lib.hid (B4.out.trans (b5.mono B4.out.size))
      have C5 := Lib.hid (RC.out w5 B5.out (s0, f) t0')
      rw [hC] at C5
      simp only at C5
      clear b5
      go_wp2_with fail
      refine C5.out.mono ?_
      rintro e w6 ⟨rfl, rfl⟩
      go_wp2_with fail
      go_ret
      exact ⟨rfl, B5.out⟩
    | false =>
      rw [hC] at hr3
      have hr4 : r3 = .slice ra 1 rc := hr3
      subst hr4
      clear hr3
      go_wp2_with fail
      refine TH4.out.mono ?_
      rintro e w4 ⟨r4, rfl, o4, b4⟩
      have B4 := Lib.hid (B3.out.trans (b4.mono B3.out.size))
      have C4 := Lib.hid (CV.out _ w4 r4 (s0, f) t0' o4)
      rw [hC] at C4
      simp only at C4
      clear o4 b4
      go_wp2_with fail
      refine C4.out.mono ?_
      rintro e w5 ⟨rfl, b5⟩
      have B5 := Lib.hid (B4.out.trans (b5.mono B4.out.size))
      have C5 := Lib.hid (RC.out w5 B5.out (s0, f) t0')
      rw [hC] at C5
      simp only at C5
      clear b5
      go_wp2_with fail
      refine C5.out.mono ?_
      rintro e w6 ⟨rfl, rfl⟩
      go_wp2_with fail
      go_ret
      exact ⟨rfl, B5.out⟩
end Hl
end Go.Proofs.Ytmlbmiegfeadjaa
