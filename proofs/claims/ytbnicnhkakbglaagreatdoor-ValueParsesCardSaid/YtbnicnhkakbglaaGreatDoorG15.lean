import Derived.Test.YtbnicnhkakbglaaGreatDoorG09
import Derived.Test.YtbnicnhkakbglaaGreatDoorG02
import Derived.WalkMore

/- Small numbers, exactly. -/
namespace Go.Proofs.YtbnicnhkakbglaaGreatDoor
open Go.RowKit
namespace Us
open Fq

/-- The table of powers of ten, as floats. -/
structure Ft (w : World) (pv : Nat → Nat) : Prop where
  mant : w.cell? ⟨7, 0, none⟩ = some (.int .u64 52)
  tab : ∃ tb ob, w.cell? ⟨10, 0, none⟩ = some (.slice (some ⟨tb, ob, none⟩) 23 23) ∧ ∀ i, i < 23 → w.cell? ⟨tb, ob + i, none⟩ = some (.float .f64 (pv i))

set_option maxRecDepth 100000 in
set_option maxHeartbeats 1000000 in
theorem exact99 (pv : Nat → Nat) (hpv : ∀ i, i < 23 → Pw (pv i)) (M : Nat) (e : Int) (ng : Bool) (hM : M < 18446744073709551616) (he : -100000 ≤ e ∧ e ≤ 100000) :
    ∃ v b, (b = true → Fnt v) ∧ ∀ w, Ft w pv → Calls Tryz.prog 193 #[.int .u64 (M : Nat), .int .i64 e, .bool ng] w fun x w' => x = .returned (.tuple #[.float .f64 v, .bool b]) ∧ ∃ m, w' = w.drewN m := by
  obtain ⟨he1, he2⟩ := he
  by_cases h52 : M / 4503599627370496 = 0
  · obtain ⟨F, hF⟩ : ∃ f, f = floatOfInt .f64 (M : Int) := ⟨_, rfl⟩
    have hN := nn_int (M : Int)
    have hL0 : Lo 65 (floatOfInt .f64 (M : Int)) := lo_int _ (by omega)
    rw [← hF] at hN hL0
    have hF' := hF.symm
    clear hF
    have hneg : ∀ w, (Op.unary UnOp.neg (.float .f64 F)).run Tryz.prog w = .ok (.float .f64 (F ^^^ 2 ^ 63)) w := fun _ => rfl
    have hN2 := nn_neg hN
    have hL2 := lo_neg hL0
    obtain ⟨G, hG⟩ : ∃ g, g = F ^^^ 2 ^ 63 := ⟨_, rfl⟩
    rw [← hG] at hN2 hL2 hneg
    clear hG
    cases ng with
    | true =>
      by_cases h0 : e = 0
      · subst h0
        refine ⟨G, true, fun _ => hL2.fin, fun w hw => ?_⟩
        have c6 := hw.mant
        go_enter Tryz.func193, Tryz.ntmps193
        go_wp2_with fail
        go_ret2
        exact ⟨rfl, 0, rfl⟩
      · by_cases h1 : 0 < e ∧ e ≤ 37
        · obtain ⟨h1, h2⟩ := h1
          have h1a : decide (0 < e) = true := decide_eq_true h1
          have h2a : decide (e ≤ 37) = true := decide_eq_true h2
          by_cases h22 : 22 < e
          · obtain ⟨I, hI⟩ : ∃ I : Nat, e - 22 = (I : Int) := ⟨(e - 22).toNat, by omega⟩
            have hI1 : I < 23 := by omega
            obtain ⟨r1, hr1, hn1⟩ := nn_mul hN2 (hpv I hI1).nz
            have f1 := lo_mul hL2 (hpv I hI1).lo (by omega) (by omega) (by omega) (by omega) hr1
            have hm1 : ∀ w, (binOp .mul 63 (.float .f64 G) (.float .f64 (pv I))).run Tryz.prog w = .ok (.float .f64 r1) w := fun w => run_float_arith w _ _ _ _ _ _ hr1
            obtain ⟨r2, hr2, hn2⟩ := nn_mul hn1 (hpv 22 (by omega)).nz
            have f2 := lo_mul f1 (hpv 22 (by omega)).lo (by omega) (by omega) (by omega) (by omega) hr2
            have hm2 : ∀ w, (binOp .mul 63 (.float .f64 r1) (.float .f64 (pv 22))).run Tryz.prog w = .ok (.float .f64 r2) w := fun w => run_float_arith w _ _ _ _ _ _ hr2
            clear hr1 hr2 hn1 hn2
            cases hB1 : (FloatKind.f64.format.order r1 4831355200913801216 == some Ordering.gt) with
            | true =>
              refine ⟨r1, false, fun h => (by cases h), fun w hw => ?_⟩
              have c6 := hw.mant
              obtain ⟨tb, ob, t0, tall⟩ := hw.tab
              have t_I := tall I (by omega)
              have t_22 := tall 22 (by omega)
              clear tall
              go_enter Tryz.func193, Tryz.ntmps193
              go_wp2_with fail
              go_ret2
              exact ⟨rfl, 0, rfl⟩
            | false =>
              cases hB2 : (FloatKind.f64.format.order r1 14054727237768577024 == some Ordering.lt) with
              | true =>
                refine ⟨r1, false, fun h => (by cases h), fun w hw => ?_⟩
                have c6 := hw.mant
                obtain ⟨tb, ob, t0, tall⟩ := hw.tab
                have t_I := tall I (by omega)
                have t_22 := tall 22 (by omega)
                clear tall
                go_enter Tryz.func193, Tryz.ntmps193
                go_wp2_with fail
                go_ret2
                exact ⟨rfl, 0, rfl⟩
              | false =>
                refine ⟨r2, true, fun _ => f2.fin, fun w hw => ?_⟩
                have c6 := hw.mant
                obtain ⟨tb, ob, t0, tall⟩ := hw.tab
                have t_I := tall I (by omega)
                have t_22 := tall 22 (by omega)
                clear tall
                go_enter Tryz.func193, Tryz.ntmps193
                go_wp2_with fail
                go_ret2
                exact ⟨rfl, 0, rfl⟩
          · obtain ⟨K, rfl⟩ : ∃ K : Nat, e = (K : Int) := ⟨e.toNat, by omega⟩
            have hK1 : K < 23 := by omega
            obtain ⟨r1, hr1, hn1⟩ := nn_mul hN2 (hpv K hK1).nz
            have f1 := lo_mul hL2 (hpv K hK1).lo (by omega) (by omega) (by omega) (by omega) hr1
            have hm1 : ∀ w, (binOp .mul 63 (.float .f64 G) (.float .f64 (pv K))).run Tryz.prog w = .ok (.float .f64 r1) w := fun w => run_float_arith w _ _ _ _ _ _ hr1
            clear hr1 hn1
            cases hB1 : (FloatKind.f64.format.order G 4831355200913801216 == some Ordering.gt) with
            | true =>
              refine ⟨G, false, fun h => (by cases h), fun w hw => ?_⟩
              have c6 := hw.mant
              obtain ⟨tb, ob, t0, tall⟩ := hw.tab
              have t_K := tall K (by omega)
              clear tall
              go_enter Tryz.func193, Tryz.ntmps193
              go_wp2_with fail
              go_ret2
              exact ⟨rfl, 0, rfl⟩
            | false =>
              cases hB2 : (FloatKind.f64.format.order G 14054727237768577024 == some Ordering.lt) with
              | true =>
                refine ⟨G, false, fun h => (by cases h), fun w hw => ?_⟩
                have c6 := hw.mant
                obtain ⟨tb, ob, t0, tall⟩ := hw.tab
                have t_K := tall K (by omega)
                clear tall
                go_enter Tryz.func193, Tryz.ntmps193
                go_wp2_with fail
                go_ret2
                exact ⟨rfl, 0, rfl⟩
              | false =>
                refine ⟨r1, true, fun _ => f1.fin, fun w hw => ?_⟩
                have c6 := hw.mant
                obtain ⟨tb, ob, t0, tall⟩ := hw.tab
                have t_K := tall K (by omega)
                clear tall
                go_enter Tryz.func193, Tryz.ntmps193
                go_wp2_with fail
                go_ret2
                exact ⟨rfl, 0, rfl⟩
        · by_cases h3 : e < 0 ∧ -22 ≤ e
          · obtain ⟨K, hK⟩ : ∃ K : Nat, -e = (K : Int) := ⟨(-e).toNat, by omega⟩
            have hK1 : K < 23 := by omega
            obtain ⟨r1, hr1, hn1⟩ := nn_div hN2 (hpv K hK1).nz
            have f1 := lo_div hL2 (hpv K hK1) (by omega) (by omega) hr1
            have hm1 : ∀ w, (binOp .quo 63 (.float .f64 G) (.float .f64 (pv K))).run Tryz.prog w = .ok (.float .f64 r1) w := fun w => run_float_arith w _ _ _ _ _ _ hr1
            clear hr1 hn1
            have h3a : decide (e < 0) = true := decide_eq_true (by omega)
            have h3b : decide (0 < e) = false := by rw [decide_eq_false_iff_not]; omega
            have h3c : decide (-22 ≤ e) = true := decide_eq_true (by omega)
            refine ⟨r1, true, fun _ => f1.fin, fun w hw => ?_⟩
            have c6 := hw.mant
            obtain ⟨tb, ob, t0, tall⟩ := hw.tab
            have t_K := tall K (by omega)
            clear tall
            go_enter Tryz.func193, Tryz.ntmps193
            go_wp2_with fail
            go_ret2
            exact ⟨rfl, 0, rfl⟩
          · by_cases hp : 0 < e
            · have hq : 37 < e := by omega
              refine ⟨G, false, fun h => (by cases h), fun w hw => ?_⟩
              have c6 := hw.mant
              go_enter Tryz.func193, Tryz.ntmps193
              go_wp2_with fail
              go_ret2
              exact ⟨rfl, 0, rfl⟩
            · have hq : e < -22 := by omega
              refine ⟨G, false, fun h => (by cases h), fun w hw => ?_⟩
              have c6 := hw.mant
              go_enter Tryz.func193, Tryz.ntmps193
              go_wp2_with fail
              go_ret2
              exact ⟨rfl, 0, rfl⟩
    | false =>
      by_cases h0 : e = 0
      · subst h0
        refine ⟨F, true, fun _ => hL0.fin, fun w hw => ?_⟩
        have c6 := hw.mant
        go_enter Tryz.func193, Tryz.ntmps193
        go_wp2_with fail
        go_ret2
        exact ⟨rfl, 0, rfl⟩
      · by_cases h1 : 0 < e ∧ e ≤ 37
        · obtain ⟨h1, h2⟩ := h1
          have h1a : decide (0 < e) = true := decide_eq_true h1
          have h2a : decide (e ≤ 37) = true := decide_eq_true h2
          by_cases h22 : 22 < e
          · obtain ⟨I, hI⟩ : ∃ I : Nat, e - 22 = (I : Int) := ⟨(e - 22).toNat, by omega⟩
            have hI1 : I < 23 := by omega
            obtain ⟨r1, hr1, hn1⟩ := nn_mul hN (hpv I hI1).nz
            have f1 := lo_mul hL0 (hpv I hI1).lo (by omega) (by omega) (by omega) (by omega) hr1
            have hm1 : ∀ w, (binOp .mul 63 (.float .f64 F) (.float .f64 (pv I))).run Tryz.prog w = .ok (.float .f64 r1) w := fun w => run_float_arith w _ _ _ _ _ _ hr1
            obtain ⟨r2, hr2, hn2⟩ := nn_mul hn1 (hpv 22 (by omega)).nz
            have f2 := lo_mul f1 (hpv 22 (by omega)).lo (by omega) (by omega) (by omega) (by omega) hr2
            have hm2 : ∀ w, (binOp .mul 63 (.float .f64 r1) (.float .f64 (pv 22))).run Tryz.prog w = .ok (.float .f64 r2) w := fun w => run_float_arith w _ _ _ _ _ _ hr2
            clear hr1 hr2 hn1 hn2
            cases hB1 : (FloatKind.f64.format.order r1 4831355200913801216 == some Ordering.gt) with
            | true =>
              refine ⟨r1, false, fun h => (by cases h), fun w hw => ?_⟩
              have c6 := hw.mant
              obtain ⟨tb, ob, t0, tall⟩ := hw.tab
              have t_I := tall I (by omega)
              have t_22 := tall 22 (by omega)
              clear tall
              go_enter Tryz.func193, Tryz.ntmps193
              go_wp2_with fail
              go_ret2
              exact ⟨rfl, 0, rfl⟩
            | false =>
              cases hB2 : (FloatKind.f64.format.order r1 14054727237768577024 == some Ordering.lt) with
              | true =>
                refine ⟨r1, false, fun h => (by cases h), fun w hw => ?_⟩
                have c6 := hw.mant
                obtain ⟨tb, ob, t0, tall⟩ := hw.tab
                have t_I := tall I (by omega)
                have t_22 := tall 22 (by omega)
                clear tall
                go_enter Tryz.func193, Tryz.ntmps193
                go_wp2_with fail
                go_ret2
                exact ⟨rfl, 0, rfl⟩
              | false =>
                refine ⟨r2, true, fun _ => f2.fin, fun w hw => ?_⟩
                have c6 := hw.mant
                obtain ⟨tb, ob, t0, tall⟩ := hw.tab
                have t_I := tall I (by omega)
                have t_22 := tall 22 (by omega)
                clear tall
                go_enter Tryz.func193, Tryz.ntmps193
                go_wp2_with fail
                go_ret2
                exact ⟨rfl, 0, rfl⟩
          · obtain ⟨K, rfl⟩ : ∃ K : Nat, e = (K : Int) := ⟨e.toNat, by omega⟩
            have hK1 : K < 23 := by omega
            obtain ⟨r1, hr1, hn1⟩ := nn_mul hN (hpv K hK1).nz
            have f1 := lo_mul hL0 (hpv K hK1).lo (by omega) (by omega) (by omega) (by omega) hr1
            have hm1 : ∀ w, (binOp .mul 63 (.float .f64 F) (.float .f64 (pv K))).run Tryz.prog w = .ok (.float .f64 r1) w := fun w => run_float_arith w _ _ _ _ _ _ hr1
            clear hr1 hn1
            cases hB1 : (FloatKind.f64.format.order F 4831355200913801216 == some Ordering.gt) with
            | true =>
              refine ⟨F, false, fun h => (by cases h), fun w hw => ?_⟩
              have c6 := hw.mant
              obtain ⟨tb, ob, t0, tall⟩ := hw.tab
              have t_K := tall K (by omega)
              clear tall
              go_enter Tryz.func193, Tryz.ntmps193
              go_wp2_with fail
              go_ret2
              exact ⟨rfl, 0, rfl⟩
            | false =>
              cases hB2 : (FloatKind.f64.format.order F 14054727237768577024 == some Ordering.lt) with
              | true =>
                refine ⟨F, false, fun h => (by cases h), fun w hw => ?_⟩
                have c6 := hw.mant
                obtain ⟨tb, ob, t0, tall⟩ := hw.tab
                have t_K := tall K (by omega)
                clear tall
                go_enter Tryz.func193, Tryz.ntmps193
                go_wp2_with fail
                go_ret2
                exact ⟨rfl, 0, rfl⟩
              | false =>
                refine ⟨r1, true, fun _ => f1.fin, fun w hw => ?_⟩
                have c6 := hw.mant
                obtain ⟨tb, ob, t0, tall⟩ := hw.tab
                have t_K := tall K (by omega)
                clear tall
                go_enter Tryz.func193, Tryz.ntmps193
                go_wp2_with fail
                go_ret2
                exact ⟨rfl, 0, rfl⟩
        · by_cases h3 : e < 0 ∧ -22 ≤ e
          · obtain ⟨K, hK⟩ : ∃ K : Nat, -e = (K : Int) := ⟨(-e).toNat, by omega⟩
            have hK1 : K < 23 := by omega
            obtain ⟨r1, hr1, hn1⟩ := nn_div hN (hpv K hK1).nz
            have f1 := lo_div hL0 (hpv K hK1) (by omega) (by omega) hr1
            have hm1 : ∀ w, (binOp .quo 63 (.float .f64 F) (.float .f64 (pv K))).run Tryz.prog w = .ok (.float .f64 r1) w := fun w => run_float_arith w _ _ _ _ _ _ hr1
            clear hr1 hn1
            have h3a : decide (e < 0) = true := decide_eq_true (by omega)
            have h3b : decide (0 < e) = false := by rw [decide_eq_false_iff_not]; omega
            have h3c : decide (-22 ≤ e) = true := decide_eq_true (by omega)
            refine ⟨r1, true, fun _ => f1.fin, fun w hw => ?_⟩
            have c6 := hw.mant
            obtain ⟨tb, ob, t0, tall⟩ := hw.tab
            have t_K := tall K (by omega)
            clear tall
            go_enter Tryz.func193, Tryz.ntmps193
            go_wp2_with fail
            go_ret2
            exact ⟨rfl, 0, rfl⟩
          · by_cases hp : 0 < e
            · have hq : 37 < e := by omega
              refine ⟨F, false, fun h => (by cases h), fun w hw => ?_⟩
              have c6 := hw.mant
              go_enter Tryz.func193, Tryz.ntmps193
              go_wp2_with fail
              go_ret2
              exact ⟨rfl, 0, rfl⟩
            · have hq : e < -22 := by omega
              refine ⟨F, false, fun h => (by cases h), fun w hw => ?_⟩
              have c6 := hw.mant
              go_enter Tryz.func193, Tryz.ntmps193
              go_wp2_with fail
              go_ret2
              exact ⟨rfl, 0, rfl⟩
  · have h52b : ((M : Int) / 4503599627370496 != 0) = true := by simp; omega
    refine ⟨0, false, fun h => (by cases h), fun w hw => ?_⟩
    have c6 := hw.mant
    go_enter Tryz.func193, Tryz.ntmps193
    go_wp2_with fail
    go_ret2
    exact ⟨rfl, 0, rfl⟩
end Us
end Go.Proofs.YtbnicnhkakbglaaGreatDoor
