import Derived.Test.YtbnicnhkakbglaaGreatDoorG11

/- Rounding a decimal to a whole number. -/
namespace Go.Proofs.YtbnicnhkakbglaaGreatDoor
open Go.RowKit
namespace Dc
open Us

set_option maxRecDepth 100000 in
set_option maxHeartbeats 1000000 in
theorem round147 (B : Nat → Nat) (nd : Nat) (dp : Int) (ng tr : Bool) (k : Int) (hn : nd ≤ 800) (hB : ∀ i, i < nd → 48 ≤ B i ∧ B i ≤ 57) (hk : -5000 ≤ k ∧ k ≤ 5000) :
    ∃ b, ∀ w g A, Dh w g A nd dp ng tr → (∀ i, i < nd → A i = B i) → Calls Tryz.prog 254 #[.pointer (some ⟨g, 0, none⟩), .int .i64 k] w fun x w' => x = .returned (.bool b) ∧ ∃ m, w' = w.drewN m := by
  obtain ⟨hk1, hk2⟩ := hk
  by_cases h0 : k < 0
  · have h0b : decide (k < 0) = true := decide_eq_true h0
    refine ⟨false, fun w g A hD hA => ?_⟩
    have c0 := hD.c0
    clear hD hA hB
    go_enter Tryz.func254, Tryz.ntmps254
    go_wp2_with fail
    go_ret
    exact ⟨rfl, 0, rfl⟩
  obtain ⟨K, rfl⟩ : ∃ K : Nat, k = (K : Int) := ⟨k.toNat, by omega⟩
  have h0b : decide ((K : Int) < 0) = false := by rw [decide_eq_false_iff_not]; omega
  by_cases h1 : nd ≤ K
  · have h1b : decide ((nd : Int) ≤ (K : Int)) = true := decide_eq_true (by omega)
    refine ⟨false, fun w g A hD hA => ?_⟩
    have c0 := hD.c0
    clear hD hA hB
    go_enter Tryz.func254, Tryz.ntmps254
    go_wp2_with fail
    go_ret
    exact ⟨rfl, 0, rfl⟩
  have h1b : decide ((nd : Int) ≤ (K : Int)) = false := by rw [decide_eq_false_iff_not]; omega
  obtain ⟨C, hC⟩ : ∃ c, c = B K := ⟨_, rfl⟩
  obtain ⟨hC1, hC2⟩ := hB K (by omega)
  rw [← hC] at hC1 hC2
  have hK8 : K < 800 := by omega
  by_cases h2 : C = 53
  · subst h2
    by_cases h3 : K + 1 = nd
    · have h3b : ((K : Int) + 1 == (nd : Int)) = true := by simp; omega
      cases tr with
      | true =>
        refine ⟨true, fun w g A hD hA => ?_⟩
        have c0 := hD.c0
        have c3 := hD.c3
        have cK := (hD.d K (by omega)).1
        rw [hA K (by omega), ← hC] at cK
        clear hD hA hB
        go_enter Tryz.func254, Tryz.ntmps254
        go_wp2_with fail
        go_ret
        exact ⟨rfl, 0, rfl⟩
      | false =>
        by_cases hK0 : K = 0
        · have hK0b : decide ((0 : Int) < (K : Int)) = false := by rw [decide_eq_false_iff_not]; omega
          refine ⟨false, fun w g A hD hA => ?_⟩
          have c0 := hD.c0
          have c3 := hD.c3
          have cK := (hD.d K (by omega)).1
          rw [hA K (by omega), ← hC] at cK
          have hKl : K < 1 := by omega
          clear hD hA hB hC hK0
          go_enter Tryz.func254, Tryz.ntmps254
          go_wp2_with fail
          go_ret
          exact ⟨rfl, 0, rfl⟩
        · obtain ⟨K', rfl⟩ : ∃ K', K = K' + 1 := ⟨K - 1, by omega⟩
          obtain ⟨P, hP⟩ : ∃ c, c = B K' := ⟨_, rfl⟩
          obtain ⟨hP1, hP2⟩ := hB K' (by omega)
          rw [← hP] at hP1 hP2
          have eK : ((K' + 1 : Nat) : Int) - 1 = (K' : Int) := by omega
          refine ⟨((P : Int) - 48) % 2 != 0, fun w g A hD hA => ?_⟩
          have c0 := hD.c0
          have c3 := hD.c3
          have cK := (hD.d (K' + 1) (by omega)).1
          rw [hA (K' + 1) (by omega), ← hC] at cK
          have cP := (hD.d K' (by omega)).1
          rw [hA K' (by omega), ← hP] at cP
          clear hD hA hB hC hP
          go_enter Tryz.func254, Tryz.ntmps254
          go_wp2_with fail
          go_ret
          exact ⟨rfl, 0, rfl⟩
    · have h3b : ((K : Int) + 1 == (nd : Int)) = false := by rw [beq_eq_false_iff_ne]; omega
      refine ⟨true, fun w g A hD hA => ?_⟩
      have c0 := hD.c0
      have cK := (hD.d K (by omega)).1
      rw [hA K (by omega), ← hC] at cK
      clear hD hA hB hC
      go_enter Tryz.func254, Tryz.ntmps254
      go_wp2_with fail
      go_ret
      exact ⟨rfl, 0, rfl⟩
  · have h2b : ((C : Int) == 53) = false := by rw [beq_eq_false_iff_ne]; omega
    refine ⟨decide (53 ≤ (C : Int)), fun w g A hD hA => ?_⟩
    have c0 := hD.c0
    have cK := (hD.d K (by omega)).1
    rw [hA K (by omega), ← hC] at cK
    clear hD hA hB hC
    go_enter Tryz.func254, Tryz.ntmps254
    go_wp2_with fail
    go_ret
    exact ⟨rfl, 0, rfl⟩
end Dc
end Go.Proofs.YtbnicnhkakbglaaGreatDoor
