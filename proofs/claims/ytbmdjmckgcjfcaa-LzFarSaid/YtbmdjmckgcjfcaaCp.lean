/- The document's side: place. -/
import Derived.Test.YtbmdjmckgcjfcaaCh
namespace Go.Proofs.Ytbmdjmckgcjfcaa
open Go.RowKit
namespace Ch
open Lm Lc Bs Fa Fb

def bef (b : List Nat) (j : Nat) : Int := if j + 1 < b.length then (pb b (p2 b j) j : Int) - 1 else 0

set_option maxRecDepth 100000 in
set_option maxHeartbeats 2000000 in
theorem place16 (w : World) (R : Nat → Prop) (v : Value) (b : List Nat) (O a : Nat) (hS : Src w R v b) (hX : ∀ x ∈ b, x < 256) (hA : Arr w O b.length (bef b)) (ha : a < b.length) (hl : b.length ≤ 17592186044416) :
    Calls Try.prog 16 #[v, .slice (some ⟨O, 0, none⟩) b.length b.length, .int .i64 (a : Nat)] w fun e w' => e = .returned (.int .i64 (plc b a)) ∧ ∃ m, w' = w.drewN m := by
  rcases hS with ⟨rfl, _⟩ | ⟨h0, q, off, c, rfl, hc, hR, hcell⟩
  · simp at ha
  obtain ⟨n, hn⟩ : ∃ n, n = b.length := ⟨_, rfl⟩
  by_cases h4 : a + 4 ≤ b.length
  · have HW1 : Hid (∀ k, (∀ q, k ≤ q → q < a → ¬ Same b q a) → pb b (p2 b a) k = 0 → plc b a = -1) := Lib.hid fun k h1 h2 => walk_end h1 h2
    have HW2 : Hid (∀ k p, (∀ q, k ≤ q → q < a → ¬ Same b q a) → pb b (p2 b a) k = p + 1 → ¬ a - p ≤ 65535 → plc b a = -1) := Lib.hid fun k p h1 h2 h3 => walk_far h1 h2 h3
    have HW3 : Hid (∀ k p, k ≤ a → (∀ q, k ≤ q → q < a → ¬ Same b q a) → pb b (p2 b a) k = p + 1 → a - p ≤ 65535 → g b (p + 2) = g b (a + 2) → g b (p + 3) = g b (a + 3) → plc b a = (p : Nat)) := Lib.hid fun k p h1 h2 h3 h5 h6 h7 => walk_hit hX h1 h4 h2 h3 h5 h6 h7
    have HW4 : Hid (∀ k p, (∀ q, k ≤ q → q < a → ¬ Same b q a) → pb b (p2 b a) k = p + 1 → ¬ (g b (p + 2) = g b (a + 2) ∧ g b (p + 3) = g b (a + 3)) → ∀ q, p ≤ q → q < a → ¬ Same b q a) := Lib.hid fun k p h1 h2 h3 => walk_on h1 h2 h3
    have HA : Hid (∀ j, j < b.length → w.cell? ⟨O, j, none⟩ = some (.int .i64 (bef b j))) := Lib.hid fun j hj => (hA.2 j hj).1
    have hba := HA.out a ha
    have hb2 : bef b a = (pb b (p2 b a) a : Int) - 1 := by unfold bef; rw [if_pos (by omega)]
    rw [hb2] at hba
    have HBF : Hid (∀ k p, k ≤ a → pb b (p2 b a) k = p + 1 → p < a ∧ bef b p = (pb b (p2 b a) p : Int) - 1) := Lib.hid fun k p hk h => by
      obtain ⟨h1, h2, _⟩ := pb_succ h
      refine ⟨by omega, ?_⟩
      unfold bef
      rw [if_pos (by omega), h2]
    rw [← hn] at h4 ha hl hc HA hcell ⊢
    have HC := Lib.hid hcell
    obtain ⟨V, hV⟩ : ∃ V, V = pb b (p2 b a) a := ⟨_, rfl⟩
    have HV := Lib.hid hV
    have hVn := pb_le b (p2 b a) a
    rw [← hV] at hba hVn
    have h4i : ¬ (a : Int) + 4 > (n : Int) := by omega
    clear hcell hn hR hX hA hb2 hV h0
    go_enter Try.func16, Try.ntmps16
    go_wp2_with fail
    go_loopw [7] (fun p wr => ∃ k, k ≤ a ∧ p = .int .i64 ((pb b (p2 b a) k : Int) - 1) ∧ (∀ q, k ≤ q → q < a → ¬ Same b q a) ∧ ∃ m, wr = w.drewN m) (fun p _ => (intOf p + 1).toNat)
    case atStart => exact ⟨a, Nat.le_refl _, by rw [HV.out], fun q h1 h2 => by omega, 0, rfl⟩
    case round =>
      obtain ⟨k, hk, rfl, hno, hm⟩ := hrel
      have HNO := Lib.hid hno
      have HM := Lib.hid hm
      cases hP : pb b (p2 b a) k with
      | zero =>
        have HE := Lib.hid (HW1.out k hno hP)
        clear hno hm hP
        go_wp2_with fail
        go_ret
        exact ⟨by rw [HE.out]; rfl, HM.out⟩
      | succ p =>
        obtain ⟨hpa, hbp⟩ := HBF.out k p hk hP
        have hsl : ((p + 1 : Nat) : Int) - 1 = (p : Int) := by omega
        rw [hsl]
        have HP := Lib.hid hP
        by_cases hf : a - p ≤ 65535
        · have hfi : (a : Int) - (p : Int) ≤ 65535 := by omega
          have e0 : wr.cell? ⟨O, p, none⟩ = some (.int .i64 ((pb b (p2 b a) p : Int) - 1)) := by obtain ⟨m, rfl⟩ := hm; rw [← hbp]; exact HA.out p (by omega)
          have e1 : wr.cell? ⟨q, off + (p + 2), none⟩ = some (.int .u8 (g b (p + 2) : Nat)) := by obtain ⟨m, rfl⟩ := hm; exact HC.out (p + 2) (by omega)
          have e2 : wr.cell? ⟨q, off + (a + 2), none⟩ = some (.int .u8 (g b (a + 2) : Nat)) := by obtain ⟨m, rfl⟩ := hm; exact HC.out (a + 2) (by omega)
          have e3 : wr.cell? ⟨q, off + (p + 3), none⟩ = some (.int .u8 (g b (p + 3) : Nat)) := by obtain ⟨m, rfl⟩ := hm; exact HC.out (p + 3) (by omega)
          have e4 : wr.cell? ⟨q, off + (a + 3), none⟩ = some (.int .u8 (g b (a + 3) : Nat)) := by obtain ⟨m, rfl⟩ := hm; exact HC.out (a + 3) (by omega)
          have H3 := Lib.hid (HW3.out k p hk hno hP hf)
          have H4 := Lib.hid (HW4.out k p hno hP)
          have hVp := pb_le b (p2 b a) p
          obtain ⟨Z, hZ⟩ : ∃ Z, Z = pb b (p2 b a) p := ⟨_, rfl⟩
          have HZ := Lib.hid hZ
          rw [← hZ] at e0 hVp
          obtain ⟨X2, hX2⟩ : ∃ X, X = g b (p + 2) := ⟨_, rfl⟩
          obtain ⟨Y2, hY2⟩ : ∃ X, X = g b (a + 2) := ⟨_, rfl⟩
          obtain ⟨X3, hX3⟩ : ∃ X, X = g b (p + 3) := ⟨_, rfl⟩
          obtain ⟨Y3, hY3⟩ : ∃ X, X = g b (a + 3) := ⟨_, rfl⟩
          rw [← hX2] at e1 H3 H4
          rw [← hY2] at e2 H3 H4
          rw [← hX3] at e3 H3 H4
          rw [← hY3] at e4 H3 H4
          clear hno hm hP hbp hsl hZ hX2 hY2 hX3 hY3
          by_cases c2 : X2 = Y2
          · by_cases c3 : X3 = Y3
            · have HE := Lib.hid (H3.out c2 c3)
              have g2 : ((X2 : Int) == (Y2 : Int)) = true := by rw [beq_iff_eq]; omega
              have g3 : ((X3 : Int) == (Y3 : Int)) = true := by rw [beq_iff_eq]; omega
              clear c2 c3
              go_wp2_with fail
              go_quiet (fail)
              go_wp2_with fail
              go_ret
              refine ⟨by rw [HE.out]; rfl, ?_⟩
              obtain ⟨m, rfl⟩ := HM.out
              exact ⟨m + nq, by rw [World.drewN_drewN]⟩
            · have HN := Lib.hid (H4.out (fun h => c3 h.2))
              have g2 : ((X2 : Int) == (Y2 : Int)) = true := by rw [beq_iff_eq]; omega
              have g3 : ((X3 : Int) == (Y3 : Int)) = false := by rw [beq_eq_false_iff_ne]; omega
              clear c2 c3
              go_wp2_with fail
              go_quiet (fail)
              go_wp2_with fail
              go_roundw
              case rel => exact ⟨p, by omega, by rw [← HZ.out], HN.out, by obtain ⟨m, rfl⟩ := HM.out; exact ⟨m + nq, by rw [World.drewN_drewN]⟩⟩
              case measure => simp [intOf]; omega
          · have HN := Lib.hid (H4.out (fun h => c2 h.1))
            have g2 : ((X2 : Int) == (Y2 : Int)) = false := by rw [beq_eq_false_iff_ne]; omega
            clear c2
            go_wp2_with fail
            go_quiet (fail)
            go_wp2_with fail
            go_roundw
            case rel => exact ⟨p, by omega, by rw [← HZ.out], HN.out, by obtain ⟨m, rfl⟩ := HM.out; exact ⟨m + nq, by rw [World.drewN_drewN]⟩⟩
            case measure => simp [intOf]; omega
        · have HE := Lib.hid (HW2.out k p hno hP hf)
          have hfi : ¬ (a : Int) - (p : Int) ≤ 65535 := by omega
          clear hno hm hP hbp hsl
          go_wp2_with fail
          go_ret
          exact ⟨by rw [HE.out]; rfl, HM.out⟩
  · have HE := Lib.hid (plc_none (latest_end (b := b) (a := a) (by omega)))
    rw [← hn] at h4 ha hl ⊢
    have h4i : (a : Int) + 4 > (n : Int) := by omega
    clear hcell hn hR hX hA h0 hc
    go_enter Try.func16, Try.ntmps16
    go_wp2_with fail
    go_ret
    exact ⟨by rw [HE.out]; rfl, 0, rfl⟩
end Ch
end Go.Proofs.Ytbmdjmckgcjfcaa
