/- The program's side: fourAt, alike. -/
import Derived.Test.YtbmdjmckgcjfcaaBs
namespace Go.Proofs.Ytbmdjmckgcjfcaa
open Go.RowKit
namespace Fa
open Lm Bs

def f4 (b : List Nat) (i : Nat) : Nat := g b i * 16777216 + g b (i + 1) * 65536 + g b (i + 2) * 256 + g b (i + 3)

theorem join_lit (i K x y : Nat) (hK : K = 2 ^ i) (hx : x % K = 0) (hy : y < K) : x ||| y = x + y := by subst hK; exact nat_join i x y hx hy
set_option maxRecDepth 100000 in
theorem fourAt21 (w : World) (R : Nat → Prop) (v : Value) (b : List Nat) (a : Nat) (hS : Src w R v b) (hX : ∀ x ∈ b, x < 256) (ha : a + 4 ≤ b.length) (hl : b.length ≤ 140737488353272) :
    Calls Try.prog 21 #[v, .int .i64 (a : Nat)] w fun e w' => e = .returned (.int .u32 (f4 b a : Nat)) ∧ ∃ m, w' = w.drewN m := by
  rcases hS with ⟨rfl, _⟩ | ⟨h0, q, off, c, rfl, hc, hR, hcell⟩
  · simp at ha
  · have e0 := hcell a (by omega)
    have e1 := hcell (a + 1) (by omega)
    have e2 := hcell (a + 2) (by omega)
    have e3 := hcell (a + 3) (by omega)
    have l0 := g_lt hX a
    have l1 := g_lt hX (a + 1)
    have l2 := g_lt hX (a + 2)
    have l3 := g_lt hX (a + 3)
    have HF : Hid (f4 b a = g b a * 16777216 + g b (a + 1) * 65536 + g b (a + 2) * 256 + g b (a + 3)) := Lib.hid rfl
    obtain ⟨n, hn⟩ : ∃ n, n = b.length := ⟨_, rfl⟩
    rw [← hn] at ha hl hc ⊢
    obtain ⟨x0, h0⟩ : ∃ x, x = g b a := ⟨_, rfl⟩
    obtain ⟨x1, h1⟩ : ∃ x, x = g b (a + 1) := ⟨_, rfl⟩
    obtain ⟨x2, h2⟩ : ∃ x, x = g b (a + 2) := ⟨_, rfl⟩
    obtain ⟨x3, h3⟩ : ∃ x, x = g b (a + 3) := ⟨_, rfl⟩
    rw [← h0] at e0 l0 HF
    rw [← h1] at e1 l1 HF
    rw [← h2] at e2 l2 HF
    rw [← h3] at e3 l3 HF
    rw [show off + (a + 1) = off + (a + 1) from rfl] at e1
    clear h0 h1 h2 h3 hn hcell hX hR
    go_enter Try.func21, Try.ntmps21
    go_wp2_with fail
    go_quiet (fail)
    go_wp2_with fail
    go_ret
    refine ⟨?_, _, rfl⟩
    rw [HF.out]
    refine ret_int ?_
    rw [show (x0 : Int) * 16777216 = ((x0 * 16777216 : Nat) : Int) from by omega, show (x1 : Int) * 65536 = ((x1 * 65536 : Nat) : Int) from by omega, show (x2 : Int) * 256 = ((x2 * 256 : Nat) : Int) from by omega,
      u32_or_nat _ _ (by omega) (by omega), join_lit 24 16777216 _ _ rfl (by omega) (by omega), u32_or_nat _ _ (by omega) (by omega), join_lit 16 65536 _ _ rfl (by omega) (by omega), u32_or_nat _ _ (by omega) (by omega), join_lit 8 256 _ _ rfl (by omega) (by omega)]

set_option maxRecDepth 100000 in
theorem alike12 (w : World) (R : Nat → Prop) (v : Value) (b : List Nat) (p a : Nat) (hS : Src w R v b) (hp : p < a) (ha : a < b.length) (hl : b.length ≤ 140737488353272) :
    Calls Try.prog 12 #[v, .int .i64 (p : Nat), .int .i64 (a : Nat)] w fun e w' => e = .returned (.int .i64 (alike b p a : Nat)) ∧ ∃ m, w' = w.drewN m := by
  rcases hS with ⟨rfl, _⟩ | ⟨h0, q, off, c, rfl, hc, hR, hcell⟩
  · simp at ha
  · have HA : Hid (∀ n, n ≤ min (b.length - a) 131 → (∀ k, k < n → g b (p + k) = g b (a + k)) → (n = min (b.length - a) 131 ∨ g b (p + n) ≠ g b (a + n)) → alike b p a = n) := Lib.hid fun n h1 h2 h3 => alike_eq h1 h2 h3
    obtain ⟨n, hn⟩ : ∃ n, n = b.length := ⟨_, rfl⟩
    rw [← hn] at ha hl hc hcell HA ⊢
    obtain ⟨M, hM⟩ : ∃ M, M = min (n - a) 131 := ⟨_, rfl⟩
    rw [← hM] at HA
    have hM1 : M ≤ 131 := by omega
    have hM2 : a + M ≤ n := by omega
    have HC := Lib.hid hcell
    rcases (show ((n : Int) - (a : Int) = (M : Int) ∧ M < 131) ∨ (¬ (n : Int) - (a : Int) ≤ 131 ∧ 131 ≤ M) ∨ ((n : Int) - (a : Int) = 131 ∧ 131 ≤ M) from by omega) with ⟨hs, hlt⟩ | ⟨hs, hlt⟩ | ⟨hs, hlt⟩
    all_goals
      clear hcell hn hR hM h0 ha
      go_enter Try.func12, Try.ntmps12
      go_wp2_with fail
      go_loopw [8] (fun i wr => ∃ k, k ≤ M ∧ i = .int .i64 (k : Nat) ∧ (∀ j, j < k → g b (p + j) = g b (a + j)) ∧ ∃ m, wr = w.drewN m) (fun i _ => M - (intOf i).toNat)
      case atStart => exact ⟨0, Nat.zero_le _, rfl, fun j hj => by omega, 0, rfl⟩
      case round =>
        obtain ⟨k, hk, rfl, hall, hm⟩ := hrel
        have HALL := Lib.hid hall
        clear hall
        by_cases hkn : k < M
        · have e1 : wr.cell? ⟨q, off + (p + k), none⟩ = some (.int .u8 (g b (p + k) : Nat)) := by obtain ⟨m, rfl⟩ := hm; exact HC.out (p + k) (by omega)
          have e2 : wr.cell? ⟨q, off + (a + k), none⟩ = some (.int .u8 (g b (a + k) : Nat)) := by obtain ⟨m, rfl⟩ := hm; exact HC.out (a + k) (by omega)
          have i1 : (0 : Int) ≤ (p : Int) + (k : Int) := by omega
          have i2 : (p : Int) + (k : Int) < (n : Int) := by omega
          have i3 : ((p : Int) + (k : Int)).toNat = p + k := by omega
          have i4 : (0 : Int) ≤ (a : Int) + (k : Int) := by omega
          have i5 : (a : Int) + (k : Int) < (n : Int) := by omega
          have i6 : ((a : Int) + (k : Int)).toNat = a + k := by omega
          have HM := Lib.hid hm
          have g1 : decide (k < M) = true := by simpa using hkn
          have g2 : decide ((k : Int) < 131) = true := by simp; omega
          by_cases heq : g b (p + k) = g b (a + k)
          · have HE := Lib.hid heq
            rw [← heq] at e2
            obtain ⟨D, hD⟩ : ∃ D, D = g b (p + k) := ⟨_, rfl⟩
            rw [← hD] at e1 e2
            clear heq hD hm
            go_wp2_with fail
            go_quiet (fail)
            go_wp2_with fail
            go_roundw
            case rel =>
              refine ⟨k + 1, by omega, by go_num, fun j hj => ?_, by obtain ⟨m, rfl⟩ := HM.out; exact ⟨m + nq, by rw [World.drewN_drewN]⟩⟩
              by_cases e : j = k
              · subst e; exact HE.out
              · exact HALL.out j (by omega)
            case measure => simp [intOf]; omega
          · have HE := Lib.hid heq
            obtain ⟨D, hD⟩ : ∃ D, D = g b (p + k) := ⟨_, rfl⟩
            obtain ⟨E, hE⟩ : ∃ E, E = g b (a + k) := ⟨_, rfl⟩
            rw [← hD] at e1 heq
            rw [← hE] at e2 heq
            have hde : ((D : Int) == (E : Int)) = false := by rw [beq_eq_false_iff_ne]; omega
            clear heq hD hE hm
            go_wp2_with fail
            go_quiet (fail)
            go_wp2_with fail
            go_ret
            refine ⟨ret_int (by rw [HA.out k hk HALL.out (.inr HE.out)]), ?_⟩
            obtain ⟨m, rfl⟩ := HM.out
            exact ⟨m + nq, by rw [World.drewN_drewN]⟩
        · obtain rfl : k = M := by omega
          have HM := Lib.hid hm
          clear hm
          have g1 : decide (k < k) = false := by simp
          first
            | have g2 : decide ((k : Int) < 131) = false := by simp; omega
            | skip
          go_wp2_with fail
          go_quiet (fail)
          go_wp2_with fail
          go_ret
          refine ⟨ret_int (by rw [HA.out k hk HALL.out (.inl rfl)]), ?_⟩
          obtain ⟨m, rfl⟩ := HM.out
          exact ⟨m + nq, by rw [World.drewN_drewN]⟩
end Fa
end Go.Proofs.Ytbmdjmckgcjfcaa
