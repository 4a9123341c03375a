/- Short bytes: the walks of the program's ReadShort and the document's. -/
import Derived.Test.YtbpkoneenihfcaaSw
namespace Go.Proofs.Ytbpkoneenihfcaa
open Go.RowKit
namespace Sr
open Sm Wr

/-- A slice of these bytes, its address plain where there are any. -/
def Pl (w : World) (s : Value) (bs : List Nat) : Prop :=
  (bs = [] ∧ ∃ a c, s = .slice a 0 c) ∨ (0 < bs.length ∧ ∃ b off c, s = .slice (some ⟨b, off, none⟩) bs.length c ∧ bs.length ≤ c ∧ ∀ i, i < bs.length → w.cell? ⟨b, off + i, none⟩ = some (.int .u8 (bs.getD i 0 : Nat)))

theorem no_good {bs : List Nat} {k : Nat} (h : ∀ j, j < k → 128 ≤ bs.getD j 0) (hk : bs.length ≤ k ∨ (k < bs.length ∧ bs.getD k 0 < 128 ∧ ¬ Sm.Good bs k) ∨ (k = 9 ∧ 1 < bs.getD k 0)) : ∀ i, ¬ Sm.Good bs i := by
  intro i g
  have hi : k ≤ i := by
    by_cases hlt : i < k
    · have := h i hlt; have := g.2.2.1; omega
    · omega
  rcases hk with h1 | ⟨h1, h2, h3⟩ | ⟨rfl, h1⟩
  · have := g.1; omega
  · by_cases e : i = k
    · subst e; exact h3 g
    · have := g.2.1 k (by omega); omega
  · have h9 := g.2.2.2.1
    obtain rfl : i = 9 := by omega
    have := g.2.2.2.2.2 rfl
    omega

theorem pow7 (k : Nat) : 2 ^ (7 * k) = 128 ^ k := by rw [Nat.pow_mul]
theorem part_lt {C k : Nat} (hk : k ≤ 9) (h9 : k = 9 → C ≤ 1) : C % 128 * 128 ^ k < 18446744073709551616 := by
  by_cases h : k = 9
  · subst h
    have := h9 rfl
    have h1 : C % 128 ≤ 1 := by omega
    have := Nat.mul_le_mul_right (128 ^ 9) h1
    omega
  · have h1 : C % 128 ≤ 127 := by omega
    have h2 : 128 ^ k ≤ 128 ^ 8 := Nat.pow_le_pow_right (by decide) (by omega)
    have h3 := Nat.mul_le_mul h1 h2
    omega
theorem step {N C k : Nat} (hk : k ≤ 9) (h9 : k = 9 → C ≤ 1) (hN : N < 128 ^ k) : bits .or .u64 (N : Int) (IntKind.u64.wrap ((C : Int) % 128 * 2 ^ (7 * k))) = ((N + C % 128 * 128 ^ k : Nat) : Int) := by
  have hp := part_lt hk h9
  have h128 : 128 ^ k ≤ 128 ^ 9 := Nat.pow_le_pow_right (by decide) hk
  have e : (C : Int) % 128 * 2 ^ (7 * k) = ((C % 128 * 128 ^ k : Nat) : Int) := by rw [← pow7]; push_cast; rfl
  rw [e, IntKind.wrap_u64, show ((C % 128 * 128 ^ k : Nat) : Int) % 18446744073709551616 = ((C % 128 * 128 ^ k : Nat) : Int) from by omega,
    u64_or_nat _ _ (by omega) hp, Nat.or_comm, nat_join (7 * k) _ _ (by rw [pow7]; exact Nat.mul_mod_left _ _) (by rw [pow7]; exact hN), Nat.add_comm]
theorem good_at {bs : List Nat} {k : Nat} (h1 : k < bs.length) (h2 : ∀ j, j < k → 128 ≤ bs.getD j 0) (h3 : bs.getD k 0 < 128) (h4 : k ≤ 9) (h5 : bs.getD k 0 ≠ 0 ∨ k = 0) (h6 : k = 9 → bs.getD k 0 ≤ 1) : Sm.Good bs k := ⟨h1, h2, h3, h4, h5, h6⟩

set_option maxRecDepth 100000 in
set_option maxHeartbeats 1000000 in
theorem read27 (w : World) (s : Value) (bs : List Nat) (h : Pl w s bs) (hb : ∀ x ∈ bs, x < 256) (hl : bs.length ≤ 9223372036854775807) :
    Calls Try.prog 27 #[s] w fun e w' => ∃ x k : Nat, e = .returned (.tuple #[.int .u64 (x : Nat), .int .i64 (k : Nat)]) ∧ Res bs x k ∧ w' = w := by
  rcases h with ⟨rfl, a, c, rfl⟩ | ⟨h0, b, off, c, rfl, hlc, hcell⟩
  · go_enter Try.func27, Try.ntmps27
    go_wp2_with fail
    refine wp_loop_rounds 1 ?_
    rw [rounds_succ]
    go_wp2_with fail
    go_ret2
    exact ⟨0, 0, rfl, .inr ⟨fun i g => by have := g.1; simp at this, rfl, rfl⟩, rfl⟩
  · obtain ⟨len, hlen⟩ : ∃ len, len = bs.length := ⟨_, rfl⟩
    rw [← hlen] at h0 hlc hl hcell ⊢
    have HL := Lib.hid hlen
    clear hlen
    go_enter Try.func27, Try.ntmps27
    go_wp2_with fail
    go_loop [4, 9] (fun n i => ∃ k, k ≤ len ∧ k ≤ 9 ∧ i = .int .i64 (k : Nat) ∧ n = .int .u64 (vs bs k : Nat) ∧ ∀ j, j < k → 128 ≤ bs.getD j 0) (fun _ i => len - (intOf i).toNat)
    case atStart => exact ⟨0, Nat.zero_le _, by omega, rfl, rfl, fun j hj => absurd hj (by omega)⟩
    case round =>
      obtain ⟨k, hk, hk9, rfl, rfl, hall⟩ := hrel
      by_cases hkl : k < len
      · have e := hcell k hkl
        have hC := Bm.getD_lt hb k
        have hN := vs_fit (b := bs) hk9
        obtain ⟨C, hCe⟩ : ∃ C, C = bs.getD k 0 := ⟨_, rfl⟩
        obtain ⟨N, hNe⟩ : ∃ N, N = vs bs k := ⟨_, rfl⟩
        rw [← hCe] at e hC
        rw [← hNe] at hN ⊢
        have HC := Lib.hid hCe
        have HN := Lib.hid hNe
        have HA := Lib.hid hall
        have HB := Lib.hid hb
        clear hCe hNe hall hb hcell
        have h7 : bits .andNot .u8 (C : Int) 128 = ((C % 128 : Nat) : Int) := by
          have := u8_andNot_nat C 128 hC (by decide)
          rw [nat_mask7] at this
          exact this
        have h8 : bits .and .u8 (C : Int) 128 = ((C / 128 * 128 : Nat) : Int) := by
          have := u8_and_nat C 128 hC (by decide)
          rw [show C &&& 128 = C / 128 % 2 * 128 from nat_bit 7 C] at this
          refine Eq.trans this ?_
          omega
        have hst : (k = 9 → C ≤ 1) → bits .or .u64 (N : Int) (IntKind.u64.wrap ((C : Int) % 128 * 2 ^ (7 * k))) = ((vs bs (k + 1) : Nat) : Int) := by
          intro h9
          rw [step hk9 h9 (by rw [HN.out]; exact vs_lt _ _), HN.out, HC.out]
          rfl
        have HST := Lib.hid hst
        clear hst
        go_wp2_with fail
        · have hk' : k = 9 := by omega
          go_ret2
          exact ⟨0, 0, rfl, .inr ⟨no_good HA.out (.inr (.inr ⟨hk', by rw [← HC.out]; omega⟩)), rfl, rfl⟩, rfl⟩
        · have hk' : k = 9 := by omega
          have hC0 : C = 0 := by omega
          go_ret2
          exact ⟨0, 0, rfl, .inr ⟨no_good HA.out (.inr (.inl ⟨by rw [← HL.out]; exact hkl, by rw [← HC.out]; omega, fun g => by have := g.2.2.2.2.1; rw [← HC.out] at this; omega⟩)), rfl, rfl⟩, rfl⟩
        · have hk' : k = 9 := by omega
          have hC1 : C ≤ 1 := by omega
          have hC0 : C ≠ 0 := by assumption
          subst hk'
          have e2 : bits .or .u64 (N : Int) ((C : Int) % 128 * 9223372036854775808) = ((vs bs 10 : Nat) : Int) := by
            rw [← HST.out (fun _ => hC1), IntKind.wrap_u64]
            congr 1
            omega
          rw [e2]
          go_ret2
          exact ⟨vs bs 10, 10, rfl, .inl ⟨9, good_at (by rw [← HL.out]; exact hkl) HA.out (by rw [← HC.out]; omega) (by omega) (.inl (by rw [← HC.out]; exact hC0)) (fun _ => by rw [← HC.out]; exact hC1), rfl, rfl⟩, rfl⟩
        · have hk' : k ≠ 9 := by omega
          have hC1 : 128 ≤ C := by rename_i hx; simp at hx; omega
          go_round
          case rel =>
            exact ⟨k + 1, by omega, by omega, by go_num, by rw [HST.out (fun h => absurd h hk')], fun j hj => by
              by_cases ej : j = k
              · rw [ej, ← HC.out]; exact hC1
              · exact HA.out j (by omega)⟩
          case measure => simp [intOf]; omega
        · have hC0 : C = 0 := by assumption
          go_ret2
          exact ⟨0, 0, rfl, .inr ⟨no_good HA.out (.inr (.inl ⟨by rw [← HL.out]; exact hkl, by rw [← HC.out]; omega, fun g => by have := g.2.2.2.2.1; rw [← HC.out] at this; omega⟩)), rfl, rfl⟩, rfl⟩
        · have hC0 : C = 0 := by assumption
          have hk' : k = 0 := by omega
          subst hk'
          have e2 : bits .or .u64 (N : Int) (IntKind.u64.wrap 0) = ((vs bs 1 : Nat) : Int) := by
            rw [← HST.out (fun h => absurd h (by decide)), hC0]
            rfl
          rw [e2]
          go_ret2
          exact ⟨vs bs 1, 1, rfl, .inl ⟨0, good_at (by rw [← HL.out]; exact hkl) HA.out (by rw [← HC.out]; omega) (by omega) (.inr rfl) (fun h => absurd h (by decide)), rfl, rfl⟩, rfl⟩
        · have hC0 : C ≠ 0 := by assumption
          have hk' : k ≠ 9 := by omega
          have hC1 : C < 128 := by rename_i hx _ _; simp at hx; omega
          rw [HST.out (fun h => absurd h hk')]
          go_ret2
          exact ⟨vs bs (k + 1), k + 1, rfl, .inl ⟨k, good_at (by rw [← HL.out]; exact hkl) HA.out (by rw [← HC.out]; omega) hk9 (.inl (by rw [← HC.out]; exact hC0)) (fun h => absurd h hk'), rfl, rfl⟩, rfl⟩
      · obtain rfl : k = len := by omega
        go_wp2_with fail
        go_ret2
        exact ⟨0, 0, rfl, .inr ⟨no_good hall (.inl (by rw [HL.out]; exact Nat.le_refl _)), rfl, rfl⟩, rfl⟩
end Sr
end Go.Proofs.Ytbpkoneenihfcaa
