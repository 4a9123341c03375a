/- The document's bits: what Put, Of, Get and Bytes answer. -/
import Derived.Test.YtbpkoneenihfcaaAw
namespace Go.Proofs.Ytbpkoneenihfcaa
open Go.RowKit
namespace Rf
open Bm Wr

/-- The first m bits, a bit a place. -/
def bl (β : Nat → Bool) (m : Nat) : List Nat := (List.range m).map fun i => b2n (β i)
theorem bl_len (β : Nat → Bool) (m : Nat) : (bl β m).length = m := by simp [bl]
theorem bl_succ (β : Nat → Bool) (m : Nat) : bl β (m + 1) = bl β m ++ [b2n (β m)] := by simp [bl, List.range_succ]
theorem bl_congr {β γ : Nat → Bool} {m : Nat} (h : ∀ i, i < m → β i = γ i) : bl β m = bl γ m := by
  unfold bl
  apply List.map_congr_left
  intro i hi
  rw [h i (List.mem_range.1 hi)]
theorem bl_get (β : Nat → Bool) {m i : Nat} (h : i < m) : (bl β m).getD i 0 = b2n (β i) := by
  simp [bl, List.getD_eq_getElem?_getD, h]
theorem bit_of (v i : Nat) : v / 2 ^ i % 2 = b2n (v.testBit i) := by
  rw [Nat.testBit_eq_decide_div_mod_eq]
  unfold b2n
  by_cases h : v / 2 ^ i % 2 = 1
  · simp [h]
  · simp [h]; omega

set_option maxRecDepth 100000 in
set_option maxHeartbeats 2000000 in
theorem rput12 (w : World) (B : Nat) (s : Value) (m v N : Nat) (β : Nat → Bool) (h : w.ownsRow B 5 1 s m (u8s (bl β m))) (hB : B ≤ w.heap.size) (hv : v < 18446744073709551616) (n : Int) (hn1 : -9223372036854775808 ≤ n) (hn2 : n ≤ 9223372036854775807)
    (hN : N = (min n 64).toNat) (hb : m ≤ 1048576 * 64) :
    Calls Try.prog 12 #[s, .int .u64 (v : Nat), .int .i64 n] w fun e w' => ∃ s', e = .returned s' ∧ w'.ownsRow B 5 1 s' (m + N) (u8s (bl (put β m v N 0) (m + N))) ∧ Mv w w' w.heap.size s ∧ Own w s s' := by
  obtain ⟨i0, hi, hz0, hz1, hz2⟩ := info_parts info5
  have hN64 : N ≤ 64 := by omega
  have h' : w.ownsRow B 5 1 s m (u8s (bl (put β m v N 0) m)) := by
    rw [bl_congr (γ := β) (fun i hi => by unfold put; rw [if_pos hi])]
    exact h
  clear h
  have HR := Lib.hid h'
  clear h'
  obtain ⟨γ, hγ⟩ : ∃ γ, γ = put β m v N 0 := ⟨_, rfl⟩
  have hbit : ∀ r, r < N → γ (m + r) = v.testBit (N - 1 - r) := by
    intro r hr
    rw [hγ]
    unfold put
    rw [if_neg (by omega), if_pos (by omega)]
    congr 1
    omega
  rw [← hγ] at HR ⊢
  clear hγ
  have HBIT := Lib.hid hbit
  clear hbit
  go_enter Try.func12, Try.ntmps12
  go_wp2_with fail
  all_goals
    go_loopw [0, 7] (fun x i wr => ∃ r, r ≤ N ∧ i = .int .i64 ((N : Int) - 1 - (r : Int)) ∧ wr.ownsRow B 5 1 x (m + r) (u8s (bl γ (m + r))) ∧ Mv w wr w.heap.size s ∧ Own w s x) (fun _ i _ => (intOf i + 1).toNat)
    case atStart => exact ⟨0, Nat.zero_le _, by congr 1; omega, HR.out, Mv.refl _ _ _, Own.refl _ _⟩
    case round =>
      obtain ⟨r, hr, rfl, hown, hmv, ho⟩ := hrel
      clear hN
      have hsz := hmv.size
      by_cases hrN : r < N
      · obtain ⟨Q, hQ⟩ : ∃ Q, Q = b2n (γ (m + r)) := ⟨_, rfl⟩
        have hQ1 : Q ≤ 1 := by rw [hQ]; exact b2n_le _
        have hand : bits .and .u64 ((v : Int) / 2 ^ (N - 1 - r)) 1 = ((Q : Nat) : Int) := by
          rw [show ((v : Int) / 2 ^ (N - 1 - r)) = ((v / 2 ^ (N - 1 - r) : Nat) : Int) from by push_cast; rfl]
          have hlt : v / 2 ^ (N - 1 - r) < 18446744073709551616 := Nat.lt_of_le_of_lt (Nat.div_le_self _ _) hv
          rw [hQ, Sz.and_one _ (Int.natCast_nonneg _) (by omega), HBIT.out r hrN, ← bit_of]
          omega
        have HQ := Lib.hid hQ
        clear hQ
        have htn : ((N : Int) - 1 - (r : Int)).toNat = N - 1 - r := by omega
        have HO := Lib.hid ho
        clear ho
        go_wp2_with (at_builtin; refine wpList_append_own_at _ rfl (.tmp 16) (.tmp 23) 27 rfl B 5 i0 (.int .u8 0) 1 1 Try.underlying27 hi hz0 hz1 hz2 rfl (by decide) _ _ _ rfl (hown.alloc _) ⟨wr.heap.size, 0, none⟩ 1 1 [.int .u8 (Q : Int)] rfl rfl ?c1 ?c2 ?c3 ?c4 ?c5 ?_)
        case c1 =>
          intro j u hj
          match j, hj with
          | 0, hj => simp at hj; subst hj; simp [Addr.add]
        case c2 => intro u hu; simp at hu; subst hu; rfl
        case c3 => unfold maxLen; omega
        case c4 => omega
        case c5 => simp; omega
        intro v' w2 hown' hgrow _ hat
        have ho2 : Own wr u0 v' := hat.elim .inl fun e => .inr ⟨_, e, by simp⟩
        have hmv2 : Mv wr w2 w.heap.size u0 := ⟨hgrow.os, hgrow.tape, hgrow.output, Nat.le_trans (by simp) hgrow.size, fun k hk _ hs => (hgrow.block k (by simp; omega) (fun e => hs e.symm)).trans (Below.heap_alloc wr _ k hk)⟩
        have hown2 : w2.ownsRow B 5 1 v' (m + (r + 1)) (u8s (bl γ (m + (r + 1)))) := by
          rw [← Nat.add_assoc, bl_succ, u8s_snoc, ← HQ.out]
          exact hown'
        have HM := Lib.hid (hmv.trans HO.out hmv2)
        have HO2 := Lib.hid (HO.out.trans ho2 hsz)
        clear hgrow hown hown' hmv hmv2 ho2 hat
        go_wp2
        go_roundw
        case rel => exact ⟨r + 1, by omega, by congr 1; omega, hown2, HM.out, HO2.out⟩
        case measure => simp [intOf]; omega
      · obtain rfl : r = N := by omega
        go_wp2_with fail
        go_ret
        exact ⟨_, rfl, hown, hmv, ho⟩
end Rf
end Go.Proofs.Ytbpkoneenihfcaa
