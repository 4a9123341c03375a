/- The law LzRuns. -/
import Derived.Test.YtbmdjmckgcjfcaaLw
import Derived.Test.YtbmdjmckgcjfcaaLr
namespace Go.Proofs.Ytbmdjmckgcjfcaa
open Go.RowKit
namespace Lw
open Lm Lr Bs Fa Fb Pa Pb

theorem made_zero (N : Nat) : (madeCells (Value.int .u8 0).cells (N * 1)).toList = u8s (List.replicate N 0) := by
  apply List.ext_getElem?
  intro i
  by_cases h : i < N
  · simp [madeCells, u8s, Value.cells, h, Nat.mod_one]
  · simp [madeCells, u8s, h]
theorem set_rep {N k c : Nat} (h : k < N) : (u8s (List.replicate k c ++ List.replicate (N - k) 0)).set k (.int .u8 (c : Nat)) = u8s (List.replicate (k + 1) c ++ List.replicate (N - (k + 1)) 0) := by
  obtain ⟨m, hm⟩ : ∃ m, N - k = m + 1 := ⟨N - k - 1, by omega⟩
  rw [hm, show N - (k + 1) = m from by omega]
  unfold u8s
  rw [← List.map_set (f := fun b : Nat => Value.int .u8 (b : Nat)) (a := c), List.set_append_right _ _ (by simp), List.length_replicate, Nat.sub_self, List.replicate_succ, List.set_cons_zero, List.replicate_succ', List.append_assoc]
  rfl

set_option maxRecDepth 100000 in
set_option maxHeartbeats 1000000 in
theorem runs4 (w : World) (c n : Nat) (hc : c < 256) (hn : n < 65536) :
    Calls Try.prog 4 #[.int .u8 (c : Nat), .int .u16 (n : Nat)] w fun e w' => e = .returned (.bool true) ∧ Below w.heap.size w w' := by
  obtain ⟨i0, hi, hz0, hz1, hz2⟩ := info_parts info5
  have F6 := Lib.hid (awake6 w)
  obtain ⟨N1, hN1⟩ : ∃ N1, N1 = 4 + n % 20000 := ⟨_, rfl⟩
  obtain ⟨N, hN⟩ : ∃ N, N = N1 + 1 := ⟨_, rfl⟩
  have h1 : (5 : Int) + (n : Int) % 20000 = (N : Int) := by omega
  have h2 : (N : Int) - 1 = (N1 : Int) := by omega
  have hNb : N ≤ 20004 := by omega
  have hN5 : 5 ≤ N := by omega
  have HF : Hid ((packs (List.replicate N c)).length = 2 + F N1) := Lib.hid (by rw [packs_rep hN5, show N - 1 = N1 from by omega])
  have HFE : Hid (F N1 = 3 * (N1 / 131) + (if 4 ≤ N1 % 131 then 3 else if 0 < N1 % 131 then 1 + N1 % 131 else 0)) := Lib.hid rfl
  have HX : Hid (∀ x ∈ List.replicate N c, x < 256) := Lib.hid fun x hx => by rw [List.eq_of_mem_replicate hx]; exact hc
  clear hN1 hN
  go_enter Try.func4, Try.ntmps4
  go_wp2_with (first
    | (go_at_call 6; refine F6.out.mono ?_; rintro e w1 ⟨rfl, b1⟩; have B1 := Lib.hid b1; have S1 := Lib.hid b1.size; clear b1)
    | (at_make; refine wpList_make_full _ rfl _ _ 22 rfl w.heap.size 5 i0 (.int .u8 0) 1 Try.underlying22 hi hz0 hz1 .i64 .i64 N N N rfl rfl rfl rfl (by rw [hz2]; omega) (by unfold maxLen; omega) S1.out ?_))
  intro w2 hown2 hgrow2
  have B2 : Hid (Below w.heap.size w w2) := Lib.hid (B1.out.trans ⟨hgrow2.os, hgrow2.tape, hgrow2.output, hgrow2.size, fun k hk => hgrow2.block k (by have := S1.out; omega) (by simp)⟩)
  have O2 : Hid (w2.ownsRow w.heap.size 5 1 (.slice (some ⟨w1.heap.size, 0, none⟩) N N) N (u8s (List.replicate N 0))) := Lib.hid (by rw [← made_zero, Nat.mul_one]; exact hown2)
  obtain ⟨G, hG⟩ : ∃ G, G = w1.heap.size := ⟨_, rfl⟩
  rw [← hG] at O2 ⊢
  clear hown2 hgrow2 hG
  go_wp2_with fail
  go_loopw [21] (fun i wr => ∃ k, k ≤ N ∧ i = .int .i64 (k : Nat) ∧ wr.ownsRow w.heap.size 5 1 (.slice (some ⟨G, 0, none⟩) N N) N (u8s (List.replicate k c ++ List.replicate (N - k) 0)) ∧ Below w.heap.size w wr) (fun i _ => N - (intOf i).toNat)
  case atStart => exact ⟨0, Nat.zero_le _, rfl, by simpa using O2.out, B2.out⟩
  case round =>
    obtain ⟨k, hk, rfl, ho, hb⟩ := hrel
    by_cases hkn : k < N
    · have hcl := ho.cellAt k (by omega)
      have hfr := ho.frozenAt k
      obtain ⟨u, hu⟩ : ∃ u, wr.cell? ⟨G, k, none⟩ = some u := ⟨_, hcl.trans (u8s_get _ k (by simp; omega))⟩
      have st := Lib.hid (ho.stored k (.int .u8 (c : Nat))).1
      have HB := Lib.hid hb
      have HG := Lib.hid (ho.lt G rfl).1
      clear ho hb hcl
      go_wp2_with fail
      go_roundw
      case rel => exact ⟨k + 1, by omega, by go_num, by rw [← set_rep hkn]; exact st.out, HB.out.setCell HG.out _⟩
      case measure => simp [intOf]; omega
    · obtain rfl : k = N := by omega
      have hO : wr.ownsRow w.heap.size 5 1 (.slice (some ⟨G, 0, none⟩) k k) (List.replicate k c).length (u8s (List.replicate k c)) := by simpa using ho
      have F7 : Hid (Calls Try.prog 7 #[.slice (some ⟨G, 0, none⟩) k k] wr fun e w' => ∃ ad cc, e = .returned (.slice ad (2 + F N1) cc) ∧ Below w.heap.size w w') := Lib.hid (by
        refine (pack7 wr _ _ _ (src_own hO) HX.out (by simp; omega)).mono ?_
        rintro e w' ⟨r, rfl, h3, h4⟩
        rw [HF.out] at h3
        obtain ⟨ad, cc, rfl⟩ := slice_any h3
        exact ⟨ad, cc, rfl, hb.trans (h4.mono hb.size)⟩)
      clear ho hb hO HX HF
      obtain ⟨L, hL⟩ : ∃ L, L = 2 + F N1 := ⟨_, rfl⟩
      obtain ⟨J, hJ⟩ : ∃ J, J = N1 / 131 := ⟨_, rfl⟩
      obtain ⟨M, hM⟩ : ∃ M, M = N1 % 131 := ⟨_, rfl⟩
      have hL2 := hL
      rw [HFE.out, ← hJ, ← hM] at hL2
      rw [← hL] at F7
      have h3 : (N1 : Int) / 131 = (J : Int) := by omega
      have hJb : J ≤ 200 := by omega
      clear HFE
      by_cases hM4 : 4 ≤ M
      · rw [if_pos hM4] at hL2
        have g4 : (4 : Int) ≤ (N1 : Int) % 131 := by omega
        have hq : ((L : Int) == 2 + (J : Int) * 3 + 3) = true := by rw [beq_iff_eq]; omega
        clear hL2 hL hJ hM
        go_wp2_with (go_at_call 7; refine F7.out.mono ?_; rintro e w3 ⟨ad, cc, rfl, b3⟩)
        go_ret
        exact ⟨rfl, b3⟩
      · rw [if_neg hM4] at hL2
        have g4 : ¬ (4 : Int) ≤ (N1 : Int) % 131 := by omega
        by_cases hM0 : 0 < M
        · rw [if_pos hM0] at hL2
          have g5 : (0 : Int) < (N1 : Int) % 131 := by omega
          have hq : ((L : Int) == 2 + (J : Int) * 3 + 1 + (N1 : Int) % 131) = true := by rw [beq_iff_eq]; omega
          clear hL2 hL hJ hM
          go_wp2_with (go_at_call 7; refine F7.out.mono ?_; rintro e w3 ⟨ad, cc, rfl, b3⟩)
          go_ret
          exact ⟨rfl, b3⟩
        · rw [if_neg hM0] at hL2
          have g5 : ¬ (0 : Int) < (N1 : Int) % 131 := by omega
          have hq : ((L : Int) == 2 + (J : Int) * 3) = true := by rw [beq_iff_eq]; omega
          clear hL2 hL hJ hM
          go_wp2_with (go_at_call 7; refine F7.out.mono ?_; rintro e w3 ⟨ad, cc, rfl, b3⟩)
          go_ret
          exact ⟨rfl, b3⟩
end Lw
end Go.Proofs.Ytbmdjmckgcjfcaa
