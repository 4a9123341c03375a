/- The document's side: flush. -/
import Derived.Test.YtbmdjmckgcjfcaaFc
namespace Go.Proofs.Ytbmdjmckgcjfcaa
open Go.RowKit
namespace Fb
open Lm Bs

theorem own_ne {w : World} {s s' : Value} {k : Nat} (h : Own w s s') (hs : s.ownBlock ≠ some k) (hk : k < w.heap.size) : s'.ownBlock ≠ some k := by
  rcases h with h | ⟨j, h, hj⟩
  · rw [h]; exact hs
  · rw [h]; intro e; cases e; omega
theorem slice_any {w : World} {B size n : Nat} {e : TypeId} {v : Value} {xs : List Value} (ho : w.ownsRow B e size v n xs) : ∃ a c, v = .slice a n c := by
  rcases Go.Joins.ownsRow_forms ho with ⟨rfl, h0⟩ | ⟨q, c, rfl⟩
  · exact ⟨none, 0, by rw [h0]⟩
  · exact ⟨_, _, rfl⟩

set_option maxRecDepth 100000 in
set_option maxHeartbeats 2000000 in
theorem flush17 (w : World) (B : Nat) (R : Nat → Prop) (s v : Value) (pre l : List Nat) (hown : w.ownsRow B 5 1 s pre.length (u8s pre)) (hS : Src w R v l) (hR : ∀ k, R k → s.ownBlock ≠ some k ∧ k < w.heap.size) (hB : B ≤ w.heap.size) (hb : pre.length + 2 * l.length ≤ 70368744177664) :
    Calls Try.prog 17 #[s, v] w fun e w' => ∃ r, e = .returned r ∧ w'.ownsRow B 5 1 r (pre ++ own l).length (u8s (pre ++ own l)) ∧ Gr w w' s r := by
  obtain ⟨i0, hi, hz0, hz1, hz2⟩ := info_parts info5
  have HS := Lib.hid hS
  have HO := Lib.hid hown
  clear hS hown
  go_enter Try.func17, Try.ntmps17
  go_wp2_with fail
  go_loopw [0, 1] (fun s' v' wr => ∃ pre' l', pre' ++ own l' = pre ++ own l ∧ wr.ownsRow B 5 1 s' pre'.length (u8s pre') ∧ Src wr R v' l' ∧ Gr w wr s s' ∧ pre'.length + 2 * l'.length ≤ 70368744177664) (fun _ v' _ => lenOf v')
  case atStart => exact ⟨pre, l, rfl, HO.out, HS.out, Gr.refl _ _, hb⟩
  case round =>
    obtain ⟨pre', l', heq, ho, hs, hg, hlen⟩ := hrel
    rcases hs with ⟨rfl, a, c, rfl⟩ | ⟨h0, q, off, c, rfl, hnc, hq, hcell⟩
    · have HH : Hid (wr.ownsRow B 5 1 u0 (pre ++ own l).length (u8s (pre ++ own l))) := Lib.hid (by rw [own_nil, List.append_nil] at heq; rw [← heq]; exact ho)
      have HG := Lib.hid hg
      clear heq ho hg
      go_wp2_with fail
      go_ret
      exact ⟨_, rfl, HH.out, HG.out⟩
    · obtain ⟨n, hn⟩ : ∃ n, n = l'.length := ⟨_, rfl⟩
      obtain ⟨N, hN⟩ : ∃ N, N = min 127 l'.length := ⟨_, rfl⟩
      have HEQ : Hid ((pre' ++ [N] ++ l'.take N) ++ own (l'.drop N) = pre ++ own l) := Lib.hid (by
        rw [← heq, own_cons h0]
        rcases (show N = 127 ∨ (N = l'.length ∧ N ≤ 127) by omega) with rfl | ⟨h1, h2⟩
        · rw [hN]; simp
        · rw [h1, List.take_of_length_le (Nat.le_refl _), List.drop_of_length_le (Nat.le_refl _), List.take_of_length_le (show l'.length ≤ 127 by omega), List.drop_of_length_le (show l'.length ≤ 127 by omega), ← hN, h1]; simp)
      have HNL : Hid (N = (l'.take N).length) := Lib.hid (by rw [List.length_take]; omega)
      have HLD : Hid ((l'.drop N).length = n - N) := Lib.hid (by rw [List.length_drop, hn])
      have HDONE : Hid (∀ (x : World) a c, n ≤ N → Src x R (.slice a 0 c) (l'.drop N)) := Lib.hid fun x a c h => src_done (by omega) a c
      have HDROP : Hid (∀ x : World, (∀ i, i < n → x.cell? ⟨q, off + i, none⟩ = some (.int .u8 (g l' i : Nat))) → N < n → Src x R (.slice (some ⟨q, off + N, none⟩) (n - N) (c - N)) (l'.drop N)) := Lib.hid fun (x : World) h1 h2 => src_drop hn h2 (by omega) hq h1
      have HTAKE : Hid (∀ x : World, (∀ i, i < n → x.cell? ⟨q, off + i, none⟩ = some (.int .u8 (g l' i : Nat))) → ∀ j u, (u8s (l'.take N))[j]? = some u → x.cell? ((⟨q, off, none⟩ : Addr).add j) = some u) := Lib.hid fun x h => take_cells hn (by omega) h
      rw [← hn] at hN hlen hnc h0 hcell ⊢
      have HQ0 : Hid (u0.ownBlock ≠ some q) := Lib.hid (own_ne hg.2 (hR q hq).1 (hR q hq).2)
      have HQL : Hid (q < wr.heap.size) := Lib.hid (Nat.lt_of_lt_of_le (hR q hq).2 hg.size)
      have HC := Lib.hid hcell
      have HG := Lib.hid hg
      have hgs := hg.size
      have hown := ho
      have HLT : Hid (∀ r, u0.ownBlock = some r → B ≤ r ∧ r < wr.heap.size) := Lib.hid (fun r hr => ho.lt r hr)
      have hN1 : N ≤ 127 := by omega
      have hN2 : N ≤ n := by omega
      obtain ⟨K, hK⟩ : ∃ K, K = pre'.length := ⟨_, rfl⟩
      obtain ⟨P, hP⟩ : ∃ P, P = u8s pre' := ⟨_, rfl⟩
      obtain ⟨T, hT⟩ : ∃ T, T = l'.take N := ⟨_, rfl⟩
      have HPT : Hid (u8s (pre' ++ [N] ++ T) = P ++ (.int .u8 (N : Nat) :: u8s T) ∧ (pre' ++ [N] ++ T).length = K + 1 + N) := Lib.hid ⟨by rw [u8s_app, u8s_snoc, hP, List.append_assoc]; rfl, by rw [hT, List.length_append, List.length_append, ← HNL.out, hK]; rfl⟩
      have HTL : Hid ((u8s T).length = N) := Lib.hid (by rw [u8s_len, hT]; exact HNL.out.symm)
      rw [← hT] at HTAKE HEQ
      rw [← hK, ← hP] at hown
      rw [← hK] at hlen
      obtain ⟨ao, co, hu⟩ := slice_any hown
      have HSEC : Hid (∀ w2 : World, (wr.alloc (.cells #[.int .u8 (N : Nat)] 5)).drew.grownBy w2 u0.ownBlock → ∀ i, i < n → w2.cell? ⟨q, off + i, none⟩ = some (.int .u8 (g l' i : Nat))) := Lib.hid fun w2 h i hi' => by
        have hlt : q < wr.heap.size := by have := HC.out i hi'; exact cell_lt this
        refine (World.cell?_of_block ((h.block q (by simp; omega) (fun e => HQ0.out e.symm)).trans ?_)).trans (HC.out i hi')
        exact Below.heap_alloc wr _ q hlt
      have HOD : Hid ((wr.alloc (.cells #[.int .u8 (N : Nat)] 5)).drew.ownsRow B 5 1 u0 K P) := Lib.hid (hown.alloc _).drew
      have HWZ : Hid (B ≤ (wr.alloc (.cells #[.int .u8 (N : Nat)] 5)).drew.heap.size) := Lib.hid (by simp; omega)
      have HWZ2 : Hid (∀ w2 : World, (wr.alloc (.cells #[.int .u8 (N : Nat)] 5)).drew.grownBy w2 u0.ownBlock → B ≤ w2.heap.size) := Lib.hid fun w2 h => by have h1 := h.size; simp at h1; omega
      have HC1 : Hid (∀ j u, [Value.int .u8 (N : Nat)][j]? = some u → (wr.alloc (.cells #[.int .u8 (N : Nat)] 5)).drew.cell? ((⟨wr.heap.size, 0, none⟩ : Addr).add j) = some u) := Lib.hid fun j u h => cell_one_new wr (.int .u8 (N : Nat)) 5 j u h
      have HGR : Hid (∀ (w2 : World) (v2 : Value), (wr.alloc (.cells #[.int .u8 (N : Nat)] 5)).drew.grownBy w2 u0.ownBlock → (v2.ownBlock = u0.ownBlock ∨ v2.ownBlock = some (wr.heap.size + 1)) → Gr wr w2 u0 v2) := Lib.hid fun w2 v2 h1 h2 => gr_alloc (.cells #[.int .u8 (N : Nat)] 5) (gr_at ⟨h1.os, h1.tape, h1.output, h1.size, h1.block⟩ (by simpa using h2))
      subst hu
      have hcase : (n < 127 ∧ N = n ∧ n = c) ∨ (n < 127 ∧ N = n ∧ ¬ n = c) ∨ (127 < n ∧ N = 127) ∨ (N = 127 ∧ n = 127 ∧ c = 127) ∨ (N = 127 ∧ n = 127 ∧ ¬ c = 127) := by omega
      clear heq ho hg hcell hn hK hP hT hR hb hq hN hown
      rcases hcase with ⟨hle, hNn, hcn⟩ | ⟨hle, hNn, hcn⟩ | ⟨hle, hNn⟩ | ⟨hNn, hle, hcn⟩ | ⟨hNn, hle, hcn⟩
      · subst hNn; subst hcn
        have hwr : IntKind.u8.wrap (N : Int) = (N : Int) := by rw [IntKind.wrap_u8]; omega
        have hi1 : (0 : Int) ≤ (N : Int) := by omega
        go_upto_region 3 with (fail)
        go_region_law (first
          | (refine step_append_at rfl (.tmp 12) (.tmp 15) 22 rfl B 5 i0 (.int .u8 0) 1 1 Try.underlying22 hi hz0 hz1 hz2 rfl (by decide) (.slice ao K co) K P (by simp [Act.eval]) HOD.out ⟨wr.heap.size, 0, none⟩ 1 1 [.int .u8 (N : Nat)] (by simp [Act.eval]) rfl HC1.out (by intro u hu; simp at hu; subst hu; rfl) (by unfold maxLen; omega) (by omega) HWZ.out ?_; intro v2 w2 hown2 hgrow2 hat2; obtain ⟨a2, c2, hu2⟩ := slice_any hown2; subst hu2)
          | (refine step_append_at rfl (.tmp 16) (.tmp 19) 22 rfl B 5 i0 (.int .u8 0) 1 1 Try.underlying22 hi hz0 hz1 hz2 rfl (by decide) (.slice a2 (K + 1) c2) (K + 1) _ (by simp [Act.eval]) hown2 ⟨q, off, none⟩ N N (u8s T) (by simp [Act.eval]) (by have := HTL.out; omega) (HTAKE.out _ (HSEC.out _ hgrow2)) (u8s_one _) (by unfold maxLen; omega) (by omega) (HWZ2.out _ hgrow2) ?_; intro v3 w3 hown3 hgrow3 hat3))
        all_goals
          have G2 := Lib.hid (HGR.out _ _ hgrow2 (by simpa using hat2))
          have L2 : Hid (∀ r, (Value.slice a2 (K + 1) c2).ownBlock = some r → B ≤ r ∧ r < w2.heap.size) := Lib.hid (fun r hr => hown2.lt r hr)
          have C2 := Lib.hid (HSEC.out _ hgrow2)
          have G3 := Lib.hid (gr_at hgrow3 hat3)
          have C3 : Hid (∀ i, i < N → w3.cell? ⟨q, off + i, none⟩ = some (.int .u8 (g l' i : Nat))) := Lib.hid fun i hi' => (World.cell?_of_block (G3.out.block (k := q) (by have := C2.out i hi'; exact cell_lt this) (fun e => own_ne G2.out.2 HQ0.out HQL.out e))).trans (C2.out i hi')
          have O3 := Lib.hid hown3
          clear hgrow2 hat2 hgrow3 hat3 hown2 hown3
          go_wp2_with fail
          go_roundw
          case rel => exact ⟨_, _, HEQ.out, by have h := O3.out; rw [List.append_assoc] at h; rw [HPT.out.1, HPT.out.2]; exact h, HDONE.out _ _ _ (Nat.le_refl _), HG.out.trans (G2.out.trans G3.out), by rw [HPT.out.2, HLD.out]; omega⟩
          case measure => simp [lenOf] <;> omega
      · subst hNn
        have hwr : IntKind.u8.wrap (N : Int) = (N : Int) := by rw [IntKind.wrap_u8]; omega
        have hi1 : (0 : Int) ≤ (N : Int) := by omega
        have hi2 : (N : Int) ≤ (c : Int) := by omega
        go_upto_region 3 with (fail)
        go_region_law (first
          | (refine step_append_at rfl (.tmp 12) (.tmp 15) 22 rfl B 5 i0 (.int .u8 0) 1 1 Try.underlying22 hi hz0 hz1 hz2 rfl (by decide) (.slice ao K co) K P (by simp [Act.eval]) HOD.out ⟨wr.heap.size, 0, none⟩ 1 1 [.int .u8 (N : Nat)] (by simp [Act.eval]) rfl HC1.out (by intro u hu; simp at hu; subst hu; rfl) (by unfold maxLen; omega) (by omega) HWZ.out ?_; intro v2 w2 hown2 hgrow2 hat2; obtain ⟨a2, c2, hu2⟩ := slice_any hown2; subst hu2)
          | (refine step_append_at rfl (.tmp 16) (.tmp 19) 22 rfl B 5 i0 (.int .u8 0) 1 1 Try.underlying22 hi hz0 hz1 hz2 rfl (by decide) (.slice a2 (K + 1) c2) (K + 1) _ (by simp [Act.eval]) hown2 ⟨q, off, none⟩ N c (u8s T) (by simp [Act.eval]) (by have := HTL.out; omega) (HTAKE.out _ (HSEC.out _ hgrow2)) (u8s_one _) (by unfold maxLen; omega) (by omega) (HWZ2.out _ hgrow2) ?_; intro v3 w3 hown3 hgrow3 hat3))
        all_goals
          have G2 := Lib.hid (HGR.out _ _ hgrow2 (by simpa using hat2))
          have L2 : Hid (∀ r, (Value.slice a2 (K + 1) c2).ownBlock = some r → B ≤ r ∧ r < w2.heap.size) := Lib.hid (fun r hr => hown2.lt r hr)
          have C2 := Lib.hid (HSEC.out _ hgrow2)
          have G3 := Lib.hid (gr_at hgrow3 hat3)
          have C3 : Hid (∀ i, i < N → w3.cell? ⟨q, off + i, none⟩ = some (.int .u8 (g l' i : Nat))) := Lib.hid fun i hi' => (World.cell?_of_block (G3.out.block (k := q) (by have := C2.out i hi'; exact cell_lt this) (fun e => own_ne G2.out.2 HQ0.out HQL.out e))).trans (C2.out i hi')
          have O3 := Lib.hid hown3
          clear hgrow2 hat2 hgrow3 hat3 hown2 hown3
          go_wp2_with fail
          go_roundw
          case rel => exact ⟨_, _, HEQ.out, by have h := O3.out; rw [List.append_assoc] at h; rw [HPT.out.1, HPT.out.2]; exact h, HDONE.out _ _ _ (Nat.le_refl _), HG.out.trans (G2.out.trans G3.out), by rw [HPT.out.2, HLD.out]; omega⟩
          case measure => simp [lenOf] <;> omega
      · subst hNn
        have hi2 : (127 : Int) ≤ (c : Int) := by omega
        go_upto_region 3 with (fail)
        go_region_law (first
          | (refine step_append_at rfl (.tmp 12) (.tmp 15) 22 rfl B 5 i0 (.int .u8 0) 1 1 Try.underlying22 hi hz0 hz1 hz2 rfl (by decide) (.slice ao K co) K P (by simp [Act.eval]) HOD.out ⟨wr.heap.size, 0, none⟩ 1 1 [.int .u8 127] (by simp [Act.eval]) rfl HC1.out (by intro u hu; simp at hu; subst hu; rfl) (by unfold maxLen; omega) (by omega) HWZ.out ?_; intro v2 w2 hown2 hgrow2 hat2; obtain ⟨a2, c2, hu2⟩ := slice_any hown2; subst hu2)
          | (refine step_append_at rfl (.tmp 16) (.tmp 19) 22 rfl B 5 i0 (.int .u8 0) 1 1 Try.underlying22 hi hz0 hz1 hz2 rfl (by decide) (.slice a2 (K + 1) c2) (K + 1) _ (by simp [Act.eval]) hown2 ⟨q, off, none⟩ 127 c (u8s T) (by simp [Act.eval]) (by have := HTL.out; omega) (HTAKE.out _ (HSEC.out _ hgrow2)) (u8s_one _) (by unfold maxLen; omega) (by omega) (HWZ2.out _ hgrow2) ?_; intro v3 w3 hown3 hgrow3 hat3))
        all_goals
          have G2 := Lib.hid (HGR.out _ _ hgrow2 (by simpa using hat2))
          have L2 : Hid (∀ r, (Value.slice a2 (K + 1) c2).ownBlock = some r → B ≤ r ∧ r < w2.heap.size) := Lib.hid (fun r hr => hown2.lt r hr)
          have C2 := Lib.hid (HSEC.out _ hgrow2)
          have G3 := Lib.hid (gr_at hgrow3 hat3)
          have C3 : Hid (∀ i, i < n → w3.cell? ⟨q, off + i, none⟩ = some (.int .u8 (g l' i : Nat))) := Lib.hid fun i hi' => (World.cell?_of_block (G3.out.block (k := q) (by have := C2.out i hi'; exact cell_lt this) (fun e => own_ne G2.out.2 HQ0.out HQL.out e))).trans (C2.out i hi')
          have O3 := Lib.hid hown3
          clear hgrow2 hat2 hgrow3 hat3 hown2 hown3
          go_wp2_with fail
          go_roundw
          case rel => exact ⟨_, _, HEQ.out, by have h := O3.out; rw [List.append_assoc] at h; rw [HPT.out.1, HPT.out.2]; exact h, HDROP.out _ C3.out (by omega), HG.out.trans (G2.out.trans G3.out), by rw [HPT.out.2, HLD.out]; omega⟩
          case measure => simp [lenOf] <;> omega
      · subst hNn; subst hle; subst hcn
        go_upto_region 3 with (fail)
        go_region_law (first
          | (refine step_append_at rfl (.tmp 12) (.tmp 15) 22 rfl B 5 i0 (.int .u8 0) 1 1 Try.underlying22 hi hz0 hz1 hz2 rfl (by decide) (.slice ao K co) K P (by simp [Act.eval]) HOD.out ⟨wr.heap.size, 0, none⟩ 1 1 [.int .u8 127] (by simp [Act.eval]) rfl HC1.out (by intro u hu; simp at hu; subst hu; rfl) (by unfold maxLen; omega) (by omega) HWZ.out ?_; intro v2 w2 hown2 hgrow2 hat2; obtain ⟨a2, c2, hu2⟩ := slice_any hown2; subst hu2)
          | (refine step_append_at rfl (.tmp 16) (.tmp 19) 22 rfl B 5 i0 (.int .u8 0) 1 1 Try.underlying22 hi hz0 hz1 hz2 rfl (by decide) (.slice a2 (K + 1) c2) (K + 1) _ (by simp [Act.eval]) hown2 ⟨q, off, none⟩ 127 127 (u8s T) (by simp [Act.eval]) (by have := HTL.out; omega) (HTAKE.out _ (HSEC.out _ hgrow2)) (u8s_one _) (by unfold maxLen; omega) (by omega) (HWZ2.out _ hgrow2) ?_; intro v3 w3 hown3 hgrow3 hat3))
        all_goals
          have G2 := Lib.hid (HGR.out _ _ hgrow2 (by simpa using hat2))
          have L2 : Hid (∀ r, (Value.slice a2 (K + 1) c2).ownBlock = some r → B ≤ r ∧ r < w2.heap.size) := Lib.hid (fun r hr => hown2.lt r hr)
          have C2 := Lib.hid (HSEC.out _ hgrow2)
          have G3 := Lib.hid (gr_at hgrow3 hat3)
          have C3 : Hid (∀ i, i < 127 → w3.cell? ⟨q, off + i, none⟩ = some (.int .u8 (g l' i : Nat))) := Lib.hid fun i hi' => (World.cell?_of_block (G3.out.block (k := q) (by have := C2.out i hi'; exact cell_lt this) (fun e => own_ne G2.out.2 HQ0.out HQL.out e))).trans (C2.out i hi')
          have O3 := Lib.hid hown3
          clear hgrow2 hat2 hgrow3 hat3 hown2 hown3
          go_wp2_with fail
          go_roundw
          case rel => exact ⟨_, _, HEQ.out, by have h := O3.out; rw [List.append_assoc] at h; rw [HPT.out.1, HPT.out.2]; exact h, HDONE.out _ _ _ (Nat.le_refl _), HG.out.trans (G2.out.trans G3.out), by rw [HPT.out.2, HLD.out]; omega⟩
          case measure => simp [lenOf] <;> omega
      · subst hNn; subst hle
        have hi2 : (127 : Int) ≤ (c : Int) := by omega
        go_upto_region 3 with (fail)
        go_region_law (first
          | (refine step_append_at rfl (.tmp 12) (.tmp 15) 22 rfl B 5 i0 (.int .u8 0) 1 1 Try.underlying22 hi hz0 hz1 hz2 rfl (by decide) (.slice ao K co) K P (by simp [Act.eval]) HOD.out ⟨wr.heap.size, 0, none⟩ 1 1 [.int .u8 127] (by simp [Act.eval]) rfl HC1.out (by intro u hu; simp at hu; subst hu; rfl) (by unfold maxLen; omega) (by omega) HWZ.out ?_; intro v2 w2 hown2 hgrow2 hat2; obtain ⟨a2, c2, hu2⟩ := slice_any hown2; subst hu2)
          | (refine step_append_at rfl (.tmp 16) (.tmp 19) 22 rfl B 5 i0 (.int .u8 0) 1 1 Try.underlying22 hi hz0 hz1 hz2 rfl (by decide) (.slice a2 (K + 1) c2) (K + 1) _ (by simp [Act.eval]) hown2 ⟨q, off, none⟩ 127 c (u8s T) (by simp [Act.eval]) (by have := HTL.out; omega) (HTAKE.out _ (HSEC.out _ hgrow2)) (u8s_one _) (by unfold maxLen; omega) (by omega) (HWZ2.out _ hgrow2) ?_; intro v3 w3 hown3 hgrow3 hat3))
        all_goals
          have G2 := Lib.hid (HGR.out _ _ hgrow2 (by simpa using hat2))
          have L2 : Hid (∀ r, (Value.slice a2 (K + 1) c2).ownBlock = some r → B ≤ r ∧ r < w2.heap.size) := Lib.hid (fun r hr => hown2.lt r hr)
          have C2 := Lib.hid (HSEC.out _ hgrow2)
          have G3 := Lib.hid (gr_at hgrow3 hat3)
          have C3 : Hid (∀ i, i < 127 → w3.cell? ⟨q, off + i, none⟩ = some (.int .u8 (g l' i : Nat))) := Lib.hid fun i hi' => (World.cell?_of_block (G3.out.block (k := q) (by have := C2.out i hi'; exact cell_lt this) (fun e => own_ne G2.out.2 HQ0.out HQL.out e))).trans (C2.out i hi')
          have O3 := Lib.hid hown3
          clear hgrow2 hat2 hgrow3 hat3 hown2 hown3
          go_wp2_with fail
          go_roundw
          case rel => exact ⟨_, _, HEQ.out, by have h := O3.out; rw [List.append_assoc] at h; rw [HPT.out.1, HPT.out.2]; exact h, HDONE.out _ _ _ (Nat.le_refl _), HG.out.trans (G2.out.trans G3.out), by rw [HPT.out.2, HLD.out]; omega⟩
          case measure => simp [lenOf] <;> omega
end Fb
end Go.Proofs.Ytbmdjmckgcjfcaa
