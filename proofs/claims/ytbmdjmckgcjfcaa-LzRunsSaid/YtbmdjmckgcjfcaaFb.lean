/- The program's side: appendOwn, appendCopy. -/
import Derived.Test.YtbmdjmckgcjfcaaFa
namespace Go.Proofs.Ytbmdjmckgcjfcaa
open Go.RowKit
namespace Fb
open Lm Bs

theorem add_eq (q off j : Nat) : (⟨q, off, none⟩ : Addr).add j = ⟨q, off + j, none⟩ := by unfold Addr.add; split <;> simp_all
theorem g_take {l : List Nat} {N i : Nat} (h : i < N) : g (l.take N) i = g l i := by unfold g; simp [List.getD_eq_getElem?_getD, h]
theorem g_drop (l : List Nat) (N i : Nat) : g (l.drop N) i = g l (N + i) := by unfold g; simp [List.getD_eq_getElem?_getD]
theorem u8s_g (bs : List Nat) (j : Nat) (u : Value) (h : (u8s bs)[j]? = some u) : j < bs.length ∧ u = .int .u8 (g bs j : Nat) := by
  have hj : j < bs.length := by
    by_cases hj : j < bs.length
    · exact hj
    · rw [List.getElem?_eq_none (by rw [u8s_len]; omega)] at h; cases h
  rw [u8s_get bs j hj] at h
  cases h
  exact ⟨hj, rfl⟩
/-- The first N cells. -/
theorem take_cells {w : World} {q off n N : Nat} {l : List Nat} (hn : n = l.length) (hN : N ≤ n) (hc : ∀ i, i < n → w.cell? ⟨q, off + i, none⟩ = some (.int .u8 (g l i : Nat))) : ∀ j u, (u8s (l.take N))[j]? = some u → w.cell? ((⟨q, off, none⟩ : Addr).add j) = some u := by
  intro j u h
  obtain ⟨h1, rfl⟩ := u8s_g _ _ _ h
  rw [List.length_take] at h1
  rw [add_eq, hc j (by omega), g_take (by omega)]
theorem src_drop {w : World} {R : Nat → Prop} {q off n c N : Nat} {l : List Nat} (hn : n = l.length) (hN : N < n) (hnc : n ≤ c) (hR : R q) (hc : ∀ i, i < n → w.cell? ⟨q, off + i, none⟩ = some (.int .u8 (g l i : Nat))) : Src w R (.slice (some ⟨q, off + N, none⟩) (n - N) (c - N)) (l.drop N) := by
  refine .inr ⟨by rw [List.length_drop]; omega, q, off + N, c - N, by rw [List.length_drop, hn], by rw [List.length_drop]; omega, hR, fun i hi => ?_⟩
  rw [List.length_drop] at hi
  rw [Nat.add_assoc, hc (N + i) (by omega), g_drop]
theorem src_done {w : World} {R : Nat → Prop} {l : List Nat} {N : Nat} (h : l.length ≤ N) (a : Option Addr) (c : Nat) : Src w R (.slice a 0 c) (l.drop N) := by
  rw [List.drop_of_length_le h]; exact .inl ⟨rfl, _, _, rfl⟩

set_option maxRecDepth 100000 in
set_option maxHeartbeats 2000000 in
theorem own13 (w : World) (B : Nat) (R : Nat → Prop) (s v : Value) (pre l : List Nat) (hown : w.ownsRow B 5 1 s pre.length (u8s pre)) (hS : Src w R v l) (hR : ∀ k, R k → k < B) (hB : B ≤ w.heap.size) (hb : pre.length + 2 * l.length ≤ 70368744177664) :
    Calls Try.prog 13 #[s, v] w fun e w' => ∃ r, e = .returned r ∧ w'.ownsRow B 5 1 r (pre ++ own l).length (u8s (pre ++ own l)) ∧ Gr w w' s r := by
  obtain ⟨i0, hi, hz0, hz1, hz2⟩ := info_parts info5
  have HS := Lib.hid hS
  have HO := Lib.hid hown
  clear hS hown
  go_enter Try.func13, Try.ntmps13
  go_wp2_with fail
  go_loopw [0, 1] (fun s' v' wr => ∃ pre' l', pre' ++ own l' = pre ++ own l ∧ wr.ownsRow B 5 1 s' pre'.length (u8s pre') ∧ Src wr R v' l' ∧ Gr w wr s s' ∧ pre'.length + 2 * l'.length ≤ 70368744177664) (fun _ v' _ => lenOf v')
  case atStart => exact ⟨pre, l, rfl, HO.out, HS.out, Gr.refl _ _, hb⟩
  case round =>
    obtain ⟨pre', l', heq, ho, hs, hg, hlen⟩ := hrel
    rcases hs with ⟨rfl, a, c, rfl⟩ | ⟨h0, q, off, c, rfl, hnc, hq, hcell⟩
    · have HH : Hid (wr.ownsRow B 5 1 u0 (pre ++ own l).length (u8s (pre ++ own l))) := Lib.hid (by rw [own_nil, List.append_nil] at heq; rw [← heq]; exact ho)
      have HG := Lib.hid hg
      clear heq ho hg
      go_wp2_with fail
      go_ret
      exact ⟨_, rfl, HH.out, HG.out⟩
    · obtain ⟨n, hn⟩ : ∃ n, n = l'.length := ⟨_, rfl⟩
      obtain ⟨N, hN⟩ : ∃ N, N = min 127 l'.length := ⟨_, rfl⟩
      have HEQ : Hid ((pre' ++ [N] ++ l'.take N) ++ own (l'.drop N) = pre ++ own l) := Lib.hid (by
        rw [← heq, own_cons h0]
        rcases (show N = 127 ∨ (N = l'.length ∧ N ≤ 127) by omega) with rfl | ⟨h1, h2⟩
        · rw [hN]; simp
        · rw [h1, List.take_of_length_le (Nat.le_refl _), List.drop_of_length_le (Nat.le_refl _), List.take_of_length_le (show l'.length ≤ 127 by omega), List.drop_of_length_le (show l'.length ≤ 127 by omega), ← hN, h1]; simp)
      have HNL : Hid (N = (l'.take N).length) := Lib.hid (by rw [List.length_take]; omega)
      have HLD : Hid ((l'.drop N).length = n - N) := Lib.hid (by rw [List.length_drop, hn])
      have HDONE : Hid (∀ (x : World) a c, n ≤ N → Src x R (.slice a 0 c) (l'.drop N)) := Lib.hid fun x a c h => src_done (by omega) a c
      have HDROP : Hid (∀ x : World, (∀ i, i < n → x.cell? ⟨q, off + i, none⟩ = some (.int .u8 (g l' i : Nat))) → N < n → Src x R (.slice (some ⟨q, off + N, none⟩) (n - N) (c - N)) (l'.drop N)) := Lib.hid fun (x : World) h1 h2 => src_drop hn h2 (by omega) hq h1
      have HTAKE : Hid (∀ x : World, (∀ i, i < n → x.cell? ⟨q, off + i, none⟩ = some (.int .u8 (g l' i : Nat))) → ∀ j u, (u8s (l'.take N))[j]? = some u → x.cell? ((⟨q, off, none⟩ : Addr).add j) = some u) := Lib.hid fun x h => take_cells hn (by omega) h
      rw [← hn] at hN hlen hnc h0 hcell ⊢
      have hqB := hR q hq
      have HC := Lib.hid hcell
      have HG := Lib.hid hg
      have hgs := hg.size
      have hown := ho
      have HLT : Hid (∀ r, u0.ownBlock = some r → B ≤ r ∧ r < wr.heap.size) := Lib.hid (fun r hr => ho.lt r hr)
      have hN1 : N ≤ 127 := by omega
      have hN2 : N ≤ n := by omega
      obtain ⟨K, hK⟩ : ∃ K, K = pre'.length := ⟨_, rfl⟩
      obtain ⟨P, hP⟩ : ∃ P, P = u8s pre' := ⟨_, rfl⟩
      obtain ⟨T, hT⟩ : ∃ T, T = l'.take N := ⟨_, rfl⟩
      have HPT : Hid (u8s (pre' ++ [N] ++ T) = P ++ (.int .u8 (N : Nat) :: u8s T) ∧ (pre' ++ [N] ++ T).length = K + 1 + N) := Lib.hid ⟨by rw [u8s_app, u8s_snoc, hP, List.append_assoc]; rfl, by rw [hT, List.length_append, List.length_append, ← HNL.out, hK]; rfl⟩
      have HTL : Hid ((u8s T).length = N) := Lib.hid (by rw [u8s_len, hT]; exact HNL.out.symm)
      rw [← hT] at HTAKE HEQ
      rw [← hK, ← hP] at hown
      rw [← hK] at hlen
      have hcase : (n ≤ 127 ∧ N = n ∧ n = c) ∨ (n ≤ 127 ∧ N = n ∧ ¬ c = n) ∨ (¬ n ≤ 127 ∧ N = 127) := by omega
      clear heq ho hg hcell hn hK hP hT hR hb hq hN
      rcases hcase with ⟨hle, hNn, hcn⟩ | ⟨hle, hNn, hcn⟩ | ⟨hle, hNn⟩
      · subst hNn; subst hcn
        go_wp2_with (at_builtin; refine wpList_append_own_at _ rfl (.tmp 12) (.tmp 15) 22 rfl B 5 i0 (.int .u8 0) 1 1 Try.underlying22 hi hz0 hz1 hz2 rfl (by decide) _ K _ rfl (hown.alloc _) ⟨wr.heap.size, 0, none⟩ 1 1 [.int .u8 (N : Nat)] rfl rfl ?c1 ?c2 ?c3 ?c4 ?c5 ?_)
        case c1 => exact cell_one_new _ _ _
        case c2 => intro u hu; simp at hu; subst hu; rfl
        case c3 => unfold maxLen; omega
        case c4 => omega
        case c5 => simp; omega
        intro v2 w2 hown2 hgrow2 _ hat2
        have G2 := Lib.hid (gr_alloc _ (gr_at hgrow2 (by simpa using hat2)))
        have L2 : Hid (∀ r, v2.ownBlock = some r → B ≤ r ∧ r < w2.heap.size) := Lib.hid (fun r hr => hown2.lt r hr)
        have C2 : Hid (∀ i, i < N → w2.cell? ⟨q, off + i, none⟩ = some (.int .u8 (g l' i : Nat))) := Lib.hid fun i hi' => (World.cell?_of_block (G2.out.block (k := q) (by omega) (fun e => by have := HLT.out q e; omega))).trans (HC.out i hi')
        have hgs2 := G2.out.size
        clear hgrow2 hat2 hown
        go_wp2_with (at_builtin; refine wpList_append_own_at _ rfl (.tmp 17) (.tmp 20) 22 rfl B 5 i0 (.int .u8 0) 1 1 Try.underlying22 hi hz0 hz1 hz2 rfl (by decide) _ (K + 1) _ rfl hown2 ⟨q, off, none⟩ N _ (u8s T) rfl (by have := HTL.out; omega) ?d1 ?d2 ?d3 ?d4 ?d5 ?_)
        case d1 => exact HTAKE.out _ C2.out
        case d2 => exact u8s_one _
        case d3 => unfold maxLen; omega
        case d4 => omega
        case d5 => omega
        intro v3 w3 hown3 hgrow3 _ hat3
        have G3 := Lib.hid (gr_at hgrow3 hat3)
        have C3 : Hid (∀ i, i < N → w3.cell? ⟨q, off + i, none⟩ = some (.int .u8 (g l' i : Nat))) := Lib.hid fun i hi' => (World.cell?_of_block (G3.out.block (k := q) (by omega) (fun e => by have := L2.out q e; omega))).trans (C2.out i hi')
        have O3 := Lib.hid hown3
        clear hgrow3 hat3 hown2 hown3
        go_wp2_with fail
        go_roundw
        case rel => exact ⟨_, _, HEQ.out, by rw [HPT.out.1, HPT.out.2]; exact O3.out, HDONE.out _ _ _ (Nat.le_refl _), HG.out.trans (G2.out.trans G3.out), by rw [HPT.out.2, HLD.out]; omega⟩
        case measure => simp [lenOf]; omega
      · subst hNn
        go_wp2_with (at_builtin; refine wpList_append_own_at _ rfl (.tmp 12) (.tmp 15) 22 rfl B 5 i0 (.int .u8 0) 1 1 Try.underlying22 hi hz0 hz1 hz2 rfl (by decide) _ K _ rfl (hown.alloc _) ⟨wr.heap.size, 0, none⟩ 1 1 [.int .u8 (N : Nat)] rfl rfl ?c1 ?c2 ?c3 ?c4 ?c5 ?_)
        case c1 => exact cell_one_new _ _ _
        case c2 => intro u hu; simp at hu; subst hu; rfl
        case c3 => unfold maxLen; omega
        case c4 => omega
        case c5 => simp; omega
        intro v2 w2 hown2 hgrow2 _ hat2
        have G2 := Lib.hid (gr_alloc _ (gr_at hgrow2 (by simpa using hat2)))
        have L2 : Hid (∀ r, v2.ownBlock = some r → B ≤ r ∧ r < w2.heap.size) := Lib.hid (fun r hr => hown2.lt r hr)
        have C2 : Hid (∀ i, i < N → w2.cell? ⟨q, off + i, none⟩ = some (.int .u8 (g l' i : Nat))) := Lib.hid fun i hi' => (World.cell?_of_block (G2.out.block (k := q) (by omega) (fun e => by have := HLT.out q e; omega))).trans (HC.out i hi')
        have hgs2 := G2.out.size
        clear hgrow2 hat2 hown
        go_wp2_with (at_builtin; refine wpList_append_own_at _ rfl (.tmp 17) (.tmp 20) 22 rfl B 5 i0 (.int .u8 0) 1 1 Try.underlying22 hi hz0 hz1 hz2 rfl (by decide) _ (K + 1) _ rfl hown2 ⟨q, off, none⟩ N _ (u8s T) rfl (by have := HTL.out; omega) ?d1 ?d2 ?d3 ?d4 ?d5 ?_)
        case d1 => exact HTAKE.out _ C2.out
        case d2 => exact u8s_one _
        case d3 => unfold maxLen; omega
        case d4 => omega
        case d5 => omega
        intro v3 w3 hown3 hgrow3 _ hat3
        have G3 := Lib.hid (gr_at hgrow3 hat3)
        have C3 : Hid (∀ i, i < N → w3.cell? ⟨q, off + i, none⟩ = some (.int .u8 (g l' i : Nat))) := Lib.hid fun i hi' => (World.cell?_of_block (G3.out.block (k := q) (by omega) (fun e => by have := L2.out q e; omega))).trans (C2.out i hi')
        have O3 := Lib.hid hown3
        clear hgrow3 hat3 hown2 hown3
        go_wp2_with fail
        go_roundw
        case rel => exact ⟨_, _, HEQ.out, by rw [HPT.out.1, HPT.out.2]; exact O3.out, HDONE.out _ _ _ (Nat.le_refl _), HG.out.trans (G2.out.trans G3.out), by rw [HPT.out.2, HLD.out]; omega⟩
        case measure => simp [lenOf]; omega
      · subst hNn
        go_wp2_with (at_builtin; refine wpList_append_own_at _ rfl (.tmp 12) (.tmp 15) 22 rfl B 5 i0 (.int .u8 0) 1 1 Try.underlying22 hi hz0 hz1 hz2 rfl (by decide) _ K _ rfl (hown.alloc _) ⟨wr.heap.size, 0, none⟩ 1 1 [.int .u8 127] rfl rfl ?c1 ?c2 ?c3 ?c4 ?c5 ?_)
        case c1 => exact cell_one_new _ _ _
        case c2 => intro u hu; simp at hu; subst hu; rfl
        case c3 => unfold maxLen; omega
        case c4 => omega
        case c5 => simp; omega
        intro v2 w2 hown2 hgrow2 _ hat2
        have G2 := Lib.hid (gr_alloc _ (gr_at hgrow2 (by simpa using hat2)))
        have L2 : Hid (∀ r, v2.ownBlock = some r → B ≤ r ∧ r < w2.heap.size) := Lib.hid (fun r hr => hown2.lt r hr)
        have C2 : Hid (∀ i, i < n → w2.cell? ⟨q, off + i, none⟩ = some (.int .u8 (g l' i : Nat))) := Lib.hid fun i hi' => (World.cell?_of_block (G2.out.block (k := q) (by omega) (fun e => by have := HLT.out q e; omega))).trans (HC.out i hi')
        have hgs2 := G2.out.size
        clear hgrow2 hat2 hown
        go_wp2_with (at_builtin; refine wpList_append_own_at _ rfl (.tmp 17) (.tmp 20) 22 rfl B 5 i0 (.int .u8 0) 1 1 Try.underlying22 hi hz0 hz1 hz2 rfl (by decide) _ (K + 1) _ rfl hown2 ⟨q, off, none⟩ 127 _ (u8s T) rfl (by have := HTL.out; omega) ?d1 ?d2 ?d3 ?d4 ?d5 ?_)
        case d1 => exact HTAKE.out _ C2.out
        case d2 => exact u8s_one _
        case d3 => unfold maxLen; omega
        case d4 => omega
        case d5 => omega
        intro v3 w3 hown3 hgrow3 _ hat3
        have G3 := Lib.hid (gr_at hgrow3 hat3)
        have C3 : Hid (∀ i, i < n → w3.cell? ⟨q, off + i, none⟩ = some (.int .u8 (g l' i : Nat))) := Lib.hid fun i hi' => (World.cell?_of_block (G3.out.block (k := q) (by omega) (fun e => by have := L2.out q e; omega))).trans (C2.out i hi')
        have O3 := Lib.hid hown3
        clear hgrow3 hat3 hown2 hown3
        go_wp2_with fail
        go_roundw
        case rel => exact ⟨_, _, HEQ.out, by rw [HPT.out.1, HPT.out.2]; exact O3.out, HDROP.out _ C3.out (by omega), HG.out.trans (G2.out.trans G3.out), by rw [HPT.out.2, HLD.out]; omega⟩
        case measure => simp [lenOf]; omega
end Fb
end Go.Proofs.Ytbmdjmckgcjfcaa
