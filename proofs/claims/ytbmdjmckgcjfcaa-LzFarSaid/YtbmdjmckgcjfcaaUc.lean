/- appendTo. -/
import Derived.Test.YtbmdjmckgcjfcaaUb
namespace Go.Proofs.Ytbmdjmckgcjfcaa
open Go.RowKit
namespace Ua
open Lm Lu Bs Fa Fb Ch

set_option maxRecDepth 100000 in
theorem to_own19 (w : World) (B : Nat) (s : Value) (out T : List Nat) (q off c l : Nat) (hown : w.ownsRow B 5 1 s out.length (u8s out)) (hT : ∀ i, i < T.length → w.cell? ⟨q, off + i, none⟩ = some (.int .u8 (g T i : Nat))) (h0 : 0 < T.length) (hB : B ≤ w.heap.size) (hb : out.length + T.length ≤ 140737488353272) :
    Calls Try.prog 19 #[.agg #[.slice (some ⟨q, off, none⟩) T.length c, .int .i64 0, .int .i64 (l : Nat)], s] w fun e w' => ∃ r, e = .returned r ∧ w'.ownsRow B 5 1 r (out ++ T).length (u8s (out ++ T)) ∧ Gr w w' s r := by
  obtain ⟨i0, hi, hz0, hz1, hz2⟩ := info_parts info5
  have hql : q < w.heap.size := by have := hT 0 h0; exact cell_lt this
  have HC : Hid (∀ j u, (u8s T)[j]? = some u → (w.alloc (.cells #[.slice (some ⟨q, off, none⟩) T.length c, .int .i64 0, .int .i64 (l : Nat)] 45)).cell? ((⟨q, off, none⟩ : Addr).add j) = some u) := Lib.hid fun j u h => by
    obtain ⟨h1, rfl⟩ := u8s_g _ _ _ h
    rw [add_eq, World.cell?_of_block (Below.heap_alloc w _ q hql)]
    exact hT j h1
  have HL := u8s_len T
  obtain ⟨K, hK⟩ : ∃ K, K = out.length := ⟨_, rfl⟩
  obtain ⟨P, hP⟩ : ∃ P, P = u8s out := ⟨_, rfl⟩
  obtain ⟨n, hn⟩ : ∃ n, n = T.length := ⟨_, rfl⟩
  have HPT : Hid (u8s (out ++ T) = P ++ u8s T ∧ (out ++ T).length = K + n) := Lib.hid ⟨by rw [u8s_app, hP], by rw [List.length_append, hK, hn]⟩
  rw [← hK, ← hP] at hown
  rw [← hK, ← hn] at hb
  rw [← hn] at HC HL ⊢
  clear hK hP hn hT h0
  go_enter Try.func19, Try.ntmps19
  go_wp2_with (at_builtin; refine wpList_append_own_at _ rfl (.tmp 8) (.tmp 10) 22 rfl B 5 i0 (.int .u8 0) 1 1 Try.underlying22 hi hz0 hz1 hz2 rfl (by decide) _ K _ rfl (hown.alloc _) ⟨q, off, none⟩ n c (u8s T) rfl (by omega) ?c1 ?c2 ?c3 ?c4 ?c5 ?_)
  case c1 => exact HC.out
  case c2 => exact u8s_one _
  case c3 => unfold maxLen; omega
  case c4 => omega
  case c5 => simp; omega
  intro v2 w2 hown2 hgrow2 _ hat2
  have G2 := Lib.hid (gr_alloc _ (gr_at hgrow2 (by simpa using hat2)))
  have O2 := Lib.hid hown2
  clear hgrow2 hat2 hown hown2
  go_wp2_with fail
  go_ret
  exact ⟨_, rfl, by rw [HPT.out.1, HPT.out.2]; exact O2.out, G2.out⟩

set_option maxRecDepth 100000 in
set_option maxHeartbeats 1000000 in
theorem to_copy19 (w : World) (B : Nat) (s : Value) (out : List Nat) (d m : Nat) (hown : w.ownsRow B 5 1 s out.length (u8s out)) (hd1 : 1 ≤ d) (hd : d ≤ out.length) (hB : B ≤ w.heap.size) (hb : out.length + m ≤ 140737488353272) :
    Calls Try.prog 19 #[.agg #[.slice none 0 0, .int .i64 (d : Nat), .int .i64 (m : Nat)], s] w fun e w' => ∃ r, e = .returned r ∧ w'.ownsRow B 5 1 r (copyN out d m).length (u8s (copyN out d m)) ∧ Gr w w' s r := by
  obtain ⟨i0, hi, hz0, hz1, hz2⟩ := info_parts info5
  have hdb : ((d : Int) == 0) = false := by rw [beq_eq_false_iff_ne]; omega
  obtain ⟨w1, hw1⟩ : ∃ w1, w1 = w.alloc (.cells #[.slice none 0 0, .int .i64 (d : Nat), .int .i64 (m : Nat)] 45) := ⟨_, rfl⟩
  have HO1 : Hid (w1.ownsRow B 5 1 s out.length (u8s out)) := Lib.hid (by rw [hw1]; exact hown.alloc _)
  have HCD : Hid (w1.cell? ⟨w.heap.size, 1, none⟩ = some (.int .i64 (d : Nat))) := Lib.hid (by rw [hw1]; exact Np.new_cell w _ _ 1 _ rfl)
  have HSZ : Hid (w1.heap.size = w.heap.size + 1) := Lib.hid (by rw [hw1]; simp)
  have HNE : Hid (s.ownBlock ≠ some w.heap.size) := Lib.hid fun e => by have := (hown.lt _ e).2; omega
  have HGA : Hid (∀ w' s', Gr w1 w' s s' → Gr w w' s s') := Lib.hid fun w' s' h => by rw [hw1] at h; exact gr_alloc _ h
  have HLEN : Hid (∀ k, (copyN out d k).length = out.length + k) := Lib.hid fun k => copyN_len d k out
  have HSN : Hid (∀ k, copyN out d (k + 1) = copyN out d k ++ [g (copyN out d k) ((copyN out d k).length - d)]) := Lib.hid fun k => copyN_snoc d k out
  obtain ⟨n0, hn0⟩ : ∃ n0, n0 = out.length := ⟨_, rfl⟩
  rw [← hn0] at hd hb HLEN
  have HN0 := Lib.hid hn0
  clear hown hn0
  go_enter Try.func19, Try.ntmps19
  go_wp2_with fail
  rw [← hw1]
  clear hw1
  go_loopw [1, 14] (fun s' i wr => ∃ k, k ≤ m ∧ i = .int .i64 (k : Nat) ∧ wr.ownsRow B 5 1 s' (copyN out d k).length (u8s (copyN out d k)) ∧ Gr w1 wr s s') (fun _ i _ => m - (intOf i).toNat)
  case atStart => exact ⟨0, Nat.zero_le _, rfl, HO1.out, Gr.refl _ _⟩
  case round =>
    obtain ⟨k, hk, rfl, ho, hg⟩ := hrel
    by_cases hkm : k < m
    · have hbc := hg.block (k := w.heap.size) (by have := HSZ.out; omega) HNE.out
      have ec := (World.cell?_of_block hbc).trans HCD.out
      have hlen := HLEN.out k
      have hsn := Lib.hid (HSN.out k)
      obtain ⟨G, cc, rfl⟩ := Go.Joins.ownsRow_form ho (by omega)
      have hgs := hg.size
      have e1 := (ho.cellAt (n0 + k - d) (by omega)).trans (u8s_get _ _ (by omega))
      obtain ⟨X, hX⟩ : ∃ X, X = (copyN out d k).getD (n0 + k - d) 0 := ⟨_, rfl⟩
      rw [← hX] at e1
      obtain ⟨L, hL⟩ : ∃ L, L = (copyN out d k).length := ⟨_, rfl⟩
      obtain ⟨P, hP⟩ : ∃ P, P = u8s (copyN out d k) := ⟨_, rfl⟩
      have HNX : Hid (u8s (copyN out d (k + 1)) = P ++ [.int .u8 (X : Nat)] ∧ (copyN out d (k + 1)).length = L + 1) := Lib.hid (by
        rw [hsn.out, u8s_snoc, hP, hX, hlen]
        exact ⟨rfl, by rw [List.length_append, hL]; rfl⟩)
      have hown := ho
      rw [← hL, ← hP] at hown
      rw [← hL] at hlen hg ⊢
      have hi1 : (L : Int) - (d : Int) = ((n0 + k - d : Nat) : Int) := by omega
      obtain ⟨I, hI⟩ : ∃ I, I = n0 + k - d := ⟨_, rfl⟩
      rw [← hI] at hi1 e1
      have hIL : I < L := by omega
      have HG := Lib.hid hg
      have hB1 : B ≤ wr.heap.size := by have := HSZ.out; omega
      have hLb : L + 1 ≤ 140737488353272 := by omega
      clear ho hg hbc hX hL hP hI hlen hgs
      go_wp2_with (at_builtin; refine wpList_append_own_at _ rfl (.tmp 16) (.tmp 25) 22 rfl B 5 i0 (.int .u8 0) 1 1 Try.underlying22 hi hz0 hz1 hz2 rfl (by decide) _ L _ rfl (hown.alloc _) ⟨wr.heap.size, 0, none⟩ 1 1 [.int .u8 (X : Nat)] rfl rfl ?c1 ?c2 ?c3 ?c4 ?c5 ?_)
      case c1 => exact cell_one_new _ _ _
      case c2 => intro u hu; simp at hu; subst hu; rfl
      case c3 => unfold maxLen; omega
      case c4 => omega
      case c5 => simp; omega
      intro v2 w2 hown2 hgrow2 _ hat2
      have G2 := Lib.hid (HG.out.trans (gr_alloc _ (gr_at hgrow2 (by simpa using hat2))))
      have O2 := Lib.hid hown2
      clear hgrow2 hat2 hown hown2 ec e1
      go_wp2_with fail
      go_roundw
      case rel => exact ⟨k + 1, by omega, by go_num, by rw [HNX.out.1, HNX.out.2]; exact O2.out, G2.out⟩
      case measure => simp [intOf]; omega
    · obtain rfl : k = m := by omega
      have HO := Lib.hid ho
      have HG := Lib.hid hg
      clear ho hg
      go_wp2_with fail
      go_ret
      exact ⟨_, rfl, HO.out, HGA.out _ _ HG.out⟩
end Ua
end Go.Proofs.Ytbmdjmckgcjfcaa
