import Derived.Test.YtjmddomkoholoaaGreatDoorG03

/- readPiece. -/
namespace Go.Proofs.YtjmddomkoholoaaGreatDoor
open Go.RowKit
namespace Ua
open Lm Lu Bs Fa Fb Ch

def Put3 (x : World) (B : Nat) (a b c : Value) : World := ((x.setCell ⟨B, 0, none⟩ a).setCell ⟨B, 1, none⟩ b).setCell ⟨B, 2, none⟩ c
theorem put3 {w x : World} (hx : Below (w.heap.size + 1) (w.alloc (.cells #[.slice none 0 0, .int .i64 0, .int .i64 0] 195)) x) (a b c : Value) :
    (Put3 x w.heap.size a b c).cell? ⟨w.heap.size, 0, none⟩ = some a ∧ (Put3 x w.heap.size a b c).cell? ⟨w.heap.size, 1, none⟩ = some b ∧ (Put3 x w.heap.size a b c).cell? ⟨w.heap.size, 2, none⟩ = some c ∧ Below w.heap.size w (Put3 x w.heap.size a b c) := by
  have h := fun i v hv => (hx.cell (p := ⟨w.heap.size, i, none⟩) (by simp)).trans (Np.new_cell w #[.slice none 0 0, .int .i64 0, .int .i64 0] 195 i v hv)
  have h0 := h 0 (.slice none 0 0) rfl
  have h1 := h 1 (.int .i64 0) rfl
  have h2 := h 2 (.int .i64 0) rfl
  have hb : Below w.heap.size w x := ((Below.refl w.heap.size w).alloc (Nat.le_refl _) _).trans (hx.mono (by omega))
  unfold Put3
  refine ⟨?_, ?_, ?_, (((hb.setCell (Nat.le_refl _) _).setCell (Nat.le_refl _) _).setCell (Nat.le_refl _) _)⟩
  · rw [cell_other (by simp), cell_other (by simp)]
    exact cell_same h0
  · rw [cell_other (by simp)]
    exact cell_same (u := .int .i64 0) (by rw [cell_other (by simp)]; exact h1)
  · exact cell_same (u := .int .i64 0) (by rw [cell_other (by simp), cell_other (by simp)]; exact h2)
theorem put3_cells {w x : World} (hx : Below (w.heap.size + 1) (w.alloc (.cells #[.slice none 0 0, .int .i64 0, .int .i64 0] 195)) x) (i : Nat) (hi : i < 3) :
    (∃ u, x.cell? ⟨w.heap.size, i, none⟩ = some u) ∧ x.frozen? ⟨w.heap.size, i, none⟩ = false := by
  refine ⟨?_, (hx.frozen (p := ⟨w.heap.size, i, none⟩) (by simp)).trans (frozen_of_row _ _ _ _ _ (heap_alloc_new _ _))⟩
  have h := fun v hv => (hx.cell (p := ⟨w.heap.size, i, none⟩) (by simp)).trans (Np.new_cell w #[.slice none 0 0, .int .i64 0, .int .i64 0] 195 i v hv)
  match i, hi with
  | 0, _ => exact ⟨_, h _ rfl⟩
  | 1, _ => exact ⟨_, h _ rfl⟩
  | 2, _ => exact ⟨_, h _ rfl⟩

/-- What is not a piece. -/
def NoPiece (n : Nat) (r : List Nat) : Prop := n = 0 ∨ (n < 128 ∧ r.length < n) ∨ (128 ≤ n ∧ (r.length < 2 ∨ g r 0 * 256 + g r 1 = 0))

set_option maxRecDepth 100000 in
theorem by_copy (w : World) (R : Nat → Prop) (v : Value) (n : Nat) (r : List Nat) (d l s : Nat) (hS : Src w R v (n :: r)) (hX : ∀ x ∈ (n :: r), x < 256) (h128 : 128 ≤ n) (hl : r.length ≤ 140737488353272)
    (hF : ∀ x, Src x R v (n :: r) → Calls Tryz.prog 179 #[v] x fun e w' => e = .returned (.tuple #[.agg #[.slice none 0 0, .int .i64 (d : Nat), .int .i64 (l : Nat)], .int .i64 (s : Nat)]) ∧ Below x.heap.size x w') :
    Calls Tryz.prog 171 #[v] w fun e w' => e = .returned (.tuple #[.agg #[.slice none 0 0, .int .i64 (d : Nat), .int .i64 (l : Nat)], .int .i64 (s : Nat)]) ∧ Below w.heap.size w w' := by
  have FB := Lib.hid ((Below.refl w.heap.size w).alloc (Nat.le_refl _) (.cells #[.slice none 0 0, .int .i64 0, .int .i64 0] 195))
  have F22 := Lib.hid (hF _ (hS.move (w' := w.alloc (.cells #[.slice none 0 0, .int .i64 0, .int .i64 0] 195)) fun b hb hlt => Below.heap_alloc w _ b hlt))
  rcases hS with ⟨h, _⟩ | ⟨h0, q, off, c, rfl, hnc, hq, hcell⟩
  · cases h
  · have e0 : w.cell? ⟨q, off, none⟩ = some (.int .u8 (n : Nat)) := hcell 0 (by simp)
    have hql : q < w.heap.size := cell_lt e0
    have f0 : (w.alloc (.cells #[.slice none 0 0, .int .i64 0, .int .i64 0] 195)).cell? ⟨q, off, none⟩ = some (.int .u8 (n : Nat)) := (World.cell?_of_block (Below.heap_alloc w _ q hql)).trans e0
    have hn : n < 256 := hX n (by simp)
    obtain ⟨L, hL⟩ : ∃ L, L = (n :: r).length := ⟨_, rfl⟩
    have hL4 : L ≤ 140737488353273 := by rw [hL]; simp; omega
    have hi0 : (0 : Int) < (L : Int) := by omega
    have hg : (n : Int) ≥ 128 := by omega
    rw [← hL] at hnc F22 ⊢
    clear hcell hX hL h0 hl hF e0 hq
    go_enter Tryz.func171, Tryz.ntmps171
    go_wp2_with fail
    refine F22.out.mono ?_
    rintro e w2 ⟨rfl, bl⟩
    have hx : Below (w.heap.size + 1) (w.alloc (.cells #[.slice none 0 0, .int .i64 0, .int .i64 0] 195)) w2 := by simpa using bl
    obtain ⟨⟨u0, k0⟩, z0⟩ := put3_cells hx 0 (by decide)
    obtain ⟨⟨u1, k1⟩, z1⟩ := put3_cells hx 1 (by decide)
    obtain ⟨⟨u2, k2⟩, z2⟩ := put3_cells hx 2 (by decide)
    have HX := Lib.hid hx
    clear hx bl
    go_wp2_with fail
    obtain ⟨c0, c1, c2, bl⟩ := put3 HX.out (.slice none 0 0) (.int .i64 (d : Nat)) (.int .i64 (l : Nat))
    change bodyPost _ _ _ _ _ (Put3 w2 w.heap.size (.slice none 0 0) (.int .i64 (d : Nat)) (.int .i64 (l : Nat)))
    refine bodyPost_ret (v := .tuple #[.agg #[.slice none 0 0, .int .i64 (d : Nat), .int .i64 (l : Nat)], .int .i64 (s : Nat)]) (by simp [results, Tryz.results171, go_sem, c0, c1, c2]) rfl ⟨rfl, bl⟩

set_option maxRecDepth 100000 in
theorem read_none (w : World) (R : Nat → Prop) (v : Value) (n : Nat) (r : List Nat) (hS : Src w R v (n :: r)) (hX : ∀ x ∈ (n :: r), x < 256) (hl : r.length ≤ 140737488353272) (h : NoPiece n r) :
    Calls Tryz.prog 171 #[v] w fun e w' => e = .returned none0 ∧ Below w.heap.size w w' := by
  by_cases h128 : 128 ≤ n
  · refine by_copy w R v n r 0 0 0 hS hX h128 hl fun x hSx => ?_
    rcases h with h | ⟨h, _⟩ | ⟨_, h | h⟩
    · omega
    · omega
    · obtain ⟨a, c, rfl⟩ := hSx.forms
      exact copy_few x a _ c (by simp; omega)
    · by_cases h2 : 2 ≤ r.length
      · exact copy_noughts x R v n r hSx hX h2 hl h
      · obtain ⟨a, c, rfl⟩ := hSx.forms
        exact copy_few x a _ c (by simp; omega)
  · rcases hS with ⟨h, _⟩ | ⟨h0, q, off, c, rfl, hnc, hq, hcell⟩
    · cases h
    · have e0 : w.cell? ⟨q, off, none⟩ = some (.int .u8 (n : Nat)) := hcell 0 (by simp)
      have hql : q < w.heap.size := cell_lt e0
      have f0 : (w.alloc (.cells #[.slice none 0 0, .int .i64 0, .int .i64 0] 195)).cell? ⟨q, off, none⟩ = some (.int .u8 (n : Nat)) := (World.cell?_of_block (Below.heap_alloc w _ q hql)).trans e0
      obtain ⟨L, hL⟩ : ∃ L, L = (n :: r).length := ⟨_, rfl⟩
      have hL4 : L ≤ 140737488353273 := by rw [hL]; simp; omega
      have hi0 : (0 : Int) < (L : Int) := by omega
      have hg : ¬ (n : Int) ≥ 128 := by omega
      have hc : n = 0 ∨ (n ≠ 0 ∧ L < 1 + n) := by
        have : L = r.length + 1 := by rw [hL]; simp
        rcases h with h | ⟨_, h⟩ | ⟨h, _⟩
        · exact .inl h
        · by_cases e : n = 0
          · exact .inl e
          · exact .inr ⟨e, by omega⟩
        · omega
      rw [← hL] at hnc ⊢
      have FB := Lib.hid ((Below.refl w.heap.size w).alloc (Nat.le_refl _) (.cells #[.slice none 0 0, .int .i64 0, .int .i64 0] 195))
      clear hcell hX hL h0 hl e0 hq h h128
      rcases hc with rfl | ⟨hn0, hlt⟩
      · go_enter Tryz.func171, Tryz.ntmps171
        go_wp2_with fail
        refine bodyPost_ret (v := none0) (by simp [results, Tryz.results171, go_sem, none0]) rfl ⟨rfl, FB.out⟩
      · have hb0 : ((n : Int) == 0) = false := by rw [beq_eq_false_iff_ne]; omega
        have hlt' : (L : Int) < 1 + (n : Int) := by omega
        go_enter Tryz.func171, Tryz.ntmps171
        go_wp2_with fail
        refine bodyPost_ret (v := none0) (by simp [results, Tryz.results171, go_sem, none0]) rfl ⟨rfl, FB.out⟩

set_option maxRecDepth 100000 in
theorem read_own (w : World) (q off L c n : Nat) (hL4 : L ≤ 140737488353273) (hnc : L ≤ c) (e0 : w.cell? ⟨q, off, none⟩ = some (.int .u8 (n : Nat))) (hn0 : n ≠ 0) (hn : n < 128) (hlt : 1 + n ≤ L) :
    Calls Tryz.prog 171 #[.slice (some ⟨q, off, none⟩) L c] w fun e w' => e = .returned (.tuple #[.agg #[.slice (some ⟨q, off + 1, none⟩) n (c - 1), .int .i64 0, .int .i64 (n : Nat)], .int .i64 ((1 + n : Nat) : Int)]) ∧ Below w.heap.size w w' := by
  have hql : q < w.heap.size := cell_lt e0
  have f0 : (w.alloc (.cells #[.slice none 0 0, .int .i64 0, .int .i64 0] 195)).cell? ⟨q, off, none⟩ = some (.int .u8 (n : Nat)) := (World.cell?_of_block (Below.heap_alloc w _ q hql)).trans e0
  have hi0 : (0 : Int) < (L : Int) := by omega
  have hg : ¬ (n : Int) ≥ 128 := by omega
  have hb0 : ((n : Int) == 0) = false := by rw [beq_eq_false_iff_ne]; omega
  have hlt' : ¬ (L : Int) < 1 + (n : Int) := by omega
  have FB := Lib.hid ((Below.refl w.heap.size w).alloc (Nat.le_refl _) (.cells #[.slice none 0 0, .int .i64 0, .int .i64 0] 195))
  clear e0
  go_enter Tryz.func171, Tryz.ntmps171
  go_wp2_with fail
  refine bodyPost_ret (v := .tuple #[.agg #[.slice (some ⟨q, off + 1, none⟩) n (c - 1), .int .i64 0, .int .i64 (n : Nat)], .int .i64 (1 + (n : Int))]) (by simp [results, Tryz.results171, go_sem]) rfl ⟨by simp, (Below.refl _ _).alloc (Nat.le_refl _) _⟩
end Ua
end Go.Proofs.YtjmddomkoholoaaGreatDoor

/- appendTo. -/
namespace Go.Proofs.YtjmddomkoholoaaGreatDoor
open Go.RowKit
namespace Ua
open Lm Lu Bs Fa Fb Ch

set_option maxRecDepth 100000 in
theorem to_own19 (w : World) (B : Nat) (s : Value) (out T : List Nat) (q off c l : Nat) (hown : w.ownsRow B 5 1 s out.length (u8s out)) (hT : ∀ i, i < T.length → w.cell? ⟨q, off + i, none⟩ = some (.int .u8 (g T i : Nat))) (h0 : 0 < T.length) (hB : B ≤ w.heap.size) (hb : out.length + T.length ≤ 140737488353272) :
    Calls Tryz.prog 172 #[.agg #[.slice (some ⟨q, off, none⟩) T.length c, .int .i64 0, .int .i64 (l : Nat)], s] w fun e w' => ∃ r, e = .returned r ∧ w'.ownsRow B 5 1 r (out ++ T).length (u8s (out ++ T)) ∧ Gr w w' s r := by
  obtain ⟨i0, hi, hz0, hz1, hz2⟩ := info_parts info5
  have hql : q < w.heap.size := by have := hT 0 h0; exact cell_lt this
  have HC : Hid (∀ j u, (u8s T)[j]? = some u → (w.alloc (.cells #[.slice (some ⟨q, off, none⟩) T.length c, .int .i64 0, .int .i64 (l : Nat)] 195)).cell? ((⟨q, off, none⟩ : Addr).add j) = some u) := Lib.hid fun j u h => by
    obtain ⟨h1, rfl⟩ := u8s_g _ _ _ h
    rw [add_eq, World.cell?_of_block (Below.heap_alloc w _ q hql)]
    exact hT j h1
  have HL := u8s_len T
  obtain ⟨K, hK⟩ : ∃ K, K = out.length := ⟨_, rfl⟩
  obtain ⟨P, hP⟩ : ∃ P, P = u8s out := ⟨_, rfl⟩
  obtain ⟨n, hn⟩ : ∃ n, n = T.length := ⟨_, rfl⟩
  have HPT : Hid (u8s (out ++ T) = P ++ u8s T ∧ (out ++ T).length = K + n) := Lib.hid ⟨by rw [u8s_app, hP], by rw [List.length_append, hK, hn]⟩
  rw [← hK, ← hP] at hown
  rw [← hK, ← hn] at hb
  rw [← hn] at HC HL ⊢
  clear hK hP hn hT h0
  go_enter Tryz.func172, Tryz.ntmps172
  go_wp2_with (at_builtin; refine wpList_append_own_at _ rfl (.tmp 8) (.tmp 10) 22 rfl B 5 i0 (.int .u8 0) 1 1 Tryz.underlying22 hi hz0 hz1 hz2 rfl (by decide) _ K _ rfl (hown.alloc _) ⟨q, off, none⟩ n c (u8s T) rfl (by omega) ?c1 ?c2 ?c3 ?c4 ?c5 ?_)
  case c1 => exact HC.out
  case c2 => exact u8s_one _
  case c3 => unfold maxLen; omega
  case c4 => omega
  case c5 => simp; omega
  intro v2 w2 hown2 hgrow2 _ hat2
  have G2 := Lib.hid (gr_alloc _ (gr_at hgrow2 (by simpa using hat2)))
  have O2 := Lib.hid hown2
  clear hgrow2 hat2 hown hown2
  go_wp2_with fail
  go_ret
  exact ⟨_, rfl, by rw [HPT.out.1, HPT.out.2]; exact O2.out, G2.out⟩

set_option maxRecDepth 100000 in
set_option maxHeartbeats 1000000 in
theorem to_copy19 (w : World) (B : Nat) (s : Value) (out : List Nat) (d m : Nat) (hown : w.ownsRow B 5 1 s out.length (u8s out)) (hd1 : 1 ≤ d) (hd : d ≤ out.length) (hB : B ≤ w.heap.size) (hb : out.length + m ≤ 140737488353272) :
    Calls Tryz.prog 172 #[.agg #[.slice none 0 0, .int .i64 (d : Nat), .int .i64 (m : Nat)], s] w fun e w' => ∃ r, e = .returned r ∧ w'.ownsRow B 5 1 r (copyN out d m).length (u8s (copyN out d m)) ∧ Gr w w' s r := by
  obtain ⟨i0, hi, hz0, hz1, hz2⟩ := info_parts info5
  have hdb : ((d : Int) == 0) = false := by rw [beq_eq_false_iff_ne]; omega
  obtain ⟨w1, hw1⟩ : ∃ w1, w1 = w.alloc (.cells #[.slice none 0 0, .int .i64 (d : Nat), .int .i64 (m : Nat)] 195) := ⟨_, rfl⟩
  have HO1 : Hid (w1.ownsRow B 5 1 s out.length (u8s out)) := Lib.hid (by rw [hw1]; exact hown.alloc _)
  have HCD : Hid (w1.cell? ⟨w.heap.size, 1, none⟩ = some (.int .i64 (d : Nat))) := Lib.hid (by rw [hw1]; exact Np.new_cell w _ _ 1 _ rfl)
  have HSZ : Hid (w1.heap.size = w.heap.size + 1) := Lib.hid (by rw [hw1]; simp)
  have HNE : Hid (s.ownBlock ≠ some w.heap.size) := Lib.hid fun e => by have := (hown.lt _ e).2; omega
  have HGA : Hid (∀ w' s', Gr w1 w' s s' → Gr w w' s s') := Lib.hid fun w' s' h => by rw [hw1] at h; exact gr_alloc _ h
  have HLEN : Hid (∀ k, (copyN out d k).length = out.length + k) := Lib.hid fun k => copyN_len d k out
  have HSN : Hid (∀ k, copyN out d (k + 1) = copyN out d k ++ [g (copyN out d k) ((copyN out d k).length - d)]) := Lib.hid fun k => copyN_snoc d k out
  obtain ⟨n0, hn0⟩ : ∃ n0, n0 = out.length := ⟨_, rfl⟩
  rw [← hn0] at hd hb HLEN
  have HN0 := Lib.hid hn0
  clear hown hn0
  go_enter Tryz.func172, Tryz.ntmps172
  go_wp2_with fail
  rw [← hw1]
  clear hw1
  go_loopw [1, 14] (fun s' i wr => ∃ k, k ≤ m ∧ i = .int .i64 (k : Nat) ∧ wr.ownsRow B 5 1 s' (copyN out d k).length (u8s (copyN out d k)) ∧ Gr w1 wr s s') (fun _ i _ => m - (intOf i).toNat)
  case atStart => exact ⟨0, Nat.zero_le _, rfl, HO1.out, Gr.refl _ _⟩
  case round =>
    obtain ⟨k, hk, rfl, ho, hg⟩ := hrel
    by_cases hkm : k < m
    · have hbc := hg.block (k := w.heap.size) (by have := HSZ.out; omega) HNE.out
      have ec := (World.cell?_of_block hbc).trans HCD.out
      have hlen := HLEN.out k
      have hsn := Lib.hid (HSN.out k)
      obtain ⟨G, cc, rfl⟩ := Go.Joins.ownsRow_form ho (by omega)
      have hgs := hg.size
      have e1 := (ho.cellAt (n0 + k - d) (by omega)).trans (u8s_get _ _ (by omega))
      obtain ⟨X, hX⟩ : ∃ X, X = (copyN out d k).getD (n0 + k - d) 0 := ⟨_, rfl⟩
      rw [← hX] at e1
      obtain ⟨L, hL⟩ : ∃ L, L = (copyN out d k).length := ⟨_, rfl⟩
      obtain ⟨P, hP⟩ : ∃ P, P = u8s (copyN out d k) := ⟨_, rfl⟩
      have HNX : Hid (u8s (copyN out d (k + 1)) = P ++ [.int .u8 (X : Nat)] ∧ (copyN out d (k + 1)).length = L + 1) := Lib.hid (by
        rw [hsn.out, u8s_snoc, hP, hX, hlen]
        exact ⟨rfl, by rw [List.length_append, hL]; rfl⟩)
      have hown := ho
      rw [← hL, ← hP] at hown
      rw [← hL] at hlen hg ⊢
      have hi1 : (L : Int) - (d : Int) = ((n0 + k - d : Nat) : Int) := by omega
      obtain ⟨I, hI⟩ : ∃ I, I = n0 + k - d := ⟨_, rfl⟩
      rw [← hI] at hi1 e1
      have hIL : I < L := by omega
      have HG := Lib.hid hg
      have hB1 : B ≤ wr.heap.size := by have := HSZ.out; omega
      have hLb : L + 1 ≤ 140737488353272 := by omega
      clear ho hg hbc hX hL hP hI hlen hgs
      go_wp2_with (at_builtin; refine wpList_append_own_at _ rfl (.tmp 16) (.tmp 25) 22 rfl B 5 i0 (.int .u8 0) 1 1 Tryz.underlying22 hi hz0 hz1 hz2 rfl (by decide) _ L _ rfl (hown.alloc _) ⟨wr.heap.size, 0, none⟩ 1 1 [.int .u8 (X : Nat)] rfl rfl ?c1 ?c2 ?c3 ?c4 ?c5 ?_)
      case c1 => exact cell_one_new _ _ _
      case c2 => intro u hu; simp at hu; subst hu; rfl
      case c3 => unfold maxLen; omega
      case c4 => omega
      case c5 => simp; omega
      intro v2 w2 hown2 hgrow2 _ hat2
      have G2 := Lib.hid (HG.out.trans (gr_alloc _ (gr_at hgrow2 (by simpa using hat2))))
      have O2 := Lib.hid hown2
      clear hgrow2 hat2 hown hown2 ec e1
      go_wp2_with fail
      go_roundw
      case rel => exact ⟨k + 1, by omega, by go_num, by rw [HNX.out.1, HNX.out.2]; exact O2.out, G2.out⟩
      case measure => simp [intOf]; omega
    · obtain rfl : k = m := by omega
      have HO := Lib.hid ho
      have HG := Lib.hid hg
      clear ho hg
      go_wp2_with fail
      go_ret
      exact ⟨_, rfl, HO.out, HGA.out _ _ HG.out⟩
end Ua
end Go.Proofs.YtjmddomkoholoaaGreatDoor

/- The program's Unpack. -/
namespace Go.Proofs.YtjmddomkoholoaaGreatDoor
open Go.RowKit
namespace Ua
open Lm Lu Bs Fa Fb Ch

theorem unp_A {most : Int} {out : List Nat} {n : Nat} {r : List Nat} (h : NoPiece n r) : unp most out (n :: r) = .error 2 := by
  rw [unp_cons]
  rcases h with h | ⟨h1, h2⟩ | ⟨h1, h2⟩
  · rw [if_pos h]
  · by_cases h0 : n = 0
    · rw [if_pos h0]
    · rw [if_neg h0, if_pos h1, if_pos h2]
  · rw [if_neg (by omega), if_neg (by omega)]
    by_cases h3 : r.length < 2
    · rw [if_pos h3]
    · rw [if_neg h3, if_pos (.inl (by omega))]
theorem unp_B {most : Int} {out : List Nat} {n : Nat} {r : List Nat} (h1 : 128 ≤ n) (h2 : 2 ≤ r.length) (h3 : out.length < g r 0 * 256 + g r 1) : unp most out (n :: r) = .error 2 := by
  rw [unp_cons, if_neg (by omega), if_neg (by omega), if_neg (by omega), if_pos (.inr h3)]
theorem unp_C {most : Int} {out : List Nat} {n : Nat} {r : List Nat} (h1 : 128 ≤ n) (h2 : 2 ≤ r.length) (h3 : ¬ g r 0 * 256 + g r 1 = 0) (h4 : ¬ out.length < g r 0 * 256 + g r 1) (h5 : most < (out.length : Int) + ((n - 124 : Nat) : Int)) : unp most out (n :: r) = .error 4 := by
  rw [unp_cons, if_neg (by omega), if_neg (by omega), if_neg (by omega), if_neg (by omega), if_pos h5]
theorem unp_D {most : Int} {out : List Nat} {n : Nat} {r : List Nat} (h1 : 128 ≤ n) (h2 : 2 ≤ r.length) (h3 : ¬ g r 0 * 256 + g r 1 = 0) (h4 : ¬ out.length < g r 0 * 256 + g r 1) (h5 : ¬ most < (out.length : Int) + ((n - 124 : Nat) : Int)) : unp most out (n :: r) = unp most (copyN out (g r 0 * 256 + g r 1) (n - 124)) (r.drop 2) := by
  rw [unp_cons, if_neg (by omega), if_neg (by omega), if_neg (by omega), if_neg (by omega), if_neg h5]
theorem unp_E {most : Int} {out : List Nat} {n : Nat} {r : List Nat} (h0 : n ≠ 0) (h1 : n < 128) (h2 : n ≤ r.length) (h5 : most < (out.length : Int) + n) : unp most out (n :: r) = .error 4 := by
  rw [unp_cons, if_neg h0, if_pos h1, if_neg (by omega), if_pos h5]
theorem unp_F {most : Int} {out : List Nat} {n : Nat} {r : List Nat} (h0 : n ≠ 0) (h1 : n < 128) (h2 : n ≤ r.length) (h5 : ¬ most < (out.length : Int) + n) : unp most out (n :: r) = unp most (out ++ r.take n) (r.drop n) := by
  rw [unp_cons, if_neg h0, if_pos h1, if_neg (by omega), if_neg h5]

/-- What Unpack answers. -/
def Un (w : World) (u : Except Nat (List Nat)) (e : Ending) (w' : World) : Prop :=
  (∃ l r, u = .ok l ∧ e = .returned (.tuple #[r, .int .i64 0]) ∧ w'.ownsRow w.heap.size 5 1 r l.length (u8s l) ∧ Below w.heap.size w w') ∨ (∃ k : Nat, u = .error k ∧ e = .returned (.tuple #[.slice none 0 0, .int .i64 (k : Nat)]) ∧ Below w.heap.size w w')

/-- What holds ahead of each round of Unpack. -/
def UR (w wr : World) (most : Int) (l : List Nat) (b' s : Value) (out l' : List Nat) : Prop :=
  Src wr (fun k => k < w.heap.size) b' l' ∧ wr.ownsRow w.heap.size 5 1 s out.length (u8s out) ∧ Below w.heap.size w wr ∧ unp most out l' = unp most [] l ∧ (∀ x ∈ l', x < 256) ∧ (out.length + 44 * l'.length ≤ 44 * l.length) ∧ out.length ≤ 70368744177664 ∧ l'.length ≤ l.length

theorem ur_next {w wr w2 : World} {most : Int} {l : List Nat} {b' b'' s s' : Value} {out out' l' l'' : List Nat} (h : UR w wr most l b' s out l') (hb : Below w.heap.size wr w2) (ho : w2.ownsRow w.heap.size 5 1 s' out'.length (u8s out')) (hS : Src w2 (fun k => k < w.heap.size) b'' l'') (hu : unp most out l' = unp most out' l'') (hX : ∀ x ∈ l'', x ∈ l') (hl : out'.length + 44 * l''.length ≤ out.length + 44 * l'.length)
    (hm : (out'.length : Int) ≤ most) (hbd : min most.toNat (44 * l.length) ≤ 70368744177664) (_hll : l''.length ≤ l'.length) : UR w w2 most l b'' s' out' l'' := by
  obtain ⟨h1, h2, h3, h4, h5, h6, h7, h8⟩ := h
  exact ⟨hS, ho, h3.trans hb, by rw [← hu]; exact h4, fun x hx => h5 x (hX x hx), by omega, by omega, by omega⟩

/-- The cells of what is left, in another world. -/
theorem src_from {x : World} {R : Nat → Prop} {q off L c k : Nat} {l' : List Nat} (hL : L = l'.length) (hnc : L ≤ c) (_hk : k ≤ L) (hq : R q) (hc : ∀ i, i < L → x.cell? ⟨q, off + i, none⟩ = some (.int .u8 (g l' i : Nat))) : (k < L → Src x R (.slice (some ⟨q, off + k, none⟩) (L - k) (c - k)) (l'.drop k)) ∧ (k = L → ∀ a z, Src x R (.slice a 0 z) (l'.drop k)) :=
  ⟨fun h => src_drop hL h hnc hq hc, fun h a z => src_done (by omega) a z⟩

set_option maxRecDepth 100000 in
set_option maxHeartbeats 4000000 in
theorem unpack9 (w : World) (R : Nat → Prop) (v : Value) (l : List Nat) (most : Int) (hS : Src w R v l) (hX : ∀ x ∈ l, x < 256) (hl : l.length ≤ 140737488353272) (hbd : min most.toNat (44 * l.length) ≤ 70368744177664) (m1 : -9223372036854775808 ≤ most) (m2 : most ≤ 9223372036854775807) :
    Calls Tryz.prog 152 #[v, .int .i64 most] w fun e w' => Un w (unp most [] l) e w' := by
  have R0 : Hid (UR w w most l v (.slice none 0 0) [] l) := Lib.hid ⟨Pa.src_lt hS, World.ownsRow_nil _ _ _ _, Below.refl _ _, rfl, hX, by simp, by simp, Nat.le_refl _⟩
  have HBD := Lib.hid hbd
  clear hS hX hbd
  go_enter Tryz.func152, Tryz.ntmps152
  go_wp2_with fail
  go_loopw [0, 6] (fun b' s wr => ∃ out l', UR w wr most l b' s out l') (fun b' _ _ => lenOf b')
  case atStart => exact ⟨[], l, R0.out⟩
  case round =>
    obtain ⟨out, l', hR⟩ := hrel
    have HR := Lib.hid hR
    obtain ⟨hs, ho, hb, hu, hX, hsz, hol, hll⟩ := hR
    clear R0
    cases l' with
    | nil =>
      have HU : Hid (Un w (unp most [] l) (.returned (.tuple #[u6, .int .i64 0])) wr) := Lib.hid (.inl ⟨out, u6, by rw [← hu, unp_nil], rfl, ho, hb⟩)
      rcases hs with ⟨_, a, c, rfl⟩ | ⟨h0, _⟩
      · clear hu hX hsz hol hll ho hb
        go_wp2_with fail
        go_ret2
        exact HU.out
      · simp at h0
    | cons n r =>
      by_cases hNP : NoPiece n r
      · have F18 := Lib.hid (read_none wr _ _ n r hs hX (by simp at hll; omega) hNP)
        have HU : Hid (∀ w', Below wr.heap.size wr w' → ∀ a b c d, Un w (unp most [] l) (.returned (.tuple #[.slice none 0 0, .int .i64 2])) (w'.alloc (.cells #[a, b, c] d))) := Lib.hid fun w' h a b c d => .inr ⟨2, by rw [← hu, unp_A hNP], rfl, (hb.trans (h.mono hb.size)).alloc (Nat.le_trans hb.size h.size) _⟩
        obtain ⟨a, c, rfl⟩ := hs.forms
        obtain ⟨L, hL⟩ : ∃ L, L = (n :: r).length := ⟨_, rfl⟩
        have hL0 : 0 < L := by rw [hL]; simp
        have hL4 : L ≤ 140737488353272 := by omega
        rw [← hL] at F18 ⊢
        clear hs ho hb hu hX hsz hol hll hNP hL
        go_wp2_with fail
        refine F18.out.mono ?_
        rintro e w2 ⟨he, b2⟩
        obtain rfl : e = .returned (.tuple #[.agg #[.slice none 0 0, .int .i64 0, .int .i64 0], .int .i64 0]) := he
        have HB2 := Lib.hid b2
        clear b2
        go_wp2_with fail
        go_ret2
        exact HU.out _ HB2.out _ _ _ _
      · rcases hs with ⟨h, _⟩ | ⟨h0, q, off, c, rfl, hnc, hq, hcell⟩
        · cases h
        obtain ⟨a6, c6, rfl⟩ := slice_any ho
        have hcx : Hid (∀ x, Below w.heap.size wr x → ∀ i, i < (n :: r).length → x.cell? ⟨q, off + i, none⟩ = some (.int .u8 (g (n :: r) i : Nat))) := Lib.hid fun x hx i hi => (hx.cell hq).trans (hcell i hi)
        have hrl : (n :: r).length = r.length + 1 := by simp
        by_cases h128 : 128 ≤ n
        · have hr2 : 2 ≤ r.length := by unfold NoPiece at hNP; omega
          have hd0 : ¬ g r 0 * 256 + g r 1 = 0 := by unfold NoPiece at hNP; omega
          have F18 := Lib.hid (by_copy wr (fun k => k < w.heap.size) _ n r (g r 0 * 256 + g r 1) (n - 124) 3 (.inr ⟨h0, q, off, c, rfl, hnc, hq, hcell⟩) hX h128 (by simp at hll; omega) (fun x hSx => copy_is x _ _ n r hSx hX h128 hr2 (by simp at hll; omega) hd0))
          have hn256 : n < 256 := hX n (by simp)
          have UB := Lib.hid (@unp_B most out n r h128 hr2)
          have UC := Lib.hid (@unp_C most out n r h128 hr2 hd0)
          have UD := Lib.hid (@unp_D most out n r h128 hr2 hd0)
          obtain ⟨D, hD⟩ : ∃ D, D = g r 0 * 256 + g r 1 := ⟨_, rfl⟩
          obtain ⟨M, hM⟩ : ∃ M, M = n - 124 := ⟨_, rfl⟩
          rw [← hD] at F18 UB UC UD hd0
          rw [← hM] at F18 UC UD
          have hM1 : M ≤ 131 := by omega
          have hM0 : 4 ≤ M := by omega
          obtain ⟨L, hL⟩ : ∃ L, L = (n :: r).length := ⟨_, rfl⟩
          have hLr : L = r.length + 1 := by rw [hL]; simp
          obtain ⟨K, hK⟩ : ∃ K, K = out.length := ⟨_, rfl⟩
          have HER : Hid (∀ k : Nat, unp most out (n :: r) = .error k → ∀ w', Below wr.heap.size wr w' → ∀ a b c d, Un w (unp most [] l) (.returned (.tuple #[.slice none 0 0, .int .i64 (k : Nat)])) (w'.alloc (.cells #[a, b, c] d))) := Lib.hid fun k hk w' h a b c d => .inr ⟨k, by rw [← hu, hk], rfl, (hb.trans (h.mono hb.size)).alloc (Nat.le_trans hb.size h.size) _⟩
          have HLK : Hid (L = (n :: r).length ∧ K = out.length) := Lib.hid ⟨hL, hK⟩
          rw [← hL] at F18 hnc ⊢
          rw [← hK] at UB UC UD hol ⊢
          have hL3 : 3 ≤ L := by omega
          have hL4 : L ≤ 140737488353272 := by omega
          have HQ := Lib.hid hq
          clear hNP hcell hq h0 hu hX hsz hll hb ho hD hM hL hK hLr hrl hr2 h128 hn256
          by_cases hB : K < D
          · have HE := Lib.hid (HER.out 2 (UB.out hB))
            go_wp2_with fail
            refine F18.out.mono ?_
            rintro e w2 ⟨rfl, b2⟩
            have HB2 := Lib.hid b2
            clear b2
            go_wp2_with fail
            go_ret2
            exact HE.out _ HB2.out _ _ _ _
          · by_cases hC : most < (K : Int) + (M : Int)
            · have HE := Lib.hid (HER.out 4 (UC.out hB hC))
              go_wp2_with fail
              refine F18.out.mono ?_
              rintro e w2 ⟨rfl, b2⟩
              have HB2 := Lib.hid b2
              clear b2
              go_wp2_with fail
              go_ret2
              exact HE.out _ HB2.out _ _ _ _
            · have HE := Lib.hid (UD.out hB hC)
              have hD1 : 1 ≤ D := by omega
              go_wp2_with fail
              refine F18.out.mono ?_
              rintro e w2 ⟨rfl, b2⟩
              have O2 : Hid ((w2.alloc (.cells #[.slice none 0 0, .int .i64 (D : Nat), .int .i64 (M : Nat)] 195)).ownsRow w.heap.size 5 1 (.slice a6 K c6) out.length (u8s out)) := Lib.hid (by have h := (own_below HR.out.2.1 b2).alloc (.cells #[.slice none 0 0, .int .i64 (D : Nat), .int .i64 (M : Nat)] 195); rw [← HLK.out.2] at h; rw [← HLK.out.2]; exact h)
              have B2 : Hid (Below w.heap.size wr (w2.alloc (.cells #[.slice none 0 0, .int .i64 (D : Nat), .int .i64 (M : Nat)] 195))) := Lib.hid ((b2.mono HR.out.2.2.1.size).alloc (Nat.le_trans HR.out.2.2.1.size b2.size) _)
              clear b2
              have F19 := Lib.hid (to_copy19 _ w.heap.size (.slice a6 K c6) out D M O2.out hD1 (by rw [← HLK.out.2]; omega) (Nat.le_trans HR.out.2.2.1.size B2.out.size) (by rw [← HLK.out.2]; omega))
              go_wp2_with fail
              refine F19.out.mono ?_
              rintro e w4 ⟨r4, rfl, o4, g4⟩
              have hb4 : Below w.heap.size wr w4 := B2.out.trans (g4.below (Nat.le_trans HR.out.2.2.1.size B2.out.size) fun k e => (O2.out.lt k e).1)
              have hsf := src_from (x := w4) (R := fun k => k < w.heap.size) (q := q) (off := off) (c := c) (k := 3) HLK.out.1 hnc hL3 HQ.out (fun i hi => hcx.out w4 hb4 i (by have := HLK.out.1; omega))
              have hnx : ∀ b'', Src w4 (fun k => k < w.heap.size) b'' (r.drop 2) → UR w w4 most l b'' r4 (copyN out D M) (r.drop 2) := fun b'' hS'' => by
                have h1 := HLK.out.1
                have h2 := HLK.out.2
                simp at h1
                refine ur_next HR.out hb4 o4 hS'' HE.out (fun x hx => List.mem_cons_of_mem _ (List.mem_of_mem_drop hx)) ?_ (by rw [copyN_len]; omega) HBD.out (by rw [List.length_drop]; simp; omega)
                rw [copyN_len, List.length_drop, List.length_cons]
                omega
              by_cases hc3 : c = 3
              · have RN : Hid (∀ a z, UR w w4 most l (.slice a 0 z) r4 (copyN out D M) (r.drop 2)) := Lib.hid fun a z => hnx _ (hsf.2 (by omega) a z)
                have hL3' : L = 3 := by omega
                clear hsf hnx hb4 o4 g4
                subst hc3
                subst hL3'
                go_wp2_with fail
                go_roundw
                case rel => exact ⟨_, _, RN.out _ _⟩
                case measure => simp [lenOf] <;> omega
              · have RN : Hid (UR w w4 most l (.slice (some ⟨q, off + 3, none⟩) (L - 3) (c - 3)) r4 (copyN out D M) (r.drop 2)) := Lib.hid (by
                  by_cases h3 : 3 < L
                  · exact hnx _ (hsf.1 h3)
                  · rw [show L - 3 = 0 from by omega]
                    exact hnx _ (hsf.2 (by omega) _ _))
                clear hsf hnx hb4 o4 g4
                go_wp2_with fail
                go_roundw
                case rel => exact ⟨_, _, RN.out⟩
                case measure => simp [lenOf] <;> omega
        · have hn0 : n ≠ 0 := by unfold NoPiece at hNP; omega
          have hnr : n ≤ r.length := by unfold NoPiece at hNP; omega
          have hn128 : n < 128 := by omega
          have F18 := Lib.hid (read_own wr q off (n :: r).length c n (by simp at hll; omega) hnc (hcell 0 (by simp)) hn0 hn128 (by simp; omega))
          have UE := Lib.hid (@unp_E most out n r hn0 hn128 hnr)
          have UF := Lib.hid (@unp_F most out n r hn0 hn128 hnr)
          obtain ⟨S, hS⟩ : ∃ S, S = 1 + n := ⟨_, rfl⟩
          obtain ⟨L, hL⟩ : ∃ L, L = (n :: r).length := ⟨_, rfl⟩
          have hLr : L = r.length + 1 := by rw [hL]; simp
          obtain ⟨K, hK⟩ : ∃ K, K = out.length := ⟨_, rfl⟩
          have HER : Hid (∀ k : Nat, unp most out (n :: r) = .error k → ∀ w', Below wr.heap.size wr w' → ∀ a b c d, Un w (unp most [] l) (.returned (.tuple #[.slice none 0 0, .int .i64 (k : Nat)])) (w'.alloc (.cells #[a, b, c] d))) := Lib.hid fun k hk w' h a b c d => .inr ⟨k, by rw [← hu, hk], rfl, (hb.trans (h.mono hb.size)).alloc (Nat.le_trans hb.size h.size) _⟩
          have HLK : Hid (L = (n :: r).length ∧ K = out.length ∧ S = 1 + n ∧ n ≤ r.length) := Lib.hid ⟨hL, hK, hS, hnr⟩
          rw [← hL, ← hS] at F18
          rw [← hL] at hnc ⊢
          rw [← hK] at UE UF hol ⊢
          have hSL : S ≤ L := by omega
          have hS0 : 1 ≤ S := by omega
          have hL4 : L ≤ 140737488353272 := by omega
          have HQ := Lib.hid hq
          have hz0 : ((S : Int) == 0) = false := by rw [beq_eq_false_iff_ne]; omega
          have hS128 : S ≤ 128 := by omega
          clear hNP hcell hq h0 hu hX hsz hll hb ho hS hL hK hLr hrl hnr h128
          by_cases hC : most < (K : Int) + (n : Int)
          · have HE := Lib.hid (HER.out 4 (UE.out hC))
            go_wp2_with fail
            refine F18.out.mono ?_
            rintro e w2 ⟨rfl, b2⟩
            have HB2 := Lib.hid b2
            clear b2
            go_wp2_with fail
            go_ret2
            exact HE.out _ HB2.out _ _ _ _
          · have HE := Lib.hid (UF.out hC)
            go_wp2_with fail
            refine F18.out.mono ?_
            rintro e w2 ⟨rfl, b2⟩
            have O2 : Hid ((w2.alloc (.cells #[.slice (some ⟨q, off + 1, none⟩) n (c - 1), .int .i64 0, .int .i64 (n : Nat)] 195)).ownsRow w.heap.size 5 1 (.slice a6 K c6) out.length (u8s out)) := Lib.hid (by have h := (own_below HR.out.2.1 b2).alloc (.cells #[.slice (some ⟨q, off + 1, none⟩) n (c - 1), .int .i64 0, .int .i64 (n : Nat)] 195); rw [← HLK.out.2.1] at h; rw [← HLK.out.2.1]; exact h)
            have B2 : Hid (Below w.heap.size wr (w2.alloc (.cells #[.slice (some ⟨q, off + 1, none⟩) n (c - 1), .int .i64 0, .int .i64 (n : Nat)] 195))) := Lib.hid ((b2.mono HR.out.2.2.1.size).alloc (Nat.le_trans HR.out.2.2.1.size b2.size) _)
            clear b2
            have hTl : (r.take n).length = n := by rw [List.length_take]; have := HLK.out.2.2.2; omega
            have F19 := Lib.hid (to_own19 _ w.heap.size (.slice a6 K c6) out (r.take n) q (off + 1) (c - 1) n O2.out (fun i hi => by
              rw [hTl] at hi
              have h := hcx.out _ B2.out (i + 1) (by have h1 := HLK.out.1; have h2 := HLK.out.2.2.2; simp; omega)
              rw [show off + 1 + i = off + (i + 1) from by omega, h, g_take hi]
              rfl) (by omega) (Nat.le_trans HR.out.2.2.1.size B2.out.size) (by rw [← HLK.out.2.1]; omega))
            rw [hTl] at F19
            have HTL := Lib.hid hTl
            clear hTl
            go_wp2_with fail
            refine F19.out.mono ?_
            rintro e w4 ⟨r4, rfl, o4, g4⟩
            have hb4 : Below w.heap.size wr w4 := B2.out.trans (g4.below (Nat.le_trans HR.out.2.2.1.size B2.out.size) fun k e => (O2.out.lt k e).1)
            have hdr : (n :: r).drop S = r.drop n := by rw [HLK.out.2.2.1, Nat.add_comm]; rfl
            have hsf := src_from (x := w4) (R := fun k => k < w.heap.size) (q := q) (off := off) (c := c) (k := S) HLK.out.1 hnc hSL HQ.out (fun i hi => hcx.out w4 hb4 i (by have := HLK.out.1; omega))
            rw [hdr] at hsf
            have hnx : ∀ b'', Src w4 (fun k => k < w.heap.size) b'' (r.drop n) → UR w w4 most l b'' r4 (out ++ r.take n) (r.drop n) := fun b'' hS'' => by
              have h1 := HLK.out.1
              have h2 := HLK.out.2.1
              have h3 := HLK.out.2.2.2
              simp at h1
              refine ur_next HR.out hb4 o4 hS'' HE.out (fun x hx => List.mem_cons_of_mem _ (List.mem_of_mem_drop hx)) ?_ (by rw [List.length_append, HTL.out]; omega) HBD.out (by rw [List.length_drop]; simp; omega)
              rw [List.length_append, HTL.out, List.length_drop, List.length_cons]
              omega
            by_cases hcS : c = S
            · have RN : Hid (∀ a z, UR w w4 most l (.slice a 0 z) r4 (out ++ r.take n) (r.drop n)) := Lib.hid fun a z => hnx _ (hsf.2 (by omega) a z)
              have hLS : L = S := by omega
              clear hsf hnx hb4 o4 g4 hdr
              subst hcS
              subst hLS
              go_wp2_with fail
              go_roundw
              case rel => exact ⟨_, _, RN.out _ _⟩
              case measure => simp [lenOf] <;> omega
            · have RN : Hid (UR w w4 most l (.slice (some ⟨q, off + S, none⟩) (L - S) (c - S)) r4 (out ++ r.take n) (r.drop n)) := Lib.hid (by
                by_cases h3 : S < L
                · exact hnx _ (hsf.1 h3)
                · rw [show L - S = 0 from by omega]
                  exact hnx _ (hsf.2 (by omega) _ _))
              clear hsf hnx hb4 o4 g4 hdr
              go_wp2_with fail
              go_roundw
              case rel => exact ⟨_, _, RN.out⟩
              case measure => simp [lenOf] <;> omega
end Ua
end Go.Proofs.YtjmddomkoholoaaGreatDoor
