/- readPiece. -/
import Derived.Test.YtbmdjmckgcjfcaaUa
namespace Go.Proofs.Ytbmdjmckgcjfcaa
open Go.RowKit
namespace Ua
open Lm Lu Bs Fa Fb Ch

def Put3 (x : World) (B : Nat) (a b c : Value) : World := ((x.setCell ⟨B, 0, none⟩ a).setCell ⟨B, 1, none⟩ b).setCell ⟨B, 2, none⟩ c
theorem put3 {w x : World} (hx : Below (w.heap.size + 1) (w.alloc (.cells #[.slice none 0 0, .int .i64 0, .int .i64 0] 45)) x) (a b c : Value) :
    (Put3 x w.heap.size a b c).cell? ⟨w.heap.size, 0, none⟩ = some a ∧ (Put3 x w.heap.size a b c).cell? ⟨w.heap.size, 1, none⟩ = some b ∧ (Put3 x w.heap.size a b c).cell? ⟨w.heap.size, 2, none⟩ = some c ∧ Below w.heap.size w (Put3 x w.heap.size a b c) := by
  have h := fun i v hv => (hx.cell (p := ⟨w.heap.size, i, none⟩) (by simp)).trans (Np.new_cell w #[.slice none 0 0, .int .i64 0, .int .i64 0] 45 i v hv)
  have h0 := h 0 (.slice none 0 0) rfl
  have h1 := h 1 (.int .i64 0) rfl
  have h2 := h 2 (.int .i64 0) rfl
  have hb : Below w.heap.size w x := ((Below.refl w.heap.size w).alloc (Nat.le_refl _) _).trans (hx.mono (by omega))
  unfold Put3
  refine ⟨?_, ?_, ?_, (((hb.setCell (Nat.le_refl _) _).setCell (Nat.le_refl _) _).setCell (Nat.le_refl _) _)⟩
  · rw [cell_other (by simp), cell_other (by simp)]
    exact cell_same h0
  · rw [cell_other (by simp)]
    exact cell_same (u := .int .i64 0) (by rw [cell_other (by simp)]; exact h1)
  · exact cell_same (u := .int .i64 0) (by rw [cell_other (by simp), cell_other (by simp)]; exact h2)
theorem put3_cells {w x : World} (hx : Below (w.heap.size + 1) (w.alloc (.cells #[.slice none 0 0, .int .i64 0, .int .i64 0] 45)) x) (i : Nat) (hi : i < 3) :
    (∃ u, x.cell? ⟨w.heap.size, i, none⟩ = some u) ∧ x.frozen? ⟨w.heap.size, i, none⟩ = false := by
  refine ⟨?_, (hx.frozen (p := ⟨w.heap.size, i, none⟩) (by simp)).trans (frozen_of_row _ _ _ _ _ (heap_alloc_new _ _))⟩
  have h := fun v hv => (hx.cell (p := ⟨w.heap.size, i, none⟩) (by simp)).trans (Np.new_cell w #[.slice none 0 0, .int .i64 0, .int .i64 0] 45 i v hv)
  match i, hi with
  | 0, _ => exact ⟨_, h _ rfl⟩
  | 1, _ => exact ⟨_, h _ rfl⟩
  | 2, _ => exact ⟨_, h _ rfl⟩

/-- What is not a piece. -/
def NoPiece (n : Nat) (r : List Nat) : Prop := n = 0 ∨ (n < 128 ∧ r.length < n) ∨ (128 ≤ n ∧ (r.length < 2 ∨ g r 0 * 256 + g r 1 = 0))

set_option maxRecDepth 100000 in
theorem by_copy (w : World) (R : Nat → Prop) (v : Value) (n : Nat) (r : List Nat) (d l s : Nat) (hS : Src w R v (n :: r)) (hX : ∀ x ∈ (n :: r), x < 256) (h128 : 128 ≤ n) (hl : r.length ≤ 140737488353272)
    (hF : ∀ x, Src x R v (n :: r) → Calls Try.prog 22 #[v] x fun e w' => e = .returned (.tuple #[.agg #[.slice none 0 0, .int .i64 (d : Nat), .int .i64 (l : Nat)], .int .i64 (s : Nat)]) ∧ Below x.heap.size x w') :
    Calls Try.prog 18 #[v] w fun e w' => e = .returned (.tuple #[.agg #[.slice none 0 0, .int .i64 (d : Nat), .int .i64 (l : Nat)], .int .i64 (s : Nat)]) ∧ Below w.heap.size w w' := by
  have FB := Lib.hid ((Below.refl w.heap.size w).alloc (Nat.le_refl _) (.cells #[.slice none 0 0, .int .i64 0, .int .i64 0] 45))
  have F22 := Lib.hid (hF _ (hS.move (w' := w.alloc (.cells #[.slice none 0 0, .int .i64 0, .int .i64 0] 45)) fun b hb hlt => Below.heap_alloc w _ b hlt))
  rcases hS with ⟨h, _⟩ | ⟨h0, q, off, c, rfl, hnc, hq, hcell⟩
  · cases h
  · have e0 : w.cell? ⟨q, off, none⟩ = some (.int .u8 (n : Nat)) := hcell 0 (by simp)
    have hql : q < w.heap.size := cell_lt e0
    have f0 : (w.alloc (.cells #[.slice none 0 0, .int .i64 0, .int .i64 0] 45)).cell? ⟨q, off, none⟩ = some (.int .u8 (n : Nat)) := (World.cell?_of_block (Below.heap_alloc w _ q hql)).trans e0
    have hn : n < 256 := hX n (by simp)
    obtain ⟨L, hL⟩ : ∃ L, L = (n :: r).length := ⟨_, rfl⟩
    have hL4 : L ≤ 140737488353273 := by rw [hL]; simp; omega
    have hi0 : (0 : Int) < (L : Int) := by omega
    have hg : (n : Int) ≥ 128 := by omega
    rw [← hL] at hnc F22 ⊢
    clear hcell hX hL h0 hl hF e0 hq
    go_enter Try.func18, Try.ntmps18
    go_wp2_with fail
    refine F22.out.mono ?_
    rintro e w2 ⟨rfl, bl⟩
    have hx : Below (w.heap.size + 1) (w.alloc (.cells #[.slice none 0 0, .int .i64 0, .int .i64 0] 45)) w2 := by simpa using bl
    obtain ⟨⟨u0, k0⟩, z0⟩ := put3_cells hx 0 (by decide)
    obtain ⟨⟨u1, k1⟩, z1⟩ := put3_cells hx 1 (by decide)
    obtain ⟨⟨u2, k2⟩, z2⟩ := put3_cells hx 2 (by decide)
    have HX := Lib.hid hx
    clear hx bl
    go_wp2_with fail
    obtain ⟨c0, c1, c2, bl⟩ := put3 HX.out (.slice none 0 0) (.int .i64 (d : Nat)) (.int .i64 (l : Nat))
    change bodyPost _ _ _ _ _ (Put3 w2 w.heap.size (.slice none 0 0) (.int .i64 (d : Nat)) (.int .i64 (l : Nat)))
    refine bodyPost_ret (v := .tuple #[.agg #[.slice none 0 0, .int .i64 (d : Nat), .int .i64 (l : Nat)], .int .i64 (s : Nat)]) (by simp [results, Try.results18, go_sem, c0, c1, c2]) rfl ⟨rfl, bl⟩

set_option maxRecDepth 100000 in
theorem read_none (w : World) (R : Nat → Prop) (v : Value) (n : Nat) (r : List Nat) (hS : Src w R v (n :: r)) (hX : ∀ x ∈ (n :: r), x < 256) (hl : r.length ≤ 140737488353272) (h : NoPiece n r) :
    Calls Try.prog 18 #[v] w fun e w' => e = .returned none0 ∧ Below w.heap.size w w' := by
  by_cases h128 : 128 ≤ n
  · refine by_copy w R v n r 0 0 0 hS hX h128 hl fun x hSx => ?_
    rcases h with h | ⟨h, _⟩ | ⟨_, h | h⟩
    · omega
    · omega
    · obtain ⟨a, c, rfl⟩ := hSx.forms
      exact copy_few x a _ c (by simp; omega)
    · by_cases h2 : 2 ≤ r.length
      · exact copy_noughts x R v n r hSx hX h2 hl h
      · obtain ⟨a, c, rfl⟩ := hSx.forms
        exact copy_few x a _ c (by simp; omega)
  · rcases hS with ⟨h, _⟩ | ⟨h0, q, off, c, rfl, hnc, hq, hcell⟩
    · cases h
    · have e0 : w.cell? ⟨q, off, none⟩ = some (.int .u8 (n : Nat)) := hcell 0 (by simp)
      have hql : q < w.heap.size := cell_lt e0
      have f0 : (w.alloc (.cells #[.slice none 0 0, .int .i64 0, .int .i64 0] 45)).cell? ⟨q, off, none⟩ = some (.int .u8 (n : Nat)) := (World.cell?_of_block (Below.heap_alloc w _ q hql)).trans e0
      obtain ⟨L, hL⟩ : ∃ L, L = (n :: r).length := ⟨_, rfl⟩
      have hL4 : L ≤ 140737488353273 := by rw [hL]; simp; omega
      have hi0 : (0 : Int) < (L : Int) := by omega
      have hg : ¬ (n : Int) ≥ 128 := by omega
      have hc : n = 0 ∨ (n ≠ 0 ∧ L < 1 + n) := by
        have : L = r.length + 1 := by rw [hL]; simp
        rcases h with h | ⟨_, h⟩ | ⟨h, _⟩
        · exact .inl h
        · by_cases e : n = 0
          · exact .inl e
          · exact .inr ⟨e, by omega⟩
        · omega
      rw [← hL] at hnc ⊢
      have FB := Lib.hid ((Below.refl w.heap.size w).alloc (Nat.le_refl _) (.cells #[.slice none 0 0, .int .i64 0, .int .i64 0] 45))
      clear hcell hX hL h0 hl e0 hq h h128
      rcases hc with rfl | ⟨hn0, hlt⟩
      · go_enter Try.func18, Try.ntmps18
        go_wp2_with fail
        refine bodyPost_ret (v := none0) (by simp [results, Try.results18, go_sem, none0]) rfl ⟨rfl, FB.out⟩
      · have hb0 : ((n : Int) == 0) = false := by rw [beq_eq_false_iff_ne]; omega
        have hlt' : (L : Int) < 1 + (n : Int) := by omega
        go_enter Try.func18, Try.ntmps18
        go_wp2_with fail
        refine bodyPost_ret (v := none0) (by simp [results, Try.results18, go_sem, none0]) rfl ⟨rfl, FB.out⟩

set_option maxRecDepth 100000 in
theorem read_own (w : World) (q off L c n : Nat) (hL4 : L ≤ 140737488353273) (hnc : L ≤ c) (e0 : w.cell? ⟨q, off, none⟩ = some (.int .u8 (n : Nat))) (hn0 : n ≠ 0) (hn : n < 128) (hlt : 1 + n ≤ L) :
    Calls Try.prog 18 #[.slice (some ⟨q, off, none⟩) L c] w fun e w' => e = .returned (.tuple #[.agg #[.slice (some ⟨q, off + 1, none⟩) n (c - 1), .int .i64 0, .int .i64 (n : Nat)], .int .i64 ((1 + n : Nat) : Int)]) ∧ Below w.heap.size w w' := by
  have hql : q < w.heap.size := cell_lt e0
  have f0 : (w.alloc (.cells #[.slice none 0 0, .int .i64 0, .int .i64 0] 45)).cell? ⟨q, off, none⟩ = some (.int .u8 (n : Nat)) := (World.cell?_of_block (Below.heap_alloc w _ q hql)).trans e0
  have hi0 : (0 : Int) < (L : Int) := by omega
  have hg : ¬ (n : Int) ≥ 128 := by omega
  have hb0 : ((n : Int) == 0) = false := by rw [beq_eq_false_iff_ne]; omega
  have hlt' : ¬ (L : Int) < 1 + (n : Int) := by omega
  have FB := Lib.hid ((Below.refl w.heap.size w).alloc (Nat.le_refl _) (.cells #[.slice none 0 0, .int .i64 0, .int .i64 0] 45))
  clear e0
  go_enter Try.func18, Try.ntmps18
  go_wp2_with fail
  refine bodyPost_ret (v := .tuple #[.agg #[.slice (some ⟨q, off + 1, none⟩) n (c - 1), .int .i64 0, .int .i64 (n : Nat)], .int .i64 (1 + (n : Int))]) (by simp [results, Try.results18, go_sem]) rfl ⟨by simp, (Below.refl _ _).alloc (Nat.le_refl _) _⟩
end Ua
end Go.Proofs.Ytbmdjmckgcjfcaa
