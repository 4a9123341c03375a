/- The program's side: readCopy, readPiece. -/
import Derived.Test.YtbmdjmckgcjfcaaLu
import Derived.Test.YtbmdjmckgcjfcaaCh
import Derived.Test.YtbmdjmckgcjfcaaPa
namespace Go.Proofs.Ytbmdjmckgcjfcaa
open Go.RowKit
namespace Ua
open Lm Lu Bs Fa Fb Ch

/-- What a piece that is none is told by. -/
def none0 : Value := .tuple #[.agg #[.slice none 0 0, .int .i64 0, .int .i64 0], .int .i64 0]

/-- A struct of three fields that is stored in the block that was laid for it. -/
def Three (w : World) (nq : Nat) (a b c : Value) : World := ((((w.alloc (.cells #[.slice none 0 0, .int .i64 0, .int .i64 0] 45)).drewN nq).setCell ⟨w.heap.size, 0, none⟩ a).setCell ⟨w.heap.size, 1, none⟩ b).setCell ⟨w.heap.size, 2, none⟩ c
theorem three (w : World) (nq : Nat) (a b c : Value) : (Three w nq a b c).cell? ⟨w.heap.size, 0, none⟩ = some a ∧ (Three w nq a b c).cell? ⟨w.heap.size, 1, none⟩ = some b ∧ (Three w nq a b c).cell? ⟨w.heap.size, 2, none⟩ = some c ∧ Below w.heap.size w (Three w nq a b c) := by
  have h := fun i v hv => Np.new_cell w #[.slice none 0 0, .int .i64 0, .int .i64 0] 45 i v hv
  have h0 : ((w.alloc (.cells #[.slice none 0 0, .int .i64 0, .int .i64 0] 45)).drewN nq).cell? ⟨w.heap.size, 0, none⟩ = some (.slice none 0 0) := h 0 _ rfl
  have h1 : ((w.alloc (.cells #[.slice none 0 0, .int .i64 0, .int .i64 0] 45)).drewN nq).cell? ⟨w.heap.size, 1, none⟩ = some (.int .i64 0) := h 1 _ rfl
  have h2 : ((w.alloc (.cells #[.slice none 0 0, .int .i64 0, .int .i64 0] 45)).drewN nq).cell? ⟨w.heap.size, 2, none⟩ = some (.int .i64 0) := h 2 _ rfl
  unfold Three
  refine ⟨?_, ?_, ?_, ((((Pa.below_drewN ((Below.refl _ _).alloc (Nat.le_refl _) _) nq).setCell (Nat.le_refl _) _).setCell (Nat.le_refl _) _).setCell (Nat.le_refl _) _)⟩
  · rw [cell_other (by simp), cell_other (by simp)]
    exact cell_same h0
  · rw [cell_other (by simp)]
    exact cell_same (u := .int .i64 0) (by rw [cell_other (by simp)]; exact h1)
  · exact cell_same (u := .int .i64 0) (by rw [cell_other (by simp), cell_other (by simp)]; exact h2)

set_option maxRecDepth 100000 in
theorem copy_few (w : World) (ad : Option Addr) (n c : Nat) (h : n < 3) : Calls Try.prog 22 #[.slice ad n c] w fun e w' => e = .returned none0 ∧ Below w.heap.size w w' := by
  have hi : (n : Int) < 3 := by omega
  go_enter Try.func22, Try.ntmps22
  go_wp2_with fail
  refine bodyPost_ret (v := none0) (by simp [results, Try.results22, go_sem, none0]) rfl ⟨rfl, ?_⟩
  exact (Below.refl _ _).alloc (Nat.le_refl _) _

set_option maxRecDepth 100000 in
theorem copy_noughts (w : World) (R : Nat → Prop) (v : Value) (n : Nat) (r : List Nat) (hS : Src w R v (n :: r)) (_hX : ∀ x ∈ (n :: r), x < 256) (h2 : 2 ≤ r.length) (hl : r.length ≤ 140737488353272) (hd : g r 0 * 256 + g r 1 = 0) :
    Calls Try.prog 22 #[v] w fun e w' => e = .returned none0 ∧ Below w.heap.size w w' := by
  rcases hS with ⟨h, _⟩ | ⟨h0, q, off, c, rfl, hnc, hq, hcell⟩
  · cases h
  · have e1 := hcell 1 (by simp; omega)
    have e2 := hcell 2 (by simp; omega)
    have g1 : g (n :: r) 1 = 0 := (show g (n :: r) 1 = g r 0 from rfl).trans (by omega)
    have g2 : g (n :: r) 2 = 0 := (show g (n :: r) 2 = g r 1 from rfl).trans (by omega)
    rw [g1] at e1
    rw [g2] at e2
    obtain ⟨L, hL⟩ : ∃ L, L = (n :: r).length := ⟨_, rfl⟩
    have hL3 : 3 ≤ L := by rw [hL]; simp; omega
    have hL4 : L ≤ 140737488353273 := by rw [hL]; simp; omega
    rw [← hL] at hnc ⊢
    have hor : bits .or .i64 0 0 = 0 := by decide
    have hql : q < w.heap.size := cell_lt e1
    have f1 : (w.alloc (.cells #[.slice none 0 0, .int .i64 0, .int .i64 0] 45)).cell? ⟨q, off + 1, none⟩ = some (.int .u8 0) := (World.cell?_of_block (Below.heap_alloc w _ q hql)).trans e1
    have f2 : (w.alloc (.cells #[.slice none 0 0, .int .i64 0, .int .i64 0] 45)).cell? ⟨q, off + 2, none⟩ = some (.int .u8 0) := (World.cell?_of_block (Below.heap_alloc w _ q hql)).trans e2
    have hi1 : (1 : Int) < (L : Int) := by omega
    have hi2 : (2 : Int) < (L : Int) := by omega
    clear hcell g1 g2 hd hL h0 h2 hl
    go_enter Try.func22, Try.ntmps22
    go_wp2_with fail
    go_quiet (fail)
    go_wp2_with fail
    obtain ⟨c0, c1, c2, bl⟩ := three w nq (.slice none 0 0) (.int .i64 0) (.int .i64 0)
    change bodyPost _ _ _ _ _ (Three w nq (.slice none 0 0) (.int .i64 0) (.int .i64 0))
    refine bodyPost_ret (v := none0) (by simp [results, Try.results22, go_sem, none0, c0, c1, c2]) rfl ⟨rfl, bl⟩

set_option maxRecDepth 100000 in
theorem copy_is (w : World) (R : Nat → Prop) (v : Value) (n : Nat) (r : List Nat) (hS : Src w R v (n :: r)) (hX : ∀ x ∈ (n :: r), x < 256) (h128 : 128 ≤ n) (h2 : 2 ≤ r.length) (hl : r.length ≤ 140737488353272) (hd : ¬ g r 0 * 256 + g r 1 = 0) :
    Calls Try.prog 22 #[v] w fun e w' => e = .returned (.tuple #[.agg #[.slice none 0 0, .int .i64 ((g r 0 * 256 + g r 1 : Nat) : Int), .int .i64 ((n - 124 : Nat) : Int)], .int .i64 3]) ∧ Below w.heap.size w w' := by
  rcases hS with ⟨h, _⟩ | ⟨h0, q, off, c, rfl, hnc, hq, hcell⟩
  · cases h
  · have e0 : w.cell? ⟨q, off, none⟩ = some (.int .u8 (n : Nat)) := hcell 0 (by simp)
    have e1 : w.cell? ⟨q, off + 1, none⟩ = some (.int .u8 (g r 0 : Nat)) := hcell 1 (by simp; omega)
    have e2 : w.cell? ⟨q, off + 2, none⟩ = some (.int .u8 (g r 1 : Nat)) := hcell 2 (by simp; omega)
    have hn : n < 256 := hX n (by simp)
    have l1 : g r 0 < 256 := g_lt (fun x hx => hX x (List.mem_cons_of_mem _ hx)) 0
    have l2 : g r 1 < 256 := g_lt (fun x hx => hX x (List.mem_cons_of_mem _ hx)) 1
    obtain ⟨X, hXX⟩ : ∃ X, X = g r 0 := ⟨_, rfl⟩
    obtain ⟨Y, hY⟩ : ∃ Y, Y = g r 1 := ⟨_, rfl⟩
    rw [← hXX] at e1 l1 hd ⊢
    rw [← hY] at e2 l2 hd ⊢
    obtain ⟨D, hD⟩ : ∃ D, D = X * 256 + Y := ⟨_, rfl⟩
    rw [← hD] at hd ⊢
    obtain ⟨M, hM⟩ : ∃ M, M = n - 124 := ⟨_, rfl⟩
    rw [← hM]
    obtain ⟨L, hL⟩ : ∃ L, L = (n :: r).length := ⟨_, rfl⟩
    have hL3 : 3 ≤ L := by rw [hL]; simp; omega
    have hL4 : L ≤ 140737488353273 := by rw [hL]; simp; omega
    rw [← hL] at hnc ⊢
    have hor : bits .or .i64 ((X : Int) * 256) (Y : Int) = (D : Int) := by
      rw [show (X : Int) * 256 = ((X * 256 : Nat) : Int) from by omega, i64_or_nat _ _ (by omega) (by omega), join_lit 8 256 _ _ rfl (by omega) (by omega), hD]
    have hm : (n : Int) - 128 + 4 = (M : Int) := by omega
    have hd0 : ((D : Int) == 0) = false := by rw [beq_eq_false_iff_ne]; omega
    have hql : q < w.heap.size := cell_lt e1
    have f0 : (w.alloc (.cells #[.slice none 0 0, .int .i64 0, .int .i64 0] 45)).cell? ⟨q, off, none⟩ = some (.int .u8 (n : Nat)) := (World.cell?_of_block (Below.heap_alloc w _ q hql)).trans e0
    have f1 : (w.alloc (.cells #[.slice none 0 0, .int .i64 0, .int .i64 0] 45)).cell? ⟨q, off + 1, none⟩ = some (.int .u8 (X : Nat)) := (World.cell?_of_block (Below.heap_alloc w _ q hql)).trans e1
    have f2 : (w.alloc (.cells #[.slice none 0 0, .int .i64 0, .int .i64 0] 45)).cell? ⟨q, off + 2, none⟩ = some (.int .u8 (Y : Nat)) := (World.cell?_of_block (Below.heap_alloc w _ q hql)).trans e2
    have hi0 : (0 : Int) < (L : Int) := by omega
    have hi1 : (1 : Int) < (L : Int) := by omega
    have hi2 : (2 : Int) < (L : Int) := by omega
    clear hcell hX hL h0 h2 hl hXX hY hD hM hd e0 e1 e2
    go_enter Try.func22, Try.ntmps22
    go_wp2_with fail
    go_quiet (fail)
    go_wp2_with fail
    obtain ⟨c0, c1, c2, bl⟩ := three w nq (.slice none 0 0) (.int .i64 (D : Nat)) (.int .i64 (M : Nat))
    change bodyPost _ _ _ _ _ (Three w nq (.slice none 0 0) (.int .i64 (D : Nat)) (.int .i64 (M : Nat)))
    refine bodyPost_ret (v := .tuple #[.agg #[.slice none 0 0, .int .i64 (D : Nat), .int .i64 (M : Nat)], .int .i64 3]) (by simp [results, Try.results22, go_sem, c0, c1, c2]) rfl ⟨rfl, bl⟩
end Ua
end Go.Proofs.Ytbmdjmckgcjfcaa
