/- The document's chains: plain mathematics. -/
import Derived.Test.YtbmdjmckgcjfcaaLm
namespace Go.Proofs.Ytbmdjmckgcjfcaa
namespace Lc
open Lm

def p2 (b : List Nat) (i : Nat) : Nat := g b i * 256 + g b (i + 1)
theorem p2_lt {b : List Nat} (hX : ∀ x ∈ b, x < 256) (i : Nat) : p2 b i < 65536 := by
  have a0 := g_lt hX i
  have a1 := g_lt hX (i + 1)
  unfold p2
  omega
/-- One more than the greatest place below a place at which the pair x stands; 0: there is none. -/
def pb (b : List Nat) (x : Nat) : Nat → Nat
  | 0 => 0
  | j + 1 => if x = p2 b j then j + 1 else pb b x j
theorem pb_le (b : List Nat) (x : Nat) : ∀ k, pb b x k ≤ k := by
  intro k
  induction k with
  | zero => exact Nat.le_refl _
  | succ k ih => simp only [pb]; split <;> omega
theorem pb_zero {b : List Nat} {x : Nat} : ∀ {k}, pb b x k = 0 → ∀ q, q < k → x ≠ p2 b q := by
  intro k
  induction k with
  | zero => intro _ q h; omega
  | succ k ih =>
    intro h q hq
    simp only [pb] at h
    split at h
    · cases h
    · rename_i hne
      by_cases e : q = k
      · subst e; exact hne
      · exact ih h q (by omega)
theorem pb_succ {b : List Nat} {x p : Nat} : ∀ {k}, pb b x k = p + 1 → p < k ∧ x = p2 b p ∧ ∀ q, p < q → q < k → x ≠ p2 b q := by
  intro k
  induction k with
  | zero => intro h; cases h
  | succ k ih =>
    intro h
    simp only [pb] at h
    split at h
    · rename_i he
      obtain rfl : k = p := by omega
      exact ⟨by omega, he, fun q h1 h2 => by omega⟩
    · rename_i hne
      obtain ⟨h1, h2, h3⟩ := ih h
      refine ⟨by omega, h2, fun q a1 a2 => ?_⟩
      by_cases e : q = k
      · subst e; exact hne
      · exact h3 q a1 (by omega)
theorem same_p2 {b : List Nat} {p a : Nat} (h : Same b p a) : p2 b a = p2 b p := by
  obtain ⟨h1, h2, _⟩ := h
  unfold p2
  rw [h1, h2]
theorem p2_same {b : List Nat} (hX : ∀ x ∈ b, x < 256) {p a : Nat} (h : p2 b a = p2 b p) (h2 : g b (p + 2) = g b (a + 2)) (h3 : g b (p + 3) = g b (a + 3)) : Same b p a := by
  have a0 := g_lt hX a
  have a1 := g_lt hX (a + 1)
  have q0 := g_lt hX p
  have q1 := g_lt hX (p + 1)
  unfold p2 at h
  exact ⟨by omega, by omega, h2, h3⟩
/-- What place is, where it stands still. -/
def plc (b : List Nat) (a : Nat) : Int := match latest b a with
  | none => -1
  | some p => (p : Nat)
theorem plc_none {b : List Nat} {a : Nat} (h : latest b a = none) : plc b a = -1 := by unfold plc; rw [h]
theorem plc_some {b : List Nat} {a p : Nat} (h : latest b a = some p) : plc b a = (p : Nat) := by unfold plc; rw [h]
/-- Nothing is left to look at. -/
theorem walk_end {b : List Nat} {a k : Nat} (hno : ∀ q, k ≤ q → q < a → ¬ Same b q a) (h : pb b (p2 b a) k = 0) : plc b a = -1 :=
  plc_none (latest_none fun q hq hs => by
    by_cases e : k ≤ q
    · exact hno q e hq hs
    · exact pb_zero h q (by omega) (same_p2 hs))
theorem walk_gap {b : List Nat} {a k p : Nat} (hno : ∀ q, k ≤ q → q < a → ¬ Same b q a) (h : pb b (p2 b a) k = p + 1) : ∀ q, p < q → q < a → ¬ Same b q a := fun q h1 h2 hs => by
  by_cases e : k ≤ q
  · exact hno q e h2 hs
  · exact (pb_succ h).2.2 q h1 (by omega) (same_p2 hs)
theorem walk_far {b : List Nat} {a k p : Nat} (hno : ∀ q, k ≤ q → q < a → ¬ Same b q a) (h : pb b (p2 b a) k = p + 1) (hf : ¬ a - p ≤ 65535) : plc b a = -1 := plc_none (latest_far (walk_gap hno h) hf)
theorem walk_hit {b : List Nat} (hX : ∀ x ∈ b, x < 256) {a k p : Nat} (hk : k ≤ a) (h4 : a + 4 ≤ b.length) (hno : ∀ q, k ≤ q → q < a → ¬ Same b q a) (h : pb b (p2 b a) k = p + 1) (hf : a - p ≤ 65535) (h2 : g b (p + 2) = g b (a + 2)) (h3 : g b (p + 3) = g b (a + 3)) : plc b a = (p : Nat) :=
  plc_some (latest_some h4 (by have := (pb_succ h).1; omega) (p2_same hX (pb_succ h).2.1 h2 h3) (walk_gap hno h) hf)
theorem walk_on {b : List Nat} {a k p : Nat} (hno : ∀ q, k ≤ q → q < a → ¬ Same b q a) (h : pb b (p2 b a) k = p + 1) (hne : ¬ (g b (p + 2) = g b (a + 2) ∧ g b (p + 3) = g b (a + 3))) : ∀ q, p ≤ q → q < a → ¬ Same b q a := fun q h1 h2 hs => by
  by_cases e : p = q
  · subst e; exact hne ⟨hs.2.2.1, hs.2.2.2⟩
  · exact walk_gap hno h q (by omega) h2 hs
end Lc
end Go.Proofs.Ytbmdjmckgcjfcaa
