/- The latest places of four bytes, in rows of places: plain mathematics. -/
import Derived.Test.YtbmdjmckgcjfcaaFa
namespace Go.Proofs.Ytbmdjmckgcjfcaa
namespace Lp
open Lm Fa

/-- The greatest place from lo on, below a place, at which the four bytes k stand. -/
def last (b : List Nat) (lo k : Nat) : Nat → Option Nat
  | 0 => none
  | q + 1 => if q < lo then none else if k = f4 b q then some q else last b lo k q
theorem last_low (b : List Nat) (lo k : Nat) {hi : Nat} (h : hi ≤ lo) : last b lo k hi = none := by
  cases hi with
  | zero => rfl
  | succ q => simp only [last]; rw [if_pos (by omega)]
theorem last_succ {b : List Nat} {lo N : Nat} (h : lo ≤ N) (k : Nat) : last b lo k (N + 1) = if k = f4 b N then some N else last b lo k N := by
  simp only [last]; rw [if_neg (by omega)]
theorem last_some {b : List Nat} {lo k : Nat} : ∀ {hi q : Nat}, last b lo k hi = some q → lo ≤ q ∧ q < hi ∧ k = f4 b q ∧ ∀ r, q < r → r < hi → k ≠ f4 b r := by
  intro hi
  induction hi with
  | zero => intro q h; cases h
  | succ n ih =>
    intro q h
    simp only [last] at h
    split at h
    · cases h
    · split at h
      · rename_i h1 h2
        cases h
        exact ⟨by omega, by omega, h2, fun r a b => by omega⟩
      · rename_i h1 h2
        obtain ⟨a1, a2, a3, a4⟩ := ih h
        refine ⟨a1, by omega, a3, fun r b1 b2 => ?_⟩
        by_cases e : r = n
        · subst e; exact h2
        · exact a4 r b1 (by omega)
theorem last_none {b : List Nat} {lo k : Nat} : ∀ {hi : Nat}, last b lo k hi = none → ∀ r, lo ≤ r → r < hi → k ≠ f4 b r := by
  intro hi
  induction hi with
  | zero => intro _ r _ h; omega
  | succ n ih =>
    intro h r h1 h2
    simp only [last] at h
    split at h
    · omega
    · split at h
      · cases h
      · rename_i h3 h4
        by_cases e : r = n
        · subst e; exact h4
        · exact ih h r h1 (by omega)

/-- s is where the row of the places noted last begins. -/
def RowAt (N s : Nat) : Prop := s % 65536 = 0 ∧ s ≤ N ∧ (N = 0 → s = 0) ∧ (0 < N → s < N ∧ N ≤ s + 65536)
theorem rowAt_zero : RowAt 0 0 := ⟨rfl, Nat.le_refl _, fun _ => rfl, fun h => by omega⟩
theorem rowAt_new {N s : Nat} (h : RowAt N s) (h0 : N % 65536 = 0) : RowAt (N + 1) N ∧ s = N - 65536 := by
  obtain ⟨h1, h2, h3, h4⟩ := h
  exact ⟨⟨h0, by omega, fun h => by omega, fun _ => by omega⟩, by omega⟩
theorem rowAt_on {N s : Nat} (h : RowAt N s) (h0 : N % 65536 ≠ 0) : RowAt (N + 1) s := by
  obtain ⟨h1, h2, h3, h4⟩ := h
  exact ⟨h1, by omega, fun h => by omega, fun _ => by omega⟩

theorem f4_same {b : List Nat} (hX : ∀ x ∈ b, x < 256) (p a : Nat) : f4 b a = f4 b p ↔ Same b p a := by
  have a0 := g_lt hX a
  have a1 := g_lt hX (a + 1)
  have a2 := g_lt hX (a + 2)
  have a3 := g_lt hX (a + 3)
  have p0 := g_lt hX p
  have p1 := g_lt hX (p + 1)
  have p2 := g_lt hX (p + 2)
  have p3 := g_lt hX (p + 3)
  unfold f4 Same
  omega
theorem f4_lt {b : List Nat} (hX : ∀ x ∈ b, x < 256) (a : Nat) : f4 b a < 4294967296 := by
  have a0 := g_lt hX a
  have a1 := g_lt hX (a + 1)
  have a2 := g_lt hX (a + 2)
  have a3 := g_lt hX (a + 3)
  unfold f4
  omega

/-- What the newer map has counts. -/
theorem newer_some {b : List Nat} (hX : ∀ x ∈ b, x < 256) {a s q : Nat} (h4 : a + 4 ≤ b.length) (h : last b s (f4 b a) a = some q) : latest b a = if a - q ≤ 65535 then some q else none := by
  obtain ⟨h1, h2, h3, h5⟩ := last_some h
  have h6 : ∀ r, q < r → r < a → ¬ Same b r a := fun r a1 a2 hs => h5 r a1 a2 ((f4_same hX r a).2 hs)
  split
  · rename_i h7
    exact latest_some h4 h2 ((f4_same hX q a).1 h3) h6 h7
  · rename_i h7
    exact latest_far h6 h7
/-- Else what the older map has. -/
theorem older_some {b : List Nat} (hX : ∀ x ∈ b, x < 256) {a s t q : Nat} (h4 : a + 4 ≤ b.length) (hsa : s ≤ a) (h0 : last b s (f4 b a) a = none) (h : last b t (f4 b a) s = some q) : latest b a = if a - q ≤ 65535 then some q else none := by
  obtain ⟨h1, h2, h3, h5⟩ := last_some h
  have h6 : ∀ r, q < r → r < a → ¬ Same b r a := fun r a1 a2 hs => by
    by_cases e : r < s
    · exact h5 r a1 e ((f4_same hX r a).2 hs)
    · exact last_none h0 r (by omega) a2 ((f4_same hX r a).2 hs)
  split
  · rename_i h7
    exact latest_some h4 (by omega) ((f4_same hX q a).1 h3) h6 h7
  · rename_i h7
    exact latest_far h6 h7
/-- Else there is none. -/
theorem both_none {b : List Nat} (hX : ∀ x ∈ b, x < 256) {a s : Nat} (hr : RowAt a s) (h0 : last b s (f4 b a) a = none) (h : last b (s - 65536) (f4 b a) s = none) : latest b a = none := by
  cases hl : latest b a with
  | none => rfl
  | some p =>
    obtain ⟨h1, h2, h3, h4⟩ := latest_spec hl
    obtain ⟨r1, r2, r3, r4⟩ := hr
    have h5 := (f4_same hX p a).2 h3
    by_cases e : p < s
    · exact absurd h5 (last_none h p (by omega) e)
    · exact absurd h5 (last_none h0 p (by omega) h2)
end Lp
end Go.Proofs.Ytbmdjmckgcjfcaa
