/- Reading words: plain mathematics. -/
import Derived.Test.YtmlbmiegfeadjaaMt
namespace Go.Proofs.Ytmlbmiegfeadjaa
namespace Mt
open Bm

/-- The bits of bytes. -/
def bb (bs : List Nat) : Nat → Bool := fun i => (bs.getD (i / 8) 0).testBit (7 - i % 8)
theorem has_bb {bs : List Nat} (h : ∀ b ∈ bs, b < 256) : Has bs (bb bs) := by
  refine ⟨h, fun j k _ hk => ?_⟩
  unfold bb
  rw [show (8 * j + k) / 8 = j from by omega, show (8 * j + k) % 8 = k from by omega]
theorem num_byte {bs : List Nat} (h : ∀ b ∈ bs, b < 256) (j : Nat) : num (bb bs) (8 * j) 8 = bs.getD j 0 := by
  rw [num_of (bs.getD j 0) (bb bs) (8 * j) 8 (fun i hi => by
    unfold bb
    rw [show (8 * j + i) / 8 = j from by omega, show (8 * j + i) % 8 = i from by omega, show 8 - 1 - i = 7 - i from by omega])]
  exact Nat.mod_eq_of_lt (getD_lt h j)
theorem num_word {bs : List Nat} (h : ∀ b ∈ bs, b < 256) (k : Nat) : num (bb bs) (64 * k) 64 = num8 bs (8 * k) := by
  have hb : ∀ t, num (bb bs) (64 * k + 8 * t) 8 = bs.getD (8 * k + t) 0 := fun t => by
    rw [show 64 * k + 8 * t = 8 * (8 * k + t) from by omega, num_byte h]
  have s : ∀ m t, m = 8 * t → num (bb bs) (64 * k) (m + 8) = num (bb bs) (64 * k) m * 256 + bs.getD (8 * k + t) 0 := fun m t e => by
    rw [num_add, e, hb]
  rw [show (64 : Nat) = 56 + 8 from rfl, s 56 7 rfl, show (56 : Nat) = 48 + 8 from rfl, s 48 6 rfl, show (48 : Nat) = 40 + 8 from rfl, s 40 5 rfl, show (40 : Nat) = 32 + 8 from rfl, s 32 4 rfl,
    show (32 : Nat) = 24 + 8 from rfl, s 24 3 rfl, show (24 : Nat) = 16 + 8 from rfl, s 16 2 rfl, show (16 : Nat) = 8 + 8 from rfl, s 8 1 rfl]
  have s0 := hb 0
  rw [Nat.mul_zero, Nat.add_zero, Nat.add_zero] at s0
  rw [s0]
  rfl
theorem num_parts {bs : List Nat} (h : ∀ b ∈ bs, b < 256) (k : Nat) : num (bb bs) (64 * k) 4 = num8 bs (8 * k) / 2 ^ 60 ∧ num (bb bs) (64 * k + 4) 60 = num8 bs (8 * k) % 2 ^ 60 := by
  have h1 := num_add (bb bs) (64 * k) 4 60
  have h2 := num_lt (bb bs) (64 * k + 4) 60
  rw [show 4 + 60 = 64 from rfl, num_word h] at h1
  rw [h1]
  omega
theorem part_eq (X q U : Nat) (h : q * U + U ≤ 60) : X % 2 ^ 60 / 2 ^ (q * U) % 2 ^ U = X / 2 ^ (q * U) % 2 ^ U := by
  apply Nat.eq_of_testBit_eq
  intro i
  rw [Nat.testBit_mod_two_pow, Nat.testBit_mod_two_pow, ← Nat.shiftRight_eq_div_pow, ← Nat.shiftRight_eq_div_pow, Nat.testBit_shiftRight, Nat.testBit_shiftRight, Nat.testBit_mod_two_pow]
  by_cases hi : i < U
  · rw [decide_eq_true hi, decide_eq_true (show q * U + i < 60 by omega)]; simp
  · rw [decide_eq_false hi]; simp
theorem reads_more {n : Nat} {bs : List Nat} {k : Nat} (h : reads n [] (wordsOf bs k) = none) : ∀ m, k ≤ m → reads n [] (wordsOf bs m) = none := by
  intro m
  induction m with
  | zero => intro hm; rw [show k = 0 from by omega] at h; exact h
  | succ m ih =>
    intro hm
    by_cases e : k = m + 1
    · rw [← e]; exact h
    · simp only [wordsOf]
      rw [reads_snoc, ih (by omega)]
      rfl
theorem reads_step {n : Nat} {bs : List Nat} {k : Nat} {L : List Nat} (h : reads n [] (wordsOf bs k) = some L) (hc : ¬ 13 < num8 bs (8 * k) / 2 ^ 60) :
    reads n [] (wordsOf bs (k + 1)) = some (L ++ outs (W (num8 bs (8 * k) / 2 ^ 60)) (num8 bs (8 * k)) (room (num8 bs (8 * k) / 2 ^ 60) n L.length)) := by
  simp only [wordsOf]
  rw [reads_snoc, h]
  simp only [Option.bind_some, reads]
  rw [if_neg hc]
theorem reads_stop {n : Nat} {bs : List Nat} {k : Nat} {L : List Nat} (h : reads n [] (wordsOf bs k) = some L) (hc : 13 < num8 bs (8 * k) / 2 ^ 60) :
    reads n [] (wordsOf bs (k + 1)) = none := by
  simp only [wordsOf]
  rw [reads_snoc, h]
  simp only [Option.bind_some, reads]
  rw [if_pos hc]
end Mt
end Go.Proofs.Ytmlbmiegfeadjaa
