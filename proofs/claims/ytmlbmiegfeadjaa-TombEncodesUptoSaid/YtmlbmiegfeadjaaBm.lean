/- Bits of bytes: plain mathematics. -/
import Derived.Test.YtmlbmiegfeadjaaRows
import Derived.WalkKit
import Derived.ProofKit
import Derived.OpenShut
import Derived.Handy
import Derived.BigQuiet
import Derived.Deep.QuietTactic
import Derived.WalkLawsBesides
import Derived.Lib.Hide
import Derived.LoopTactic
import Derived.IntWalk
import Derived.Laws.BitsAllLaws
namespace Go.Proofs.Ytmlbmiegfeadjaa
namespace Bm

def b2n (b : Bool) : Nat := if b then 1 else 0
theorem b2n_le (b : Bool) : b2n b ≤ 1 := by cases b <;> simp [b2n]
/-- The bytes bs have the bits β, the highest one of the first byte first. -/
def Has (bs : List Nat) (β : Nat → Bool) : Prop := (∀ b ∈ bs, b < 256) ∧ ∀ j k, j < bs.length → k < 8 → (bs.getD j 0).testBit (7 - k) = β (8 * j + k)

theorem Has.congr {bs : List Nat} {β γ : Nat → Bool} (h : Has bs β) (e : ∀ i, i < 8 * bs.length → β i = γ i) : Has bs γ :=
  ⟨h.1, fun j k hj hk => by rw [h.2 j k hj hk, e _ (by omega)]⟩
theorem getD_lt {bs : List Nat} (h : ∀ b ∈ bs, b < 256) (j : Nat) : bs.getD j 0 < 256 := by
  by_cases hj : j < bs.length
  · rw [List.getD_eq_getElem?_getD, List.getElem?_eq_getElem hj]; exact h _ (List.getElem_mem hj)
  · rw [List.getD_eq_getElem?_getD, List.getElem?_eq_none (by omega)]; decide
theorem byte_ext {a b : Nat} (ha : a < 256) (hb : b < 256) (h : ∀ k, k < 8 → a.testBit (7 - k) = b.testBit (7 - k)) : a = b := by
  apply Nat.eq_of_testBit_eq
  intro i
  by_cases hi : i < 8
  · have := h (7 - i) (by omega)
    rwa [show 7 - (7 - i) = i from by omega] at this
  · rw [Nat.testBit_lt_two_pow (show a < 2 ^ i from Nat.lt_of_lt_of_le ha (Nat.pow_le_pow_right (n := 2) (by decide) (show 8 ≤ i by omega))),
      Nat.testBit_lt_two_pow (show b < 2 ^ i from Nat.lt_of_lt_of_le hb (Nat.pow_le_pow_right (n := 2) (by decide) (show 8 ≤ i by omega)))]
theorem Has.unique {cs bs : List Nat} {β : Nat → Bool} (h : Has cs β) (k : Has bs β) (hl : cs.length = bs.length) : cs = bs := by
  apply List.ext_getElem hl
  intro j h1 h2
  have e := byte_ext (getD_lt h.1 j) (getD_lt k.1 j) (fun q hq => by rw [h.2 j q h1 hq, k.2 j q h2 hq])
  simpa [List.getD_eq_getElem?_getD, h1, h2] using e
theorem Has.nil (β : Nat → Bool) : Has [] β := ⟨by simp, fun j k hj => by simp at hj⟩
/-- A new byte of noughts. -/
theorem Has.zero {bs : List Nat} {β : Nat → Bool} (h : Has bs β) (e : ∀ k, k < 8 → β (8 * bs.length + k) = false) : Has (bs ++ [0]) β := by
  refine ⟨fun b hb => ?_, fun j k hj hk => ?_⟩
  · rcases List.mem_append.1 hb with hb | hb
    · exact h.1 b hb
    · simp at hb; omega
  · simp at hj
    by_cases hl : j < bs.length
    · have := h.2 j k hl hk
      simpa [List.getD_eq_getElem?_getD, List.getElem?_append_left hl] using this
    · obtain rfl : j = bs.length := by omega
      rw [e k hk]
      simp [List.getD_eq_getElem?_getD]
/-- One byte turned. -/
theorem Has.set {bs : List Nat} {β γ : Nat → Bool} (h : Has bs β) {j x : Nat} (hx : x < 256) (hj : j < bs.length) (hold : ∀ i, i < 8 * bs.length → i / 8 ≠ j → β i = γ i)
    (hnew : ∀ k, k < 8 → x.testBit (7 - k) = γ (8 * j + k)) : Has (bs.set j x) γ := by
  refine ⟨fun b hb => ?_, fun i k hi hk => ?_⟩
  · rcases List.mem_or_eq_of_mem_set hb with hb | hb
    · exact h.1 b hb
    · omega
  · simp at hi
    by_cases hij : i = j
    · subst hij
      rw [← hnew k hk]
      simp [List.getD_eq_getElem?_getD, hi]
    · rw [← hold _ (by omega) (by omega), ← h.2 i k hi hk]
      simp [List.getD_eq_getElem?_getD, List.getElem?_set_ne (Ne.symm hij)]

/-- m bits β, and N bits of v behind them, but for the last l. -/
def put (β : Nat → Bool) (m v N l : Nat) : Nat → Bool := fun i => if i < m then β i else if i < m + (N - l) then v.testBit (N - 1 - (i - m)) else false
theorem put_zero (β : Nat → Bool) (m v N : Nat) (h : ∀ i, m ≤ i → β i = false) (i : Nat) : put β m v N N i = β i := by
  unfold put
  split
  · rfl
  · rw [if_neg (by omega), h i (by omega)]
theorem put_past (β : Nat → Bool) (m v N l : Nat) (i : Nat) (h : m + (N - l) ≤ i) : put β m v N l i = false := by
  unfold put; rw [if_neg (by omega), if_neg (by omega)]

/-- What Put lays into the last byte. -/
def piece (v l t f : Nat) : Nat := (v / 2 ^ l % 256 * 2 ^ (8 - t) % 256) / 2 ^ (8 - f)
theorem piece_lt (v l t f : Nat) : piece v l t f < 256 := by
  unfold piece
  exact Nat.lt_of_le_of_lt (Nat.div_le_self _ _) (Nat.mod_lt _ (by decide))
theorem piece_bit (v l t f : Nat) (ht : t ≤ f) (hf : f ≤ 8) (ht1 : 1 ≤ t) (k : Nat) (hk : k < 8) :
    (piece v l t f).testBit (7 - k) = (decide (8 - f ≤ k ∧ k < 8 - f + t) && v.testBit (l + (t - 1 - (k - (8 - f))))) := by
  unfold piece
  rw [show (256 : Nat) = 2 ^ 8 from rfl, ← Nat.shiftRight_eq_div_pow, Nat.testBit_shiftRight, Nat.testBit_mod_two_pow, ← Nat.shiftLeft_eq, Nat.testBit_shiftLeft, Nat.testBit_mod_two_pow, ← Nat.shiftRight_eq_div_pow, Nat.testBit_shiftRight]
  by_cases h : 8 - f ≤ k ∧ k < 8 - f + t
  · rw [decide_eq_true h, decide_eq_true (show 8 - f + (7 - k) < 8 by omega), decide_eq_true (show 8 - t ≤ 8 - f + (7 - k) by omega), decide_eq_true (show 8 - f + (7 - k) - (8 - t) < 8 by omega)]
    simp only [Bool.true_and]
    congr 1
    omega
  · rw [decide_eq_false h]
    by_cases h2 : 8 - f ≤ k
    · rw [decide_eq_false (show ¬ 8 - t ≤ 8 - f + (7 - k) by omega)]
      simp
    · rw [decide_eq_false (show ¬ 8 - f + (7 - k) < 8 by omega)]
      simp

/-- A round of Put. -/
theorem put_round {bs : List Nat} {β : Nat → Bool} {m v N l t f j : Nat} (h : Has bs (put β m v N l)) (hl : bs.length = j + 1) (hf : 8 * bs.length = m + (N - l) + f) (hf8 : f ≤ 8) (hlN : l ≤ N)
    (ht : t ≤ f) (htl : t ≤ l) (ht1 : 1 ≤ t) : Has (bs.set j (bs.getD j 0 ||| piece v (l - t) t f)) (put β m v N (l - t)) := by
  refine h.set (Nat.or_lt_two_pow (n := 8) (getD_lt h.1 j) (piece_lt _ _ _ _)) (by omega) (fun i hi hij => ?_) (fun k hk => ?_)
  · unfold put
    split
    · rfl
    · rw [if_pos (by omega), if_pos (by omega)]
  · rw [Nat.testBit_or, h.2 j k (by omega) hk, piece_bit v (l - t) t f ht hf8 ht1 k hk]
    unfold put
    by_cases h1 : 8 * j + k < m
    · rw [if_pos h1, if_pos h1, decide_eq_false (by omega)]; simp
    · rw [if_neg h1, if_neg h1]
      by_cases h2 : 8 * j + k < m + (N - l)
      · rw [if_pos h2, if_pos (by omega), decide_eq_false (by omega)]; simp
      · rw [if_neg h2]
        by_cases h3 : 8 * j + k < m + (N - (l - t))
        · rw [if_pos h3, decide_eq_true (by omega)]
          simp only [Bool.false_or, Bool.true_and]
          congr 1
          omega
        · rw [if_neg h3, decide_eq_false (by omega)]; simp

/-- The number of the bits from a on, n of them. -/
def num (β : Nat → Bool) (a : Nat) : Nat → Nat
  | 0 => 0
  | n + 1 => 2 * num β a n + b2n (β (a + n))
theorem num_lt (β : Nat → Bool) (a n : Nat) : num β a n < 2 ^ n := by
  induction n with
  | zero => simp [num]
  | succ n ih => have := b2n_le (β (a + n)); rw [Nat.pow_succ]; simp only [num]; omega
theorem num_congr {β γ : Nat → Bool} {a b n : Nat} (h : ∀ i, i < n → β (a + i) = γ (b + i)) : num β a n = num γ b n := by
  induction n with
  | zero => rfl
  | succ n ih => simp only [num]; rw [ih (fun i hi => h i (by omega)), h n (by omega)]
theorem num_add (β : Nat → Bool) (a m n : Nat) : num β a (m + n) = num β a m * 2 ^ n + num β (a + m) n := by
  induction n with
  | zero => simp [num]
  | succ n ih => rw [← Nat.add_assoc]; simp only [num]; rw [ih, Nat.pow_succ, show a + (m + n) = a + m + n from by omega, Nat.mul_add, ← Nat.mul_assoc, Nat.mul_comm 2, Nat.mul_assoc, Nat.mul_comm 2, Nat.mul_comm 2]; omega
/-- The number of n bits of v is what v leaves. -/
theorem num_of (v : Nat) (β : Nat → Bool) (a n : Nat) (h : ∀ i, i < n → β (a + i) = v.testBit (n - 1 - i)) : num β a n = v % 2 ^ n := by
  induction n generalizing v with
  | zero => simp [num, Nat.mod_one]
  | succ n ih =>
    simp only [num]
    rw [ih (v / 2) (fun i hi => by rw [h i (by omega), show n + 1 - 1 - i = (n - 1 - i) + 1 from by omega, Nat.testBit_succ]), h n (by omega)]
    rw [show n + 1 - 1 - n = 0 from by omega, Nat.pow_succ]
    have e : b2n (v.testBit 0) = v % 2 := by rw [Nat.testBit_zero]; unfold b2n; split <;> rename_i h0 <;> simp at h0 <;> omega
    rw [e]
    have h1 := Nat.mod_mul (a := 2) (b := 2 ^ n) (x := v)
    rw [Nat.mul_comm (2 ^ n) 2, h1]
    omega
/-- What Get takes out of one byte. -/
theorem byte_num {bs : List Nat} {β : Nat → Bool} (h : Has bs β) {j u t : Nat} (hj : j < bs.length) (hu : u + t ≤ 8) (ht : 1 ≤ t) :
    (bs.getD j 0 * 2 ^ u % 256) / 2 ^ (8 - t) = num β (8 * j + u) t := by
  have hb := getD_lt h.1 j
  have e1 : num β (8 * j + u) t = (bs.getD j 0 / 2 ^ (8 - u - t)) % 2 ^ t := by
    refine num_of _ _ _ _ fun i hi => ?_
    rw [← Nat.shiftRight_eq_div_pow, Nat.testBit_shiftRight, show 8 - u - t + (t - 1 - i) = 7 - (u + i) from by omega, h.2 j (u + i) hj (by omega), Nat.add_assoc]
  rw [e1]
  apply Nat.eq_of_testBit_eq
  intro i
  rw [show (256 : Nat) = 2 ^ 8 from rfl, ← Nat.shiftRight_eq_div_pow, Nat.testBit_shiftRight, Nat.testBit_mod_two_pow, ← Nat.shiftLeft_eq, Nat.testBit_shiftLeft, Nat.testBit_mod_two_pow, ← Nat.shiftRight_eq_div_pow, Nat.testBit_shiftRight]
  by_cases hi : i < t
  · rw [decide_eq_true (show 8 - t + i < 8 by omega), decide_eq_true (show u ≤ 8 - t + i by omega), decide_eq_true hi]
    simp only [Bool.true_and]
    congr 1
    omega
  · rw [decide_eq_false (show ¬ 8 - t + i < 8 by omega), decide_eq_false hi]; simp
end Bm
end Go.Proofs.Ytmlbmiegfeadjaa
