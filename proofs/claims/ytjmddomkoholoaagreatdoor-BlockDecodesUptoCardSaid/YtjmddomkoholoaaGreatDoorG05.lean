import Derived.Test.YtjmddomkoholoaaGreatDoorRows
import Derived.WalkKit
import Derived.ProofKit
import Derived.OpenShut
import Derived.Handy
import Derived.BigQuiet
import Derived.Deep.QuietTactic
import Derived.WalkLawsBesides
import Derived.Lib.Hide
import Derived.LoopTactic
import Derived.IntWalk
import Derived.Laws.BitsAllLaws

/- Bits of bytes: plain mathematics. -/
namespace Go.Proofs.YtjmddomkoholoaaGreatDoor
namespace Bm

def b2n (b : Bool) : Nat := if b then 1 else 0
theorem b2n_le (b : Bool) : b2n b ≤ 1 := by cases b <;> simp [b2n]
/-- The bytes bs have the bits β, the highest one of the first byte first. -/
def Has (bs : List Nat) (β : Nat → Bool) : Prop := (∀ b ∈ bs, b < 256) ∧ ∀ j k, j < bs.length → k < 8 → (bs.getD j 0).testBit (7 - k) = β (8 * j + k)

theorem Has.congr {bs : List Nat} {β γ : Nat → Bool} (h : Has bs β) (e : ∀ i, i < 8 * bs.length → β i = γ i) : Has bs γ :=
  ⟨h.1, fun j k hj hk => by rw [h.2 j k hj hk, e _ (by omega)]⟩
theorem getD_lt {bs : List Nat} (h : ∀ b ∈ bs, b < 256) (j : Nat) : bs.getD j 0 < 256 := by
  by_cases hj : j < bs.length
  · rw [List.getD_eq_getElem?_getD, List.getElem?_eq_getElem hj]; exact h _ (List.getElem_mem hj)
  · rw [List.getD_eq_getElem?_getD, List.getElem?_eq_none (by omega)]; decide
theorem byte_ext {a b : Nat} (ha : a < 256) (hb : b < 256) (h : ∀ k, k < 8 → a.testBit (7 - k) = b.testBit (7 - k)) : a = b := by
  apply Nat.eq_of_testBit_eq
  intro i
  by_cases hi : i < 8
  · have := h (7 - i) (by omega)
    rwa [show 7 - (7 - i) = i from by omega] at this
  · rw [Nat.testBit_lt_two_pow (show a < 2 ^ i from Nat.lt_of_lt_of_le ha (Nat.pow_le_pow_right (n := 2) (by decide) (show 8 ≤ i by omega))),
      Nat.testBit_lt_two_pow (show b < 2 ^ i from Nat.lt_of_lt_of_le hb (Nat.pow_le_pow_right (n := 2) (by decide) (show 8 ≤ i by omega)))]
theorem Has.unique {cs bs : List Nat} {β : Nat → Bool} (h : Has cs β) (k : Has bs β) (hl : cs.length = bs.length) : cs = bs := by
  apply List.ext_getElem hl
  intro j h1 h2
  have e := byte_ext (getD_lt h.1 j) (getD_lt k.1 j) (fun q hq => by rw [h.2 j q h1 hq, k.2 j q h2 hq])
  simpa [List.getD_eq_getElem?_getD, h1, h2] using e
theorem Has.nil (β : Nat → Bool) : Has [] β := ⟨by simp, fun j k hj => by simp at hj⟩
/-- A new byte of noughts. -/
theorem Has.zero {bs : List Nat} {β : Nat → Bool} (h : Has bs β) (e : ∀ k, k < 8 → β (8 * bs.length + k) = false) : Has (bs ++ [0]) β := by
  refine ⟨fun b hb => ?_, fun j k hj hk => ?_⟩
  · rcases List.mem_append.1 hb with hb | hb
    · exact h.1 b hb
    · simp at hb; omega
  · simp at hj
    by_cases hl : j < bs.length
    · have := h.2 j k hl hk
      simpa [List.getD_eq_getElem?_getD, List.getElem?_append_left hl] using this
    · obtain rfl : j = bs.length := by omega
      rw [e k hk]
      simp [List.getD_eq_getElem?_getD]
/-- One byte turned. -/
theorem Has.set {bs : List Nat} {β γ : Nat → Bool} (h : Has bs β) {j x : Nat} (hx : x < 256) (hj : j < bs.length) (hold : ∀ i, i < 8 * bs.length → i / 8 ≠ j → β i = γ i)
    (hnew : ∀ k, k < 8 → x.testBit (7 - k) = γ (8 * j + k)) : Has (bs.set j x) γ := by
  refine ⟨fun b hb => ?_, fun i k hi hk => ?_⟩
  · rcases List.mem_or_eq_of_mem_set hb with hb | hb
    · exact h.1 b hb
    · omega
  · simp at hi
    by_cases hij : i = j
    · subst hij
      rw [← hnew k hk]
      simp [List.getD_eq_getElem?_getD, hi]
    · rw [← hold _ (by omega) (by omega), ← h.2 i k hi hk]
      simp [List.getD_eq_getElem?_getD, List.getElem?_set_ne (Ne.symm hij)]

/-- m bits β, and N bits of v behind them, but for the last l. -/
def put (β : Nat → Bool) (m v N l : Nat) : Nat → Bool := fun i => if i < m then β i else if i < m + (N - l) then v.testBit (N - 1 - (i - m)) else false
theorem put_zero (β : Nat → Bool) (m v N : Nat) (h : ∀ i, m ≤ i → β i = false) (i : Nat) : put β m v N N i = β i := by
  unfold put
  split
  · rfl
  · rw [if_neg (by omega), h i (by omega)]
theorem put_past (β : Nat → Bool) (m v N l : Nat) (i : Nat) (h : m + (N - l) ≤ i) : put β m v N l i = false := by
  unfold put; rw [if_neg (by omega), if_neg (by omega)]

/-- What Put lays into the last byte. -/
def piece (v l t f : Nat) : Nat := (v / 2 ^ l % 256 * 2 ^ (8 - t) % 256) / 2 ^ (8 - f)
theorem piece_lt (v l t f : Nat) : piece v l t f < 256 := by
  unfold piece
  exact Nat.lt_of_le_of_lt (Nat.div_le_self _ _) (Nat.mod_lt _ (by decide))
theorem piece_bit (v l t f : Nat) (ht : t ≤ f) (hf : f ≤ 8) (ht1 : 1 ≤ t) (k : Nat) (hk : k < 8) :
    (piece v l t f).testBit (7 - k) = (decide (8 - f ≤ k ∧ k < 8 - f + t) && v.testBit (l + (t - 1 - (k - (8 - f))))) := by
  unfold piece
  rw [show (256 : Nat) = 2 ^ 8 from rfl, ← Nat.shiftRight_eq_div_pow, Nat.testBit_shiftRight, Nat.testBit_mod_two_pow, ← Nat.shiftLeft_eq, Nat.testBit_shiftLeft, Nat.testBit_mod_two_pow, ← Nat.shiftRight_eq_div_pow, Nat.testBit_shiftRight]
  by_cases h : 8 - f ≤ k ∧ k < 8 - f + t
  · rw [decide_eq_true h, decide_eq_true (show 8 - f + (7 - k) < 8 by omega), decide_eq_true (show 8 - t ≤ 8 - f + (7 - k) by omega), decide_eq_true (show 8 - f + (7 - k) - (8 - t) < 8 by omega)]
    simp only [Bool.true_and]
    congr 1
    omega
  · rw [decide_eq_false h]
    by_cases h2 : 8 - f ≤ k
    · rw [decide_eq_false (show ¬ 8 - t ≤ 8 - f + (7 - k) by omega)]
      simp
    · rw [decide_eq_false (show ¬ 8 - f + (7 - k) < 8 by omega)]
      simp

/-- A round of Put. -/
theorem put_round {bs : List Nat} {β : Nat → Bool} {m v N l t f j : Nat} (h : Has bs (put β m v N l)) (hl : bs.length = j + 1) (hf : 8 * bs.length = m + (N - l) + f) (hf8 : f ≤ 8) (hlN : l ≤ N)
    (ht : t ≤ f) (htl : t ≤ l) (ht1 : 1 ≤ t) : Has (bs.set j (bs.getD j 0 ||| piece v (l - t) t f)) (put β m v N (l - t)) := by
  refine h.set (Nat.or_lt_two_pow (n := 8) (getD_lt h.1 j) (piece_lt _ _ _ _)) (by omega) (fun i hi hij => ?_) (fun k hk => ?_)
  · unfold put
    split
    · rfl
    · rw [if_pos (by omega), if_pos (by omega)]
  · rw [Nat.testBit_or, h.2 j k (by omega) hk, piece_bit v (l - t) t f ht hf8 ht1 k hk]
    unfold put
    by_cases h1 : 8 * j + k < m
    · rw [if_pos h1, if_pos h1, decide_eq_false (by omega)]; simp
    · rw [if_neg h1, if_neg h1]
      by_cases h2 : 8 * j + k < m + (N - l)
      · rw [if_pos h2, if_pos (by omega), decide_eq_false (by omega)]; simp
      · rw [if_neg h2]
        by_cases h3 : 8 * j + k < m + (N - (l - t))
        · rw [if_pos h3, decide_eq_true (by omega)]
          simp only [Bool.false_or, Bool.true_and]
          congr 1
          omega
        · rw [if_neg h3, decide_eq_false (by omega)]; simp

/-- The number of the bits from a on, n of them. -/
def num (β : Nat → Bool) (a : Nat) : Nat → Nat
  | 0 => 0
  | n + 1 => 2 * num β a n + b2n (β (a + n))
theorem num_lt (β : Nat → Bool) (a n : Nat) : num β a n < 2 ^ n := by
  induction n with
  | zero => simp [num]
  | succ n ih => have := b2n_le (β (a + n)); rw [Nat.pow_succ]; simp only [num]; omega
theorem num_congr {β γ : Nat → Bool} {a b n : Nat} (h : ∀ i, i < n → β (a + i) = γ (b + i)) : num β a n = num γ b n := by
  induction n with
  | zero => rfl
  | succ n ih => simp only [num]; rw [ih (fun i hi => h i (by omega)), h n (by omega)]
theorem num_add (β : Nat → Bool) (a m n : Nat) : num β a (m + n) = num β a m * 2 ^ n + num β (a + m) n := by
  induction n with
  | zero => simp [num]
  | succ n ih => rw [← Nat.add_assoc]; simp only [num]; rw [ih, Nat.pow_succ, show a + (m + n) = a + m + n from by omega, Nat.mul_add, ← Nat.mul_assoc, Nat.mul_comm 2, Nat.mul_assoc, Nat.mul_comm 2, Nat.mul_comm 2]; omega
/-- The number of n bits of v is what v leaves. -/
theorem num_of (v : Nat) (β : Nat → Bool) (a n : Nat) (h : ∀ i, i < n → β (a + i) = v.testBit (n - 1 - i)) : num β a n = v % 2 ^ n := by
  induction n generalizing v with
  | zero => simp [num, Nat.mod_one]
  | succ n ih =>
    simp only [num]
    rw [ih (v / 2) (fun i hi => by rw [h i (by omega), show n + 1 - 1 - i = (n - 1 - i) + 1 from by omega, Nat.testBit_succ]), h n (by omega)]
    rw [show n + 1 - 1 - n = 0 from by omega, Nat.pow_succ]
    have e : b2n (v.testBit 0) = v % 2 := by rw [Nat.testBit_zero]; unfold b2n; split <;> rename_i h0 <;> simp at h0 <;> omega
    rw [e]
    have h1 := Nat.mod_mul (a := 2) (b := 2 ^ n) (x := v)
    rw [Nat.mul_comm (2 ^ n) 2, h1]
    omega
/-- What Get takes out of one byte. -/
theorem byte_num {bs : List Nat} {β : Nat → Bool} (h : Has bs β) {j u t : Nat} (hj : j < bs.length) (hu : u + t ≤ 8) (ht : 1 ≤ t) :
    (bs.getD j 0 * 2 ^ u % 256) / 2 ^ (8 - t) = num β (8 * j + u) t := by
  have hb := getD_lt h.1 j
  have e1 : num β (8 * j + u) t = (bs.getD j 0 / 2 ^ (8 - u - t)) % 2 ^ t := by
    refine num_of _ _ _ _ fun i hi => ?_
    rw [← Nat.shiftRight_eq_div_pow, Nat.testBit_shiftRight, show 8 - u - t + (t - 1 - i) = 7 - (u + i) from by omega, h.2 j (u + i) hj (by omega), Nat.add_assoc]
  rw [e1]
  apply Nat.eq_of_testBit_eq
  intro i
  rw [show (256 : Nat) = 2 ^ 8 from rfl, ← Nat.shiftRight_eq_div_pow, Nat.testBit_shiftRight, Nat.testBit_mod_two_pow, ← Nat.shiftLeft_eq, Nat.testBit_shiftLeft, Nat.testBit_mod_two_pow, ← Nat.shiftRight_eq_div_pow, Nat.testBit_shiftRight]
  by_cases hi : i < t
  · rw [decide_eq_true (show 8 - t + i < 8 by omega), decide_eq_true (show u ≤ 8 - t + i by omega), decide_eq_true hi]
    simp only [Bool.true_and]
    congr 1
    omega
  · rw [decide_eq_false (show ¬ 8 - t + i < 8 by omega), decide_eq_false hi]; simp
end Bm
end Go.Proofs.YtjmddomkoholoaaGreatDoor

/- Words of numbers: plain mathematics. -/
namespace Go.Proofs.YtjmddomkoholoaaGreatDoor
namespace Mt
open Bm

def W : Nat → Nat
  | 0 => 1 | 1 => 2 | 2 => 3 | 3 => 4 | 4 => 5 | 5 => 6 | 6 => 7 | 7 => 8 | 8 => 10 | 9 => 12 | 10 => 15 | 11 => 20 | 12 => 30 | _ => 60
def cap (s : Nat) : Nat := 60 / W s
theorem W_pos (s : Nat) : 1 ≤ W s := by unfold W; split <;> decide
theorem W_le (s : Nat) : W s ≤ 60 := by unfold W; split <;> decide
theorem cap_pos (s : Nat) : 1 ≤ cap s := Nat.div_pos (W_le s) (W_pos s)
theorem cap_le (s : Nat) : cap s ≤ 60 := Nat.div_le_self _ _
theorem cap_mul (s : Nat) : cap s * W s ≤ 60 := Nat.div_mul_le_self _ _
theorem W_top : W 13 = 60 := rfl
theorem cap_top : cap 13 = 1 := rfl
theorem W_mono {s t : Nat} (h : s ≤ t) (ht : t ≤ 13) : W s ≤ W t := by
  have : ∀ t : Fin 14, ∀ s : Fin 14, s.1 ≤ t.1 → W s.1 ≤ W t.1 := by decide
  exact this ⟨t, by omega⟩ ⟨s, by omega⟩ h

/-- The next numbers have no more bits than the width of s. -/
def Fit (l : List Nat) (s : Nat) : Prop := ∀ i, i < min (cap s) l.length → l.getD i 0 < 2 ^ W s
instance (l : List Nat) (s : Nat) : Decidable (Fit l s) := by unfold Fit; exact inferInstance
def leastFrom (l : List Nat) : Nat → Nat → Nat
  | 0, s => s
  | n + 1, s => if Fit l s then s else leastFrom l n (s + 1)
def least (l : List Nat) : Nat := leastFrom l 13 0
theorem leastFrom_eq {l : List Nat} {s : Nat} (h : Fit l s) : ∀ n k, k ≤ s → s ≤ k + n → (∀ t, k ≤ t → t < s → ¬ Fit l t) → leastFrom l n k = s := by
  intro n
  induction n with
  | zero => intro k h1 h2 _; simp only [leastFrom]; omega
  | succ n ih =>
    intro k h1 h2 h3
    simp only [leastFrom]
    by_cases e : k = s
    · subst e; rw [if_pos h]
    · rw [if_neg (h3 k (Nat.le_refl _) (by omega))]
      exact ih (k + 1) (by omega) (by omega) (fun t ht hs => h3 t (by omega) hs)
theorem least_eq {l : List Nat} {s : Nat} (h : Fit l s) (hs : s ≤ 13) (hn : ∀ t, t < s → ¬ Fit l t) : least l = s :=
  leastFrom_eq h 13 0 (Nat.zero_le _) (by omega) (fun t _ ht => hn t ht)
def Small (l : List Nat) : Prop := ∀ v ∈ l, v < 2 ^ 60
theorem Small.get {l : List Nat} (h : Small l) (i : Nat) : l.getD i 0 < 2 ^ 60 := by
  by_cases hi : i < l.length
  · rw [List.getD_eq_getElem?_getD, List.getElem?_eq_getElem hi]; exact h _ (List.getElem_mem hi)
  · rw [List.getD_eq_getElem?_getD, List.getElem?_eq_none (by omega)]; decide
theorem Small.fit {l : List Nat} (h : Small l) : Fit l 13 := fun i _ => h.get i
theorem Small.drop {l : List Nat} (h : Small l) (n : Nat) : Small (l.drop n) := fun v hv => h v (List.mem_of_mem_drop hv)
theorem least_of {l : List Nat} (h : Small l) : Fit l (least l) ∧ least l ≤ 13 ∧ ∀ t, t < least l → ¬ Fit l t := by
  have key : ∀ n s, (∀ t, t < s → ¬ Fit l t) → s + n = 13 → ∃ s', Fit l s' ∧ s' ≤ 13 ∧ ∀ t, t < s' → ¬ Fit l t := by
    intro n
    induction n with
    | zero => intro s h1 h2; exact ⟨s, by rw [show s = 13 from by omega]; exact h.fit, by omega, h1⟩
    | succ n ih =>
      intro s h1 h2
      by_cases hf : Fit l s
      · exact ⟨s, hf, by omega, h1⟩
      · refine ih (s + 1) (fun t ht => ?_) (by omega)
        by_cases e : t = s
        · subst e; exact hf
        · exact h1 t (by omega)
  obtain ⟨s, h1, h2, h3⟩ := key 13 0 (fun t ht => by omega) (by omega)
  rw [least_eq h1 h2 h3]
  exact ⟨h1, h2, h3⟩

/-- The first k numbers in a word's room. -/
def laid (w : Nat) (l : List Nat) : Nat → Nat
  | 0 => 0
  | k + 1 => laid w l k + l.getD k 0 * 2 ^ (k * w)
theorem laid_lt {w : Nat} {l : List Nat} (k : Nat) (h : ∀ i, i < k → l.getD i 0 < 2 ^ w) : laid w l k < 2 ^ (k * w) := by
  induction k with
  | zero => simp [laid]
  | succ k ih =>
    have h1 := ih (fun i hi => h i (by omega))
    have h2 := h k (by omega)
    have h3 : (l.getD k 0 + 1) * 2 ^ (k * w) ≤ 2 ^ w * 2 ^ (k * w) := Nat.mul_le_mul_right _ h2
    rw [show (k + 1) * w = w + k * w from by rw [Nat.add_mul]; omega, Nat.pow_add]
    simp only [laid]
    rw [Nat.add_mul] at h3
    omega
theorem laid_or {w : Nat} {l : List Nat} (k : Nat) (h : ∀ i, i < k → l.getD i 0 < 2 ^ w) : laid w l k ||| l.getD k 0 * 2 ^ (k * w) = laid w l (k + 1) := by
  simp only [laid]
  rw [Nat.mul_comm (l.getD k 0), Nat.add_comm, Nat.two_pow_add_eq_or_of_lt (laid_lt k h), Nat.or_comm]
theorem laid_split {w : Nat} {l : List Nat} (i k : Nat) (h : i < k) : ∃ q, laid w l k = laid w l i + 2 ^ (i * w) * (l.getD i 0 + 2 ^ w * q) := by
  induction k with
  | zero => omega
  | succ k ih =>
    by_cases e : i = k
    · subst e; exact ⟨0, by simp only [laid]; rw [Nat.mul_zero, Nat.add_zero, Nat.mul_comm]⟩
    · obtain ⟨q, hq⟩ := ih (by omega)
      refine ⟨q + l.getD k 0 * 2 ^ ((k - i - 1) * w), ?_⟩
      simp only [laid]
      rw [hq, show k * w = i * w + (w + (k - i - 1) * w) from by
        rw [show w + (k - i - 1) * w = (1 + (k - i - 1)) * w from by rw [Nat.add_mul, Nat.one_mul], ← Nat.add_mul]; congr 1; omega, Nat.pow_add, Nat.pow_add]
      generalize 2 ^ (i * w) = A
      generalize 2 ^ w = B
      generalize 2 ^ ((k - i - 1) * w) = C
      generalize l.getD k 0 = D
      generalize l.getD i 0 = E
      rw [Nat.mul_add, Nat.mul_add B, Nat.mul_add A E, Nat.mul_add A (B * q)]
      rw [show D * (A * (B * C)) = A * (B * (D * C)) from by
        rw [Nat.mul_left_comm D A, Nat.mul_left_comm D B]]
      omega
theorem laid_get {w : Nat} {l : List Nat} {s k : Nat} (h : ∀ i, i < k → l.getD i 0 < 2 ^ w) (hk : k * w ≤ 60) (i : Nat) (hi : i < k) : (s * 2 ^ 60 + laid w l k) / 2 ^ (i * w) % 2 ^ w = l.getD i 0 := by
  obtain ⟨q, hq⟩ := laid_split (w := w) (l := l) i k hi
  have h1 := laid_lt i (fun j hj => h j (by omega : j < k))
  have h2 : (i + 1) * w ≤ k * w := Nat.mul_le_mul_right _ hi
  rw [Nat.add_mul, Nat.one_mul] at h2
  rw [hq, show (60 : Nat) = i * w + (w + (60 - i * w - w)) from by omega, Nat.pow_add, Nat.pow_add]
  generalize hA : 2 ^ (i * w) = A at *
  have hB := h i hi
  have hA0 : 0 < A := by rw [← hA]; exact Nat.two_pow_pos _
  generalize 2 ^ w = B at *
  generalize 2 ^ (60 - i * w - w) = C
  rw [show s * (A * (B * C)) + (laid w l i + A * (l.getD i 0 + B * q)) = laid w l i + A * (l.getD i 0 + B * (q + s * C)) from by
    rw [Nat.mul_add B, Nat.mul_add A, Nat.mul_add A, Nat.mul_add A, show s * (A * (B * C)) = A * (B * (s * C)) from by rw [Nat.mul_left_comm s A, Nat.mul_left_comm s B]]; omega]
  rw [Nat.add_mul_div_left _ _ hA0, Nat.div_eq_of_lt h1, Nat.zero_add, Nat.add_mul_mod_self_left, Nat.mod_eq_of_lt hB]

/-- How many numbers the next word takes. -/
def took (l : List Nat) : Nat := min (cap (least l)) l.length
def word (l : List Nat) : Nat := least l * 2 ^ 60 + laid (W (least l)) l (took l)
def wordsN : Nat → List Nat → List Nat
  | 0, _ => []
  | n + 1, l => if l.length = 0 then [] else word l :: wordsN n (l.drop (took l))
def words (l : List Nat) : List Nat := wordsN l.length l
theorem took_pos {l : List Nat} (h : 0 < l.length) : 1 ≤ took l := by unfold took; have := cap_pos (least l); omega
theorem took_le (l : List Nat) : took l ≤ l.length := by unfold took; omega
theorem took_cap (l : List Nat) : took l ≤ cap (least l) := by unfold took; omega
theorem wordsN_eq : ∀ n l, l.length ≤ n → wordsN n l = wordsN l.length l := by
  intro n
  induction n using Nat.strongRecOn with
  | _ n ih =>
    intro l hl
    cases n with
    | zero => rw [show l.length = 0 from by omega]
    | succ n =>
      by_cases h0 : l.length = 0
      · rw [h0]; simp only [wordsN]; rw [if_pos h0]
      · obtain ⟨m, hm⟩ : ∃ m, l.length = m + 1 := ⟨l.length - 1, by omega⟩
        have h1 := took_pos (l := l) (by omega)
        rw [hm]
        simp only [wordsN]
        rw [if_neg h0, if_neg h0]
        congr 1
        have hd : (l.drop (took l)).length ≤ m := by rw [List.length_drop]; omega
        rw [ih n (by omega) _ (by omega), ← ih m (by omega) _ hd]
theorem words_nil {l : List Nat} (h : l.length = 0) : words l = [] := by unfold words; rw [h]; rfl
theorem words_cons {l : List Nat} (h : 0 < l.length) : words l = word l :: words (l.drop (took l)) := by
  have h1 := took_pos h
  obtain ⟨m, hm⟩ : ∃ m, l.length = m + 1 := ⟨l.length - 1, by omega⟩
  conv => lhs; unfold words
  rw [hm]
  simp only [wordsN]
  rw [if_neg (by omega)]
  congr 1
  rw [wordsN_eq m _ (by rw [List.length_drop]; omega)]
  rfl
theorem words_len (l : List Nat) : (words l).length ≤ l.length := by
  induction h : l.length using Nat.strongRecOn generalizing l with
  | _ n ih =>
    by_cases h0 : l.length = 0
    · rw [words_nil h0]; simp
    · have h1 := took_pos (l := l) (by omega)
      rw [words_cons (by omega), List.length_cons]
      have := ih (l.drop (took l)).length (by rw [List.length_drop]; omega) _ rfl
      rw [List.length_drop] at this
      omega
theorem room_lt {l : List Nat} (h : Small l) : laid (W (least l)) l (took l) < 2 ^ 60 := by
  have h1 := laid_lt (w := W (least l)) (l := l) (took l) (fun i hi => (least_of h).1 i hi)
  have h2 := cap_mul (least l)
  have h3 : took l * W (least l) ≤ cap (least l) * W (least l) := Nat.mul_le_mul_right _ (took_cap l)
  exact Nat.lt_of_lt_of_le h1 (Nat.pow_le_pow_right (by decide) (by omega))
theorem word_code {l : List Nat} (h : Small l) : word l / 2 ^ 60 = least l := by
  have := room_lt h
  unfold word
  omega
theorem word_lt {l : List Nat} (h : Small l) : word l < 2 ^ 64 := by
  have h1 := room_lt h
  have h2 := (least_of h).2.1
  unfold word
  omega

/-- A word's bytes, the highest first. -/
def eight (x : Nat) : List Nat := [x / 2 ^ 56 % 256, x / 2 ^ 48 % 256, x / 2 ^ 40 % 256, x / 2 ^ 32 % 256, x / 2 ^ 24 % 256, x / 2 ^ 16 % 256, x / 2 ^ 8 % 256, x % 256]
theorem eight_len (x : Nat) : (eight x).length = 8 := rfl
def flat : List Nat → List Nat
  | [] => []
  | x :: r => eight x ++ flat r
theorem flat_len (ws : List Nat) : (flat ws).length = 8 * ws.length := by
  induction ws with
  | nil => rfl
  | cons x r ih => simp [flat, eight_len, ih]; omega
theorem flat_append (a b : List Nat) : flat (a ++ b) = flat a ++ flat b := by
  induction a with
  | nil => rfl
  | cons x r ih => simp [flat, ih]
theorem flat_snoc (a : List Nat) (x : Nat) : flat (a ++ [x]) = flat a ++ eight x := by rw [flat_append]; simp [flat]
theorem eight_lt (x : Nat) : ∀ b ∈ eight x, b < 256 := by
  intro b hb
  simp only [eight, List.mem_cons, List.not_mem_nil, or_false] at hb
  omega
theorem flat_lt (ws : List Nat) : ∀ b ∈ flat ws, b < 256 := by
  induction ws with
  | nil => simp [flat]
  | cons x r ih =>
    intro b hb
    rcases List.mem_append.1 hb with hb | hb
    · exact eight_lt x b hb
    · exact ih b hb
theorem eight_bit (x j k : Nat) (hj : j < 8) (hk : k < 8) : ((eight x).getD j 0).testBit (7 - k) = x.testBit (63 - (8 * j + k)) := by
  have e : (eight x).getD j 0 = x / 2 ^ (56 - 8 * j) % 2 ^ 8 := by
    have : j = 0 ∨ j = 1 ∨ j = 2 ∨ j = 3 ∨ j = 4 ∨ j = 5 ∨ j = 6 ∨ j = 7 := by omega
    rcases this with rfl | rfl | rfl | rfl | rfl | rfl | rfl | rfl <;> simp [eight]
  rw [e, Nat.testBit_mod_two_pow, ← Nat.shiftRight_eq_div_pow, Nat.testBit_shiftRight, decide_eq_true (show 7 - k < 8 by omega), Bool.true_and]
  congr 1
  omega
/-- The bits of words. -/
def wb (ws : List Nat) : Nat → Bool := fun i => (ws.getD (i / 64) 0).testBit (63 - i % 64)
theorem flat_has (ws : List Nat) : Has (flat ws) (wb ws) := by
  refine ⟨flat_lt ws, ?_⟩
  induction ws with
  | nil => intro j k hj; simp [flat] at hj
  | cons x r ih =>
    intro j k hj hk
    simp only [flat]
    by_cases h : j < 8
    · rw [List.getD_eq_getElem?_getD, List.getElem?_append_left (by rw [eight_len]; omega), ← List.getD_eq_getElem?_getD, eight_bit x j k h hk]
      unfold wb
      rw [show (8 * j + k) / 64 = 0 from by omega, show (8 * j + k) % 64 = 8 * j + k from by omega]
      rfl
    · rw [flat_len, List.length_cons] at hj
      rw [List.getD_eq_getElem?_getD, List.getElem?_append_right (by rw [eight_len]; omega), ← List.getD_eq_getElem?_getD, eight_len, ih (j - 8) k (by rw [flat_len]; omega) hk]
      unfold wb
      rw [show (8 * j + k) / 64 = (8 * (j - 8) + k) / 64 + 1 from by omega, show (8 * j + k) % 64 = (8 * (j - 8) + k) % 64 from by omega]
      rfl
/-- A word put as its code and its room. -/
theorem put_word {β : Nat → Bool} {ws : List Nat} {c r : Nat} (h : ∀ i, i < 64 * ws.length → β i = wb ws i) (hr : r < 2 ^ 60) (i : Nat) (hi : i < 64 * (ws.length + 1)) :
    put (put β (64 * ws.length) c 4 0) (64 * ws.length + 4) r 60 0 i = wb (ws ++ [c * 2 ^ 60 + r]) i := by
  unfold put
  by_cases h1 : i < 64 * ws.length
  · rw [if_pos (by omega), if_pos h1, h i h1]
    unfold wb
    rw [List.getD_eq_getElem?_getD, List.getD_eq_getElem?_getD, List.getElem?_append_left (by omega)]
  · have e : wb (ws ++ [c * 2 ^ 60 + r]) i = (c * 2 ^ 60 + r).testBit (63 - (i - 64 * ws.length)) := by
      unfold wb
      rw [show i / 64 = ws.length from by omega, show i % 64 = i - 64 * ws.length from by omega]
      simp
    rw [e, Nat.mul_comm c, Nat.testBit_two_pow_mul_add c hr]
    by_cases h2 : i < 64 * ws.length + 4
    · rw [if_pos h2, if_neg h1, if_pos (by omega), if_neg (by omega)]
      congr 1
      omega
    · rw [if_neg h2, if_pos (by omega), if_pos (by omega)]
      congr 1
      omega

/-- The first k numbers of a word. -/
def outs (w x : Nat) : Nat → List Nat
  | 0 => []
  | k + 1 => outs w x k ++ [x / 2 ^ (k * w) % 2 ^ w]
theorem outs_len (w x k : Nat) : (outs w x k).length = k := by
  induction k with
  | zero => rfl
  | succ k ih => simp [outs, ih]
theorem outs_lt (w x k : Nat) : ∀ v ∈ outs w x k, v < 2 ^ w := by
  induction k with
  | zero => simp [outs]
  | succ k ih =>
    intro v hv
    rcases List.mem_append.1 hv with hv | hv
    · exact ih v hv
    · simp at hv; rw [hv]; exact Nat.mod_lt _ (Nat.two_pow_pos _)
def room (s n a : Nat) : Nat := min (cap s) (n - a)
def reads (n : Nat) : List Nat → List Nat → Option (List Nat)
  | acc, [] => some acc
  | acc, x :: r => if 13 < x / 2 ^ 60 then none else reads n (acc ++ outs (W (x / 2 ^ 60)) x (room (x / 2 ^ 60) n acc.length)) r
theorem reads_snoc (n : Nat) (a : List Nat) (ws : List Nat) (x : Nat) : reads n a (ws ++ [x]) = (reads n a ws).bind (fun b => reads n b [x]) := by
  induction ws generalizing a with
  | nil => rfl
  | cons y r ih =>
    simp only [List.cons_append, reads]
    split
    · rfl
    · rw [ih]; rfl
theorem reads_small {n : Nat} {a b : List Nat} {ws : List Nat} (h : reads n a ws = some b) (ha : Small a) : Small b := by
  induction ws generalizing a with
  | nil => simp only [reads, Option.some.injEq] at h; rw [← h]; exact ha
  | cons y r ih =>
    simp only [reads] at h
    split at h
    · cases h
    · refine ih h fun v hv => ?_
      rcases List.mem_append.1 hv with hv | hv
      · exact ha v hv
      · exact Nat.lt_of_lt_of_le (outs_lt _ _ _ v hv) (Nat.pow_le_pow_right (by decide) (W_le _))
theorem reads_len {n : Nat} {a b : List Nat} {ws : List Nat} (h : reads n a ws = some b) : b.length ≤ a.length + 60 * ws.length := by
  induction ws generalizing a with
  | nil => simp only [reads, Option.some.injEq] at h; rw [← h]; omega
  | cons y r ih =>
    simp only [reads] at h
    split at h
    · cases h
    · have := ih h
      rw [List.length_append, outs_len] at this
      have h2 := cap_le (y / 2 ^ 60)
      unfold room at this
      simp only [List.length_cons]
      omega
theorem reads_le {n : Nat} {a b : List Nat} {ws : List Nat} (h : reads n a ws = some b) (ha : a.length ≤ n) : b.length ≤ n := by
  induction ws generalizing a with
  | nil => simp only [reads, Option.some.injEq] at h; rw [← h]; omega
  | cons y r ih =>
    simp only [reads] at h
    split at h
    · cases h
    · refine ih h ?_
      rw [List.length_append, outs_len]
      unfold room
      omega
theorem outs_take {l : List Nat} (h : Small l) (k : Nat) (hk : k ≤ took l) : outs (W (least l)) (word l) k = l.take k := by
  induction k with
  | zero => simp [outs]
  | succ k ih =>
    have ht := took_le l
    simp only [outs]
    rw [ih (by omega), List.take_add_one]
    unfold word
    rw [laid_get (k := took l) (fun i hi => (least_of h).1 i hi) (Nat.le_trans (Nat.mul_le_mul_right _ (took_cap l)) (cap_mul _)) k (by omega)]
    rw [List.getD_eq_getElem?_getD, List.getElem?_eq_getElem (show k < l.length by omega)]
    rfl
/-- What was packed is read as it was. -/
theorem reads_words {l : List Nat} (h : Small l) (n : Nat) (a : List Nat) (hn : n = a.length + l.length) : reads n a (words l) = some (a ++ l) := by
  induction hl : l.length using Nat.strongRecOn generalizing l a with
  | _ m ih =>
    by_cases h0 : l.length = 0
    · rw [words_nil h0, List.length_eq_zero_iff.1 h0]; simp [reads]
    · have h1 := took_pos (l := l) (by omega)
      have h2 := took_le l
      rw [words_cons (by omega)]
      simp only [reads]
      rw [word_code h, if_neg (by have := (least_of h).2.1; omega)]
      rw [show room (least l) n a.length = took l from by unfold room took; omega, outs_take h _ (Nat.le_refl _)]
      rw [ih (l.drop (took l)).length (by rw [List.length_drop]; omega) (h.drop _) _ (by rw [List.length_append, List.length_take, List.length_drop]; omega) rfl]
      rw [List.append_assoc, List.take_append_drop]

/-- The words of bytes. -/
def num8 (bs : List Nat) (j : Nat) : Nat :=
  ((((((bs.getD j 0 * 256 + bs.getD (j + 1) 0) * 256 + bs.getD (j + 2) 0) * 256 + bs.getD (j + 3) 0) * 256 + bs.getD (j + 4) 0) * 256 + bs.getD (j + 5) 0) * 256 + bs.getD (j + 6) 0) * 256 + bs.getD (j + 7) 0
def wordsOf (bs : List Nat) : Nat → List Nat
  | 0 => []
  | k + 1 => wordsOf bs k ++ [num8 bs (8 * k)]
theorem wordsOf_len (bs : List Nat) (k : Nat) : (wordsOf bs k).length = k := by
  induction k with
  | zero => rfl
  | succ k ih => simp [wordsOf, ih]
theorem num8_lt {bs : List Nat} (h : ∀ b ∈ bs, b < 256) (j : Nat) : num8 bs j < 2 ^ 64 := by
  unfold num8
  have h0 := getD_lt h j
  have h1 := getD_lt h (j + 1)
  have h2 := getD_lt h (j + 2)
  have h3 := getD_lt h (j + 3)
  have h4 := getD_lt h (j + 4)
  have h5 := getD_lt h (j + 5)
  have h6 := getD_lt h (j + 6)
  have h7 := getD_lt h (j + 7)
  omega
theorem num8_eight (a b : List Nat) (x : Nat) (hx : x < 2 ^ 64) : num8 (a ++ eight x ++ b) a.length = x := by
  have e : ∀ j, j < 8 → (a ++ eight x ++ b).getD (a.length + j) 0 = (eight x).getD j 0 := by
    intro j hj
    rw [List.getD_eq_getElem?_getD, List.append_assoc, List.getElem?_append_right (by omega), List.getElem?_append_left (by rw [eight_len]; omega), ← List.getD_eq_getElem?_getD]
    congr 1
    omega
  have e0 : (a ++ eight x ++ b).getD a.length 0 = (eight x).getD 0 0 := e 0 (by omega)
  unfold num8
  rw [e0, e 1 (by omega), e 2 (by omega), e 3 (by omega), e 4 (by omega), e 5 (by omega), e 6 (by omega), e 7 (by omega)]
  simp only [eight, List.getD_cons_zero, List.getD_cons_succ]
  omega
theorem wordsOf_flat (ws : List Nat) (h : ∀ x ∈ ws, x < 2 ^ 64) : wordsOf (flat ws) ws.length = ws := by
  have key : ∀ k, k ≤ ws.length → wordsOf (flat ws) k = ws.take k := by
    intro k
    induction k with
    | zero => intro _; simp [wordsOf]
    | succ k ih =>
      intro hk
      simp only [wordsOf]
      rw [ih (by omega), List.take_add_one, List.getElem?_eq_getElem (show k < ws.length by omega)]
      congr 1
      have hs : ws = ws.take k ++ ws[k] :: ws.drop (k + 1) := by rw [List.getElem_cons_drop, List.take_append_drop]
      have hf : flat ws = flat (ws.take k) ++ eight ws[k] ++ flat (ws.drop (k + 1)) := by
        conv => lhs; rw [hs]
        rw [flat_append]; simp [flat]
      have hl : (flat (ws.take k)).length = 8 * k := by rw [flat_len, List.length_take]; omega
      rw [hf, ← hl, num8_eight _ _ _ (h _ (List.getElem_mem _))]
      rfl
  rw [key _ (Nat.le_refl _), List.take_length]
theorem words_lt {l : List Nat} (h : Small l) : ∀ x ∈ words l, x < 2 ^ 64 := by
  induction hl : l.length using Nat.strongRecOn generalizing l with
  | _ m ih =>
    by_cases h0 : l.length = 0
    · rw [words_nil h0]; simp
    · have h1 := took_pos (l := l) (by omega)
      rw [words_cons (by omega)]
      intro x hx
      rcases List.mem_cons.1 hx with rfl | hx
      · exact word_lt h
      · exact ih (l.drop (took l)).length (by rw [List.length_drop]; omega) (h.drop _) rfl x hx

/-- The bytes of a list. -/
def packs (l : List Nat) : List Nat := flat (words l)
theorem packs_len (l : List Nat) : (packs l).length = 8 * (words l).length := flat_len _
/-- The list whose bytes these are. -/
def unpacks (bs : List Nat) (n : Int) : Option (List Nat) :=
  if bs.length % 8 = 0 ∧ 0 ≤ n then (reads n.toNat [] (wordsOf bs (bs.length / 8))).bind (fun l => if (l.length : Int) = n ∧ packs l = bs then some l else none) else none
theorem small_nil : Small [] := fun v hv => by simp at hv
/-- The program's way. -/
def got (bs : List Nat) (n : Int) : List Nat := if ((bs.length / 8 * 60 : Nat) : Int) < n then [] else (reads n.toNat [] (wordsOf bs (bs.length / 8))).getD []
theorem got_small (bs : List Nat) (n : Int) : Small (got bs n) := by
  unfold got
  split
  · exact small_nil
  · cases h : reads n.toNat [] (wordsOf bs (bs.length / 8)) with
    | none => exact small_nil
    | some b => exact reads_small h small_nil
theorem packs_nil : packs [] = [] := rfl
theorem got_unpacks (bs : List Nat) (n : Int) : (if ((got bs n).length : Int) = n ∧ packs (got bs n) = bs then some (got bs n) else none) = unpacks bs n := by
  unfold unpacks
  by_cases h8 : bs.length % 8 = 0 ∧ 0 ≤ n
  · rw [if_pos h8]
    cases h : reads n.toNat [] (wordsOf bs (bs.length / 8)) with
    | none =>
      have e : got bs n = [] := by unfold got; rw [h]; split <;> rfl
      rw [e, packs_nil]
      simp only [Option.bind_none]
      refine if_neg fun ⟨_, k⟩ => ?_
      rw [← k] at h
      simp [wordsOf, reads] at h
    | some b =>
      have hl := reads_len h
      rw [wordsOf_len] at hl
      simp only [Option.bind_some]
      by_cases hn : ((bs.length / 8 * 60 : Nat) : Int) < n
      · have e : got bs n = [] := by unfold got; rw [if_pos hn]
        rw [e]
        simp only [List.length_nil] at hl ⊢
        rw [if_neg (by omega), if_neg (by omega)]
      · have e : got bs n = b := by unfold got; rw [if_neg hn, h]; rfl
        rw [e]
  · rw [if_neg h8]
    refine if_neg fun ⟨k1, k2⟩ => h8 ?_
    refine ⟨?_, by omega⟩
    rw [← k2, packs_len]
    omega
theorem unpacks_packs {l : List Nat} (h : Small l) : unpacks (packs l) (l.length : Int) = some l := by
  unfold unpacks
  rw [if_pos ⟨by rw [packs_len]; omega, by omega⟩, packs_len, show 8 * (words l).length / 8 = (words l).length from by omega]
  unfold packs
  rw [wordsOf_flat _ (words_lt h), Int.toNat_natCast, reads_words h _ [] (by simp), List.nil_append]
  exact if_pos ⟨rfl, rfl⟩
end Mt
end Go.Proofs.YtjmddomkoholoaaGreatDoor

/- Reading words: plain mathematics. -/
namespace Go.Proofs.YtjmddomkoholoaaGreatDoor
namespace Mt
open Bm

/-- The bits of bytes. -/
def bb (bs : List Nat) : Nat → Bool := fun i => (bs.getD (i / 8) 0).testBit (7 - i % 8)
theorem has_bb {bs : List Nat} (h : ∀ b ∈ bs, b < 256) : Has bs (bb bs) := by
  refine ⟨h, fun j k _ hk => ?_⟩
  unfold bb
  rw [show (8 * j + k) / 8 = j from by omega, show (8 * j + k) % 8 = k from by omega]
theorem num_byte {bs : List Nat} (h : ∀ b ∈ bs, b < 256) (j : Nat) : num (bb bs) (8 * j) 8 = bs.getD j 0 := by
  rw [num_of (bs.getD j 0) (bb bs) (8 * j) 8 (fun i hi => by
    unfold bb
    rw [show (8 * j + i) / 8 = j from by omega, show (8 * j + i) % 8 = i from by omega, show 8 - 1 - i = 7 - i from by omega])]
  exact Nat.mod_eq_of_lt (getD_lt h j)
theorem num_word {bs : List Nat} (h : ∀ b ∈ bs, b < 256) (k : Nat) : num (bb bs) (64 * k) 64 = num8 bs (8 * k) := by
  have hb : ∀ t, num (bb bs) (64 * k + 8 * t) 8 = bs.getD (8 * k + t) 0 := fun t => by
    rw [show 64 * k + 8 * t = 8 * (8 * k + t) from by omega, num_byte h]
  have s : ∀ m t, m = 8 * t → num (bb bs) (64 * k) (m + 8) = num (bb bs) (64 * k) m * 256 + bs.getD (8 * k + t) 0 := fun m t e => by
    rw [num_add, e, hb]
  rw [show (64 : Nat) = 56 + 8 from rfl, s 56 7 rfl, show (56 : Nat) = 48 + 8 from rfl, s 48 6 rfl, show (48 : Nat) = 40 + 8 from rfl, s 40 5 rfl, show (40 : Nat) = 32 + 8 from rfl, s 32 4 rfl,
    show (32 : Nat) = 24 + 8 from rfl, s 24 3 rfl, show (24 : Nat) = 16 + 8 from rfl, s 16 2 rfl, show (16 : Nat) = 8 + 8 from rfl, s 8 1 rfl]
  have s0 := hb 0
  rw [Nat.mul_zero, Nat.add_zero, Nat.add_zero] at s0
  rw [s0]
  rfl
theorem num_parts {bs : List Nat} (h : ∀ b ∈ bs, b < 256) (k : Nat) : num (bb bs) (64 * k) 4 = num8 bs (8 * k) / 2 ^ 60 ∧ num (bb bs) (64 * k + 4) 60 = num8 bs (8 * k) % 2 ^ 60 := by
  have h1 := num_add (bb bs) (64 * k) 4 60
  have h2 := num_lt (bb bs) (64 * k + 4) 60
  rw [show 4 + 60 = 64 from rfl, num_word h] at h1
  rw [h1]
  omega
theorem part_eq (X q U : Nat) (h : q * U + U ≤ 60) : X % 2 ^ 60 / 2 ^ (q * U) % 2 ^ U = X / 2 ^ (q * U) % 2 ^ U := by
  apply Nat.eq_of_testBit_eq
  intro i
  rw [Nat.testBit_mod_two_pow, Nat.testBit_mod_two_pow, ← Nat.shiftRight_eq_div_pow, ← Nat.shiftRight_eq_div_pow, Nat.testBit_shiftRight, Nat.testBit_shiftRight, Nat.testBit_mod_two_pow]
  by_cases hi : i < U
  · rw [decide_eq_true hi, decide_eq_true (show q * U + i < 60 by omega)]; simp
  · rw [decide_eq_false hi]; simp
theorem reads_more {n : Nat} {bs : List Nat} {k : Nat} (h : reads n [] (wordsOf bs k) = none) : ∀ m, k ≤ m → reads n [] (wordsOf bs m) = none := by
  intro m
  induction m with
  | zero => intro hm; rw [show k = 0 from by omega] at h; exact h
  | succ m ih =>
    intro hm
    by_cases e : k = m + 1
    · rw [← e]; exact h
    · simp only [wordsOf]
      rw [reads_snoc, ih (by omega)]
      rfl
theorem reads_step {n : Nat} {bs : List Nat} {k : Nat} {L : List Nat} (h : reads n [] (wordsOf bs k) = some L) (hc : ¬ 13 < num8 bs (8 * k) / 2 ^ 60) :
    reads n [] (wordsOf bs (k + 1)) = some (L ++ outs (W (num8 bs (8 * k) / 2 ^ 60)) (num8 bs (8 * k)) (room (num8 bs (8 * k) / 2 ^ 60) n L.length)) := by
  simp only [wordsOf]
  rw [reads_snoc, h]
  simp only [Option.bind_some, reads]
  rw [if_neg hc]
theorem reads_stop {n : Nat} {bs : List Nat} {k : Nat} {L : List Nat} (h : reads n [] (wordsOf bs k) = some L) (hc : 13 < num8 bs (8 * k) / 2 ^ 60) :
    reads n [] (wordsOf bs (k + 1)) = none := by
  simp only [wordsOf]
  rw [reads_snoc, h]
  simp only [Option.bind_some, reads]
  rw [if_pos hc]
end Mt
end Go.Proofs.YtjmddomkoholoaaGreatDoor

/- Numbers with a sign and without: what the program's and the document's Zig and Zag answer. -/
namespace Go.Proofs.YtjmddomkoholoaaGreatDoor
open Go.RowKit
namespace Sz

def zig (n : Int) : Int := if n < 0 then -2 * n - 1 else 2 * n
def zag (m : Int) : Int := if m % 2 = 1 then -(m / 2) - 1 else m / 2

theorem all1 : BitVec.ofInt 64 18446744073709551615 = BitVec.allOnes 64 := by decide
theorem all1' : BitVec.ofInt 64 (-1) = BitVec.allOnes 64 := by decide
theorem max64 : IntKind.u64.max = 18446744073709551615 := by decide
theorem xor_max_nat (a : Nat) (ha : a < 18446744073709551616) : bits .xor .u64 (a : Int) 18446744073709551615 = 18446744073709551615 - (a : Int) := by
  show IntKind.u64.wrap ((BitVec.ofInt 64 (a : Int) ^^^ BitVec.ofInt 64 18446744073709551615).toNat : Int) = _
  rw [all1, BitVec.xor_allOnes, BitVec.toNat_not, ofInt_u64 a ha, IntKind.wrap_u64]
  omega
theorem xor_max (a : Int) (h1 : 0 ≤ a) (h2 : a < 18446744073709551616) : bits .xor .u64 a 18446744073709551615 = 18446744073709551615 - a := by
  obtain ⟨A, rfl⟩ := Int.eq_ofNat_of_zero_le h1
  exact xor_max_nat A (by omega)
theorem max_xor (a : Int) (h1 : 0 ≤ a) (h2 : a < 18446744073709551616) : bits .xor .u64 18446744073709551615 a = 18446744073709551615 - a := by
  rw [← xor_max a h1 h2]
  unfold bits
  simp only [BitVec.xor_comm]
theorem xor_zero (a : Int) (h1 : 0 ≤ a) (h2 : a < 18446744073709551616) : bits .xor .u64 a 0 = a := by
  obtain ⟨A, rfl⟩ := Int.eq_ofNat_of_zero_le h1
  show IntKind.u64.wrap ((BitVec.ofInt 64 (A : Int) ^^^ 0#64).toNat : Int) = _
  rw [BitVec.xor_zero, ofInt_u64 A (by omega), IntKind.wrap_u64]
  omega
theorem ixor_zero (a : Int) (h1 : 0 ≤ a) (h2 : a < 9223372036854775808) : bits .xor .i64 a 0 = a := by
  obtain ⟨A, rfl⟩ := Int.eq_ofNat_of_zero_le h1
  show IntKind.i64.wrap ((BitVec.ofInt 64 (A : Int) ^^^ 0#64).toNat : Int) = _
  rw [IntWalk.i64_left, BitVec.xor_zero, ofInt_u64 A (by omega)]
  unfold wrap64
  omega
theorem ixor_all (a : Int) (h1 : 0 ≤ a) (h2 : a < 9223372036854775808) : bits .xor .i64 a (-1) = -a - 1 := by
  obtain ⟨A, rfl⟩ := Int.eq_ofNat_of_zero_le h1
  show IntKind.i64.wrap ((BitVec.ofInt 64 (A : Int) ^^^ BitVec.ofInt 64 (-1)).toNat : Int) = _
  rw [IntWalk.i64_left, all1', BitVec.xor_allOnes, BitVec.toNat_not, ofInt_u64 A (by omega)]
  unfold wrap64
  omega
theorem and_one (m : Int) (h1 : 0 ≤ m) (h2 : m ≤ 18446744073709551615) : bits .and .u64 m 1 = m % 2 := by
  obtain ⟨A, rfl⟩ := Int.eq_ofNat_of_zero_le h1
  have h := u64_and_nat A 1 (by omega) (by omega)
  rw [nat_mask1] at h
  simpa using h

set_option maxRecDepth 100000 in
theorem zig22 (n : Int) (h1 : -9223372036854775808 ≤ n) (h2 : n ≤ 9223372036854775807) (w : World) :
    Calls Tryz.prog 134 #[.int .i64 n] w fun e w' => e = .returned (.int .u64 (zig n)) ∧ w' = w := by
  go_enter Tryz.func134, Tryz.ntmps134
  go_wp2_with fail
  have e : bits BinOp.xor IntKind.u64 (IntKind.u64.wrap (IntKind.u64.wrap n * 2)) (IntKind.u64.wrap (n / 9223372036854775808)) = zig n := by
    simp only [IntKind.wrap_u64]
    unfold zig
    split
    · rw [show n / 9223372036854775808 % 18446744073709551616 = 18446744073709551615 from by omega, xor_max _ (by omega) (by omega)]
      omega
    · rw [show n / 9223372036854775808 % 18446744073709551616 = 0 from by omega, xor_zero _ (by omega) (by omega)]
      omega
  rw [e]
  go_ret
  exact ⟨rfl, rfl⟩

set_option maxRecDepth 100000 in
theorem zig23 (n : Int) (h1 : -9223372036854775808 ≤ n) (h2 : n ≤ 9223372036854775807) (w : World) :
    Calls Tryz.prog 96 #[.int .i64 n] w fun e w' => e = .returned (.int .u64 (zig n)) ∧ w' = w := by
  go_enter Tryz.func96, Tryz.ntmps96
  go_wp2_with fail
  · have e : IntKind.u64.wrap (IntKind.u64.wrap (bits BinOp.xor IntKind.u64 IntKind.u64.max (IntKind.u64.wrap n) * 2) + 1) = zig n := by
      simp only [IntKind.wrap_u64, max64]
      rw [max_xor _ (by omega) (by omega)]
      unfold zig
      rw [if_pos (by assumption)]
      omega
    rw [e]
    go_ret
    exact ⟨rfl, rfl⟩
  · rw [show n * 2 = zig n from by unfold zig; rw [if_neg (by omega)]; omega]
    go_ret
    exact ⟨rfl, rfl⟩

set_option maxRecDepth 100000 in
theorem zag24 (m : Int) (h1 : 0 ≤ m) (h2 : m ≤ 18446744073709551615) (w : World) :
    Calls Tryz.prog 147 #[.int .u64 m] w fun e w' => e = .returned (.int .i64 (zag m)) ∧ w' = w := by
  go_enter Tryz.func147, Tryz.ntmps147
  go_wp2_with fail
  have e : bits BinOp.xor IntKind.i64 (m / 2) (wrap64 (-wrap64 (bits BinOp.and IntKind.u64 m 1))) = zag m := by
    rw [and_one m h1 h2]
    unfold zag
    split
    · rename_i h
      rw [h, show wrap64 (-wrap64 1) = -1 from by unfold wrap64; omega, ixor_all _ (by omega) (by omega)]
    · rw [show m % 2 = 0 from by omega, show wrap64 (-wrap64 0) = 0 from by unfold wrap64; omega, ixor_zero _ (by omega) (by omega)]
  rw [e]
  go_ret
  exact ⟨rfl, rfl⟩

set_option maxRecDepth 100000 in
theorem zag25 (m : Int) (h1 : 0 ≤ m) (h2 : m ≤ 18446744073709551615) (w : World) :
    Calls Tryz.prog 95 #[.int .u64 m] w fun e w' => e = .returned (.int .i64 (zag m)) ∧ w' = w := by
  go_enter Tryz.func95, Tryz.ntmps95
  go_wp2_with fail
  · have h : m % 2 = 1 := by rename_i hm; simpa using hm
    have e : wrap64 (bits BinOp.xor IntKind.u64 IntKind.u64.max (m / 2)) = zag m := by
      simp only [max64]
      rw [max_xor _ (by omega) (by omega)]
      unfold zag wrap64
      rw [if_pos h]
      omega
    rw [e]
    go_ret
    exact ⟨rfl, rfl⟩
  · have h : ¬ m % 2 = 1 := by rename_i hm; simpa using hm
    rw [show m / 2 = zag m from by unfold zag; rw [if_neg h]]
    go_ret
    exact ⟨rfl, rfl⟩

theorem zag_zig (n : Int) (h1 : -9223372036854775808 ≤ n) (h2 : n ≤ 9223372036854775807) : zag (zig n) = n := by
  unfold zag zig; split <;> split <;> omega
theorem zig_zag (m : Int) (h1 : 0 ≤ m) (h2 : m ≤ 18446744073709551615) : zig (zag m) = m := by
  unfold zag zig; split <;> split <;> omega
theorem zig_in (n : Int) (h1 : -9223372036854775808 ≤ n) (h2 : n ≤ 9223372036854775807) : 0 ≤ zig n ∧ zig n ≤ 18446744073709551615 := by
  unfold zig; split <;> omega
theorem zag_in (m : Int) (h1 : 0 ≤ m) (h2 : m ≤ 18446744073709551615) : -9223372036854775808 ≤ zag m ∧ zag m ≤ 9223372036854775807 := by
  unfold zag; split <;> omega
end Sz
end Go.Proofs.YtjmddomkoholoaaGreatDoor
