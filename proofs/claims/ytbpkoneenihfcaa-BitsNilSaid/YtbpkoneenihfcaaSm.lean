/- Short bytes: plain mathematics. -/
import Derived.Test.YtbpkoneenihfcaaBm
namespace Go.Proofs.Ytbpkoneenihfcaa
namespace Sm

/-- The first k short bytes of n, where none of them is the last. -/
def sh (n k : Nat) : List Nat := (List.range k).map fun j => n / 128 ^ j % 128 + 128
theorem sh_len (n k : Nat) : (sh n k).length = k := by simp [sh]
theorem sh_succ (n k : Nat) : sh n (k + 1) = sh n k ++ [n / 128 ^ k % 128 + 128] := by simp [sh, List.range_succ]
/-- l are n's short bytes. -/
def IsShort (n : Nat) (l : List Nat) : Prop := ∃ k, (∀ j, j < k → 128 ≤ n / 128 ^ j) ∧ n / 128 ^ k < 128 ∧ l = sh n k ++ [n / 128 ^ k]
theorem IsShort.unique {n : Nat} {l m : List Nat} (h : IsShort n l) (h' : IsShort n m) : l = m := by
  obtain ⟨k, a, b, rfl⟩ := h
  obtain ⟨k', a', b', rfl⟩ := h'
  obtain rfl : k = k' := by
    rcases Nat.lt_trichotomy k k' with hlt | rfl | hlt
    · have := a' k hlt; omega
    · rfl
    · have := a k' hlt; omega
  rfl
theorem k_le {n k : Nat} (hn : n < 18446744073709551616) (h : ∀ j, j < k → 128 ≤ n / 128 ^ j) : k ≤ 9 := by
  by_cases hk : 9 < k
  · have h1 := h 9 hk
    have h2 : n / 128 ^ 9 < 128 := Nat.div_lt_of_lt_mul (by omega)
    omega
  · omega

/-- The number of the first k bytes, seven bits a byte. -/
def vs (b : List Nat) : Nat → Nat
  | 0 => 0
  | k + 1 => vs b k + b.getD k 0 % 128 * 128 ^ k
theorem vs_lt (b : List Nat) (k : Nat) : vs b k < 128 ^ k := by
  induction k with
  | zero => simp [vs]
  | succ k ih =>
    have h : b.getD k 0 % 128 ≤ 127 := by omega
    have h2 := Nat.mul_le_mul_right (128 ^ k) h
    rw [Nat.pow_succ]
    simp only [vs]
    omega
theorem vs_congr {a b : List Nat} {k : Nat} (h : ∀ j, j < k → a.getD j 0 = b.getD j 0) : vs a k = vs b k := by
  induction k with
  | zero => rfl
  | succ k ih => simp only [vs]; rw [ih (fun j hj => h j (by omega)), h k (by omega)]
theorem vs_split (b : List Nat) (j m : Nat) : ∃ q, vs b (j + m) = vs b j + 128 ^ j * q := by
  induction m with
  | zero => exact ⟨0, by simp⟩
  | succ m ih =>
    obtain ⟨q, hq⟩ := ih
    refine ⟨q + b.getD (j + m) 0 % 128 * 128 ^ m, ?_⟩
    rw [← Nat.add_assoc]
    simp only [vs]
    rw [hq, Nat.pow_add, Nat.mul_add, Nat.mul_left_comm, Nat.add_assoc]
/-- b's first i + 1 bytes are some number's short bytes. -/
def Good (b : List Nat) (i : Nat) : Prop :=
  i < b.length ∧ (∀ j, j < i → 128 ≤ b.getD j 0) ∧ b.getD i 0 < 128 ∧ i ≤ 9 ∧ (b.getD i 0 ≠ 0 ∨ i = 0) ∧ (i = 9 → b.getD i 0 ≤ 1)
theorem Good.unique {b : List Nat} {i j : Nat} (h : Good b i) (k : Good b j) : i = j := by
  rcases Nat.lt_trichotomy i j with hlt | rfl | hlt
  · have := k.2.1 i hlt; have := h.2.2.1; omega
  · rfl
  · have := h.2.1 j hlt; have := k.2.2.1; omega
/-- What ReadShort answers. -/
def Res (b : List Nat) (x k : Nat) : Prop := (∃ i, Good b i ∧ x = vs b (i + 1) ∧ k = i + 1) ∨ ((∀ i, ¬ Good b i) ∧ x = 0 ∧ k = 0)
theorem Res.unique {b : List Nat} {x y k j : Nat} (h : Res b x k) (h' : Res b y j) : x = y ∧ k = j := by
  rcases h with ⟨i, g, rfl, rfl⟩ | ⟨n, rfl, rfl⟩
  · rcases h' with ⟨i', g', rfl, rfl⟩ | ⟨n, _, _⟩
    · rw [g.unique g']; exact ⟨rfl, rfl⟩
    · exact absurd g (n i)
  · rcases h' with ⟨i', g', _, _⟩ | ⟨_, rfl, rfl⟩
    · exact absurd g' (n i')
    · exact ⟨rfl, rfl⟩

theorem short_get {n k j : Nat} (hj : j < k) (l : List Nat) : (sh n k ++ [n / 128 ^ k] ++ l).getD j 0 = n / 128 ^ j % 128 + 128 := by
  rw [List.getD_eq_getElem?_getD, List.append_assoc, List.getElem?_append_left (by rw [sh_len]; exact hj)]
  simp [sh, hj]
theorem short_last {n k : Nat} (l : List Nat) : (sh n k ++ [n / 128 ^ k] ++ l).getD k 0 = n / 128 ^ k := by
  rw [List.getD_eq_getElem?_getD, List.append_assoc, List.getElem?_append_right (by rw [sh_len]; exact Nat.le_refl _)]
  simp [sh_len]
/-- A number's short bytes are read back, whatever stands behind. -/
theorem short_good {n : Nat} {l : List Nat} (hn : n < 18446744073709551616) (h : IsShort n l) (b : List Nat) : Good (l ++ b) (l.length - 1) ∧ vs (l ++ b) l.length = n ∧ 1 ≤ l.length := by
  obtain ⟨k, h1, h2, rfl⟩ := h
  have hk := k_le hn h1
  have e0 : (sh n k ++ [n / 128 ^ k]).length = k + 1 := by simp [sh_len]
  rw [e0, show k + 1 - 1 = k from by omega]
  have hv : ∀ j, j ≤ k → vs (sh n k ++ [n / 128 ^ k] ++ b) j = n % 128 ^ j := by
    intro j
    induction j with
    | zero => intro _; simp [vs, Nat.mod_one]
    | succ j ih =>
      intro hj
      simp only [vs]
      rw [ih (by omega), short_get (by omega), Nat.pow_succ, Nat.mod_mul]
      rw [show (n / 128 ^ j % 128 + 128) % 128 = n / 128 ^ j % 128 from by omega, Nat.mul_comm]
  refine ⟨⟨by simp [sh_len] <;> omega, fun j hj => ?_, ?_, hk, ?_, ?_⟩, ?_, by omega⟩
  · rw [short_get hj]; omega
  · rw [short_last]; exact h2
  · rw [short_last]
    by_cases h0 : k = 0
    · exact .inr h0
    · left
      have := h1 (k - 1) (by omega)
      have e : n / 128 ^ k = n / 128 ^ (k - 1) / 128 := by rw [Nat.div_div_eq_div_mul, ← Nat.pow_succ, show (k - 1).succ = k from by omega]
      omega
  · intro h9
    rw [short_last, h9]
    have : n / 128 ^ 9 < 2 := Nat.div_lt_of_lt_mul (by omega)
    omega
  · simp only [vs]
    rw [hv k (Nat.le_refl _), short_last, Nat.mod_eq_of_lt h2]
    have := Nat.mod_add_div n (128 ^ k)
    rw [Nat.mul_comm]
    exact this
/-- What reads as a number is its short bytes. -/
theorem good_short {b : List Nat} {i : Nat} (hb : ∀ x ∈ b, x < 256) (h : Good b i) : IsShort (vs b (i + 1)) (b.take (i + 1)) := by
  obtain ⟨h1, h2, h3, h4, h5, h6⟩ := h
  have hd : ∀ j, j < i → ∃ q, vs b (i + 1) / 128 ^ j = b.getD j 0 % 128 + 128 * q ∧ 1 ≤ q := by
    intro j hj
    obtain ⟨q, hq⟩ := vs_split b (j + 1) (i - j)
    rw [show j + 1 + (i - j) = i + 1 from by omega] at hq
    have hlt := vs_lt b j
    refine ⟨q, ?_, ?_⟩
    · rw [hq]
      simp only [vs]
      rw [Nat.pow_succ, show vs b j + b.getD j 0 % 128 * 128 ^ j + 128 ^ j * 128 * q = vs b j + 128 ^ j * (b.getD j 0 % 128 + 128 * q) from by rw [Nat.mul_add, Nat.mul_assoc, Nat.mul_comm (b.getD j 0 % 128), Nat.add_assoc]]
      rw [Nat.add_mul_div_left _ _ (Nat.pow_pos (by decide)), Nat.div_eq_of_lt hlt]
      omega
    · have h7 : b.getD i 0 % 128 ≥ 1 := by omega
      have h8 : 128 ^ i ≤ vs b (i + 1) := by
        simp only [vs]
        have := Nat.mul_le_mul_right (128 ^ i) h7
        omega
      have h9 : 128 ^ (j + 1) ≤ 128 ^ i := Nat.pow_le_pow_right (by decide) (by omega)
      have h10 := vs_lt b (j + 1)
      by_cases hq0 : q = 0
      · subst hq0; omega
      · omega
  have hi : vs b (i + 1) / 128 ^ i = b.getD i 0 := by
    simp only [vs]
    rw [Nat.add_mul_div_right _ _ (Nat.pow_pos (by decide)), Nat.div_eq_of_lt (vs_lt b i)]
    omega
  refine ⟨i, fun j hj => ?_, by rw [hi]; exact h3, ?_⟩
  · obtain ⟨q, e, hq⟩ := hd j hj
    rw [e]; omega
  · apply List.ext_getElem?
    intro j
    rw [hi, List.getElem?_take]
    by_cases hj : j < i
    · obtain ⟨q, e, hq⟩ := hd j hj
      have hlt : j < b.length := by omega
      rw [if_pos (by omega), List.getElem?_append_left (by rw [sh_len]; exact hj)]
      simp only [sh, List.getElem?_map, List.getElem?_range hj, Option.map_some, List.getElem?_eq_getElem hlt]
      have g := h2 j hj
      have gl := hb _ (List.getElem_mem hlt)
      have ge : b.getD j 0 = b[j] := by simp [List.getD_eq_getElem?_getD, hlt]
      rw [ge] at e g
      rw [e]
      congr 1
      omega
    · by_cases hji : j = i
      · subst hji
        rw [if_pos (by omega), List.getElem?_append_right (by rw [sh_len]; exact Nat.le_refl _)]
        simp [sh_len, List.getD_eq_getElem?_getD, h1]
      · rw [if_neg (by omega)]
        simp [sh_len]; omega
/-- The test of the document's reader: short bytes of what was read are what was read, just if they are some number's short bytes. -/
theorem test_iff {b l : List Nat} {i N : Nat} (hb : ∀ x ∈ b, x < 256) (hi : i < b.length) (hN : N < 18446744073709551616)
    (hNv : (i = 9 → b.getD i 0 ≤ 1) → N = vs b (i + 1)) (h : IsShort N l) : l = b.take (i + 1) ↔ Good b i := by
  constructor
  · intro e
    obtain ⟨g, _, _⟩ := short_good hN h (b.drop (i + 1))
    rw [e, List.take_append_drop, List.length_take, show min (i + 1) b.length - 1 = i from by omega] at g
    exact g
  · intro g
    rw [hNv g.2.2.2.2.2] at h
    exact h.unique (good_short hb g)
theorem vs_fit {b : List Nat} {k : Nat} (hk : k ≤ 9) : vs b k < 9223372036854775808 := by
  have h := vs_lt b k
  have h2 : 128 ^ k ≤ 128 ^ 9 := Nat.pow_le_pow_right (by decide) hk
  have h3 : (128 : Nat) ^ 9 = 9223372036854775808 := by decide
  omega
end Sm
end Go.Proofs.Ytbpkoneenihfcaa
