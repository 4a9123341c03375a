/- Words of numbers: plain mathematics. -/
import Derived.Test.YtmlbmiegfeadjaaBm
namespace Go.Proofs.Ytmlbmiegfeadjaa
namespace Mt
open Bm

def W : Nat → Nat
  | 0 => 1 | 1 => 2 | 2 => 3 | 3 => 4 | 4 => 5 | 5 => 6 | 6 => 7 | 7 => 8 | 8 => 10 | 9 => 12 | 10 => 15 | 11 => 20 | 12 => 30 | _ => 60
def cap (s : Nat) : Nat := 60 / W s
theorem W_pos (s : Nat) : 1 ≤ W s := by unfold W; split <;> decide
theorem W_le (s : Nat) : W s ≤ 60 := by unfold W; split <;> decide
theorem cap_pos (s : Nat) : 1 ≤ cap s := Nat.div_pos (W_le s) (W_pos s)
theorem cap_le (s : Nat) : cap s ≤ 60 := Nat.div_le_self _ _
theorem cap_mul (s : Nat) : cap s * W s ≤ 60 := Nat.div_mul_le_self _ _
theorem W_top : W 13 = 60 := rfl
theorem cap_top : cap 13 = 1 := rfl
theorem W_mono {s t : Nat} (h : s ≤ t) (ht : t ≤ 13) : W s ≤ W t := by
  have : ∀ t : Fin 14, ∀ s : Fin 14, s.1 ≤ t.1 → W s.1 ≤ W t.1 := by decide
  exact this ⟨t, by omega⟩ ⟨s, by omega⟩ h

/-- The next numbers have no more bits than the width of s. -/
def Fit (l : List Nat) (s : Nat) : Prop := ∀ i, i < min (cap s) l.length → l.getD i 0 < 2 ^ W s
instance (l : List Nat) (s : Nat) : Decidable (Fit l s) := by unfold Fit; exact inferInstance
def leastFrom (l : List Nat) : Nat → Nat → Nat
  | 0, s => s
  | n + 1, s => if Fit l s then s else leastFrom l n (s + 1)
def least (l : List Nat) : Nat := leastFrom l 13 0
theorem leastFrom_eq {l : List Nat} {s : Nat} (h : Fit l s) : ∀ n k, k ≤ s → s ≤ k + n → (∀ t, k ≤ t → t < s → ¬ Fit l t) → leastFrom l n k = s := by
  intro n
  induction n with
  | zero => intro k h1 h2 _; simp only [leastFrom]; omega
  | succ n ih =>
    intro k h1 h2 h3
    simp only [leastFrom]
    by_cases e : k = s
    · subst e; rw [if_pos h]
    · rw [if_neg (h3 k (Nat.le_refl _) (by omega))]
      exact ih (k + 1) (by omega) (by omega) (fun t ht hs => h3 t (by omega) hs)
theorem least_eq {l : List Nat} {s : Nat} (h : Fit l s) (hs : s ≤ 13) (hn : ∀ t, t < s → ¬ Fit l t) : least l = s :=
  leastFrom_eq h 13 0 (Nat.zero_le _) (by omega) (fun t _ ht => hn t ht)
def Small (l : List Nat) : Prop := ∀ v ∈ l, v < 2 ^ 60
theorem Small.get {l : List Nat} (h : Small l) (i : Nat) : l.getD i 0 < 2 ^ 60 := by
  by_cases hi : i < l.length
  · rw [List.getD_eq_getElem?_getD, List.getElem?_eq_getElem hi]; exact h _ (List.getElem_mem hi)
  · rw [List.getD_eq_getElem?_getD, List.getElem?_eq_none (by omega)]; decide
theorem Small.fit {l : List Nat} (h : Small l) : Fit l 13 := fun i _ => h.get i
theorem Small.drop {l : List Nat} (h : Small l) (n : Nat) : Small (l.drop n) := fun v hv => h v (List.mem_of_mem_drop hv)
theorem least_of {l : List Nat} (h : Small l) : Fit l (least l) ∧ least l ≤ 13 ∧ ∀ t, t < least l → ¬ Fit l t := by
  have key : ∀ n s, (∀ t, t < s → ¬ Fit l t) → s + n = 13 → ∃ s', Fit l s' ∧ s' ≤ 13 ∧ ∀ t, t < s' → ¬ Fit l t := by
    intro n
    induction n with
    | zero => intro s h1 h2; exact ⟨s, by rw [show s = 13 from by omega]; exact h.fit, by omega, h1⟩
    | succ n ih =>
      intro s h1 h2
      by_cases hf : Fit l s
      · exact ⟨s, hf, by omega, h1⟩
      · refine ih (s + 1) (fun t ht => ?_) (by omega)
        by_cases e : t = s
        · subst e; exact hf
        · exact h1 t (by omega)
  obtain ⟨s, h1, h2, h3⟩ := key 13 0 (fun t ht => by omega) (by omega)
  rw [least_eq h1 h2 h3]
  exact ⟨h1, h2, h3⟩

/-- The first k numbers in a word's room. -/
def laid (w : Nat) (l : List Nat) : Nat → Nat
  | 0 => 0
  | k + 1 => laid w l k + l.getD k 0 * 2 ^ (k * w)
theorem laid_lt {w : Nat} {l : List Nat} (k : Nat) (h : ∀ i, i < k → l.getD i 0 < 2 ^ w) : laid w l k < 2 ^ (k * w) := by
  induction k with
  | zero => simp [laid]
  | succ k ih =>
    have h1 := ih (fun i hi => h i (by omega))
    have h2 := h k (by omega)
    have h3 : (l.getD k 0 + 1) * 2 ^ (k * w) ≤ 2 ^ w * 2 ^ (k * w) := Nat.mul_le_mul_right _ h2
    rw [show (k + 1) * w = w + k * w from by rw [Nat.add_mul]; omega, Nat.pow_add]
    simp only [laid]
    rw [Nat.add_mul] at h3
    omega
theorem laid_or {w : Nat} {l : List Nat} (k : Nat) (h : ∀ i, i < k → l.getD i 0 < 2 ^ w) : laid w l k ||| l.getD k 0 * 2 ^ (k * w) = laid w l (k + 1) := by
  simp only [laid]
  rw [Nat.mul_comm (l.getD k 0), Nat.add_comm, Nat.two_pow_add_eq_or_of_lt (laid_lt k h), Nat.or_comm]
theorem laid_split {w : Nat} {l : List Nat} (i k : Nat) (h : i < k) : ∃ q, laid w l k = laid w l i + 2 ^ (i * w) * (l.getD i 0 + 2 ^ w * q) := by
  induction k with
  | zero => omega
  | succ k ih =>
    by_cases e : i = k
    · subst e; exact ⟨0, by simp only [laid]; rw [Nat.mul_zero, Nat.add_zero, Nat.mul_comm]⟩
    · obtain ⟨q, hq⟩ := ih (by omega)
      refine ⟨q + l.getD k 0 * 2 ^ ((k - i - 1) * w), ?_⟩
      simp only [laid]
      rw [hq, show k * w = i * w + (w + (k - i - 1) * w) from by
        rw [show w + (k - i - 1) * w = (1 + (k - i - 1)) * w from by rw [Nat.add_mul, Nat.one_mul], ← Nat.add_mul]; congr 1; omega, Nat.pow_add, Nat.pow_add]
      generalize 2 ^ (i * w) = A
      generalize 2 ^ w = B
      generalize 2 ^ ((k - i - 1) * w) = C
      generalize l.getD k 0 = D
      generalize l.getD i 0 = E
      rw [Nat.mul_add, Nat.mul_add B, Nat.mul_add A E, Nat.mul_add A (B * q)]
      rw [show D * (A * (B * C)) = A * (B * (D * C)) from by
        rw [Nat.mul_left_comm D A, Nat.mul_left_comm D B]]
      omega
theorem laid_get {w : Nat} {l : List Nat} {s k : Nat} (h : ∀ i, i < k → l.getD i 0 < 2 ^ w) (hk : k * w ≤ 60) (i : Nat) (hi : i < k) : (s * 2 ^ 60 + laid w l k) / 2 ^ (i * w) % 2 ^ w = l.getD i 0 := by
  obtain ⟨q, hq⟩ := laid_split (w := w) (l := l) i k hi
  have h1 := laid_lt i (fun j hj => h j (by omega : j < k))
  have h2 : (i + 1) * w ≤ k * w := Nat.mul_le_mul_right _ hi
  rw [Nat.add_mul, Nat.one_mul] at h2
  rw [hq, show (60 : Nat) = i * w + (w + (60 - i * w - w)) from by omega, Nat.pow_add, Nat.pow_add]
  generalize hA : 2 ^ (i * w) = A at *
  have hB := h i hi
  have hA0 : 0 < A := by rw [← hA]; exact Nat.two_pow_pos _
  generalize 2 ^ w = B at *
  generalize 2 ^ (60 - i * w - w) = C
  rw [show s * (A * (B * C)) + (laid w l i + A * (l.getD i 0 + B * q)) = laid w l i + A * (l.getD i 0 + B * (q + s * C)) from by
    rw [Nat.mul_add B, Nat.mul_add A, Nat.mul_add A, Nat.mul_add A, show s * (A * (B * C)) = A * (B * (s * C)) from by rw [Nat.mul_left_comm s A, Nat.mul_left_comm s B]]; omega]
  rw [Nat.add_mul_div_left _ _ hA0, Nat.div_eq_of_lt h1, Nat.zero_add, Nat.add_mul_mod_self_left, Nat.mod_eq_of_lt hB]

/-- How many numbers the next word takes. -/
def took (l : List Nat) : Nat := min (cap (least l)) l.length
def word (l : List Nat) : Nat := least l * 2 ^ 60 + laid (W (least l)) l (took l)
def wordsN : Nat → List Nat → List Nat
  | 0, _ => []
  | n + 1, l => if l.length = 0 then [] else word l :: wordsN n (l.drop (took l))
def words (l : List Nat) : List Nat := wordsN l.length l
theorem took_pos {l : List Nat} (h : 0 < l.length) : 1 ≤ took l := by unfold took; have := cap_pos (least l); omega
theorem took_le (l : List Nat) : took l ≤ l.length := by unfold took; omega
theorem took_cap (l : List Nat) : took l ≤ cap (least l) := by unfold took; omega
theorem wordsN_eq : ∀ n l, l.length ≤ n → wordsN n l = wordsN l.length l := by
  intro n
  induction n using Nat.strongRecOn with
  | _ n ih =>
    intro l hl
    cases n with
    | zero => rw [show l.length = 0 from by omega]
    | succ n =>
      by_cases h0 : l.length = 0
      · rw [h0]; simp only [wordsN]; rw [if_pos h0]
      · obtain ⟨m, hm⟩ : ∃ m, l.length = m + 1 := ⟨l.length - 1, by omega⟩
        have h1 := took_pos (l := l) (by omega)
        rw [hm]
        simp only [wordsN]
        rw [if_neg h0, if_neg h0]
        congr 1
        have hd : (l.drop (took l)).length ≤ m := by rw [List.length_drop]; omega
        rw [ih n (by omega) _ (by omega), ← ih m (by omega) _ hd]
theorem words_nil {l : List Nat} (h : l.length = 0) : words l = [] := by unfold words; rw [h]; rfl
theorem words_cons {l : List Nat} (h : 0 < l.length) : words l = word l :: words (l.drop (took l)) := by
  have h1 := took_pos h
  obtain ⟨m, hm⟩ : ∃ m, l.length = m + 1 := ⟨l.length - 1, by omega⟩
  conv => lhs; unfold words
  rw [hm]
  simp only [wordsN]
  rw [if_neg (by omega)]
  congr 1
  rw [wordsN_eq m _ (by rw [List.length_drop]; omega)]
  rfl
theorem words_len (l : List Nat) : (words l).length ≤ l.length := by
  induction h : l.length using Nat.strongRecOn generalizing l with
  | _ n ih =>
    by_cases h0 : l.length = 0
    · rw [words_nil h0]; simp
    · have h1 := took_pos (l := l) (by omega)
      rw [words_cons (by omega), List.length_cons]
      have := ih (l.drop (took l)).length (by rw [List.length_drop]; omega) _ rfl
      rw [List.length_drop] at this
      omega
theorem room_lt {l : List Nat} (h : Small l) : laid (W (least l)) l (took l) < 2 ^ 60 := by
  have h1 := laid_lt (w := W (least l)) (l := l) (took l) (fun i hi => (least_of h).1 i hi)
  have h2 := cap_mul (least l)
  have h3 : took l * W (least l) ≤ cap (least l) * W (least l) := Nat.mul_le_mul_right _ (took_cap l)
  exact Nat.lt_of_lt_of_le h1 (Nat.pow_le_pow_right (by decide) (by omega))
theorem word_code {l : List Nat} (h : Small l) : word l / 2 ^ 60 = least l := by
  have := room_lt h
  unfold word
  omega
theorem word_lt {l : List Nat} (h : Small l) : word l < 2 ^ 64 := by
  have h1 := room_lt h
  have h2 := (least_of h).2.1
  unfold word
  omega

/-- A word's bytes, the highest first. -/
def eight (x : Nat) : List Nat := [x / 2 ^ 56 % 256, x / 2 ^ 48 % 256, x / 2 ^ 40 % 256, x / 2 ^ 32 % 256, x / 2 ^ 24 % 256, x / 2 ^ 16 % 256, x / 2 ^ 8 % 256, x % 256]
theorem eight_len (x : Nat) : (eight x).length = 8 := rfl
def flat : List Nat → List Nat
  | [] => []
  | x :: r => eight x ++ flat r
theorem flat_len (ws : List Nat) : (flat ws).length = 8 * ws.length := by
  induction ws with
  | nil => rfl
  | cons x r ih => simp [flat, eight_len, ih]; omega
theorem flat_append (a b : List Nat) : flat (a ++ b) = flat a ++ flat b := by
  induction a with
  | nil => rfl
  | cons x r ih => simp [flat, ih]
theorem flat_snoc (a : List Nat) (x : Nat) : flat (a ++ [x]) = flat a ++ eight x := by rw [flat_append]; simp [flat]
theorem eight_lt (x : Nat) : ∀ b ∈ eight x, b < 256 := by
  intro b hb
  simp only [eight, List.mem_cons, List.not_mem_nil, or_false] at hb
  omega
theorem flat_lt (ws : List Nat) : ∀ b ∈ flat ws, b < 256 := by
  induction ws with
  | nil => simp [flat]
  | cons x r ih =>
    intro b hb
    rcases List.mem_append.1 hb with hb | hb
    · exact eight_lt x b hb
    · exact ih b hb
theorem eight_bit (x j k : Nat) (hj : j < 8) (hk : k < 8) : ((eight x).getD j 0).testBit (7 - k) = x.testBit (63 - (8 * j + k)) := by
  have e : (eight x).getD j 0 = x / 2 ^ (56 - 8 * j) % 2 ^ 8 := by
    have : j = 0 ∨ j = 1 ∨ j = 2 ∨ j = 3 ∨ j = 4 ∨ j = 5 ∨ j = 6 ∨ j = 7 := by omega
    rcases this with rfl | rfl | rfl | rfl | rfl | rfl | rfl | rfl <;> simp [eight]
  rw [e, Nat.testBit_mod_two_pow, ← Nat.shiftRight_eq_div_pow, Nat.testBit_shiftRight, decide_eq_true (show 7 - k < 8 by omega), Bool.true_and]
  congr 1
  omega
/-- The bits of words. -/
def wb (ws : List Nat) : Nat → Bool := fun i => (ws.getD (i / 64) 0).testBit (63 - i % 64)
theorem flat_has (ws : List Nat) : Has (flat ws) (wb ws) := by
  refine ⟨flat_lt ws, ?_⟩
  induction ws with
  | nil => intro j k hj; simp [flat] at hj
  | cons x r ih =>
    intro j k hj hk
    simp only [flat]
    by_cases h : j < 8
    · rw [List.getD_eq_getElem?_getD, List.getElem?_append_left (by rw [eight_len]; omega), ← List.getD_eq_getElem?_getD, eight_bit x j k h hk]
      unfold wb
      rw [show (8 * j + k) / 64 = 0 from by omega, show (8 * j + k) % 64 = 8 * j + k from by omega]
      rfl
    · rw [flat_len, List.length_cons] at hj
      rw [List.getD_eq_getElem?_getD, List.getElem?_append_right (by rw [eight_len]; omega), ← List.getD_eq_getElem?_getD, eight_len, ih (j - 8) k (by rw [flat_len]; omega) hk]
      unfold wb
      rw [show (8 * j + k) / 64 = (8 * (j - 8) + k) / 64 + 1 from by omega, show (8 * j + k) % 64 = (8 * (j - 8) + k) % 64 from by omega]
      rfl
/-- A word put as its code and its room. -/
theorem put_word {β : Nat → Bool} {ws : List Nat} {c r : Nat} (h : ∀ i, i < 64 * ws.length → β i = wb ws i) (hr : r < 2 ^ 60) (i : Nat) (hi : i < 64 * (ws.length + 1)) :
    put (put β (64 * ws.length) c 4 0) (64 * ws.length + 4) r 60 0 i = wb (ws ++ [c * 2 ^ 60 + r]) i := by
  unfold put
  by_cases h1 : i < 64 * ws.length
  · rw [if_pos (by omega), if_pos h1, h i h1]
    unfold wb
    rw [List.getD_eq_getElem?_getD, List.getD_eq_getElem?_getD, List.getElem?_append_left (by omega)]
  · have e : wb (ws ++ [c * 2 ^ 60 + r]) i = (c * 2 ^ 60 + r).testBit (63 - (i - 64 * ws.length)) := by
      unfold wb
      rw [show i / 64 = ws.length from by omega, show i % 64 = i - 64 * ws.length from by omega]
      simp
    rw [e, Nat.mul_comm c, Nat.testBit_two_pow_mul_add c hr]
    by_cases h2 : i < 64 * ws.length + 4
    · rw [if_pos h2, if_neg h1, if_pos (by omega), if_neg (by omega)]
      congr 1
      omega
    · rw [if_neg h2, if_pos (by omega), if_pos (by omega)]
      congr 1
      omega

/-- The first k numbers of a word. -/
def outs (w x : Nat) : Nat → List Nat
  | 0 => []
  | k + 1 => outs w x k ++ [x / 2 ^ (k * w) % 2 ^ w]
theorem outs_len (w x k : Nat) : (outs w x k).length = k := by
  induction k with
  | zero => rfl
  | succ k ih => simp [outs, ih]
theorem outs_lt (w x k : Nat) : ∀ v ∈ outs w x k, v < 2 ^ w := by
  induction k with
  | zero => simp [outs]
  | succ k ih =>
    intro v hv
    rcases List.mem_append.1 hv with hv | hv
    · exact ih v hv
    · simp at hv; rw [hv]; exact Nat.mod_lt _ (Nat.two_pow_pos _)
def room (s n a : Nat) : Nat := min (cap s) (n - a)
def reads (n : Nat) : List Nat → List Nat → Option (List Nat)
  | acc, [] => some acc
  | acc, x :: r => if 13 < x / 2 ^ 60 then none else reads n (acc ++ outs (W (x / 2 ^ 60)) x (room (x / 2 ^ 60) n acc.length)) r
theorem reads_snoc (n : Nat) (a : List Nat) (ws : List Nat) (x : Nat) : reads n a (ws ++ [x]) = (reads n a ws).bind (fun b => reads n b [x]) := by
  induction ws generalizing a with
  | nil => rfl
  | cons y r ih =>
    simp only [List.cons_append, reads]
    split
    · rfl
    · rw [ih]; rfl
theorem reads_small {n : Nat} {a b : List Nat} {ws : List Nat} (h : reads n a ws = some b) (ha : Small a) : Small b := by
  induction ws generalizing a with
  | nil => simp only [reads, Option.some.injEq] at h; rw [← h]; exact ha
  | cons y r ih =>
    simp only [reads] at h
    split at h
    · cases h
    · refine ih h fun v hv => ?_
      rcases List.mem_append.1 hv with hv | hv
      · exact ha v hv
      · exact Nat.lt_of_lt_of_le (outs_lt _ _ _ v hv) (Nat.pow_le_pow_right (by decide) (W_le _))
theorem reads_len {n : Nat} {a b : List Nat} {ws : List Nat} (h : reads n a ws = some b) : b.length ≤ a.length + 60 * ws.length := by
  induction ws generalizing a with
  | nil => simp only [reads, Option.some.injEq] at h; rw [← h]; omega
  | cons y r ih =>
    simp only [reads] at h
    split at h
    · cases h
    · have := ih h
      rw [List.length_append, outs_len] at this
      have h2 := cap_le (y / 2 ^ 60)
      unfold room at this
      simp only [List.length_cons]
      omega
theorem reads_le {n : Nat} {a b : List Nat} {ws : List Nat} (h : reads n a ws = some b) (ha : a.length ≤ n) : b.length ≤ n := by
  induction ws generalizing a with
  | nil => simp only [reads, Option.some.injEq] at h; rw [← h]; omega
  | cons y r ih =>
    simp only [reads] at h
    split at h
    · cases h
    · refine ih h ?_
      rw [List.length_append, outs_len]
      unfold room
      omega
theorem outs_take {l : List Nat} (h : Small l) (k : Nat) (hk : k ≤ took l) : outs (W (least l)) (word l) k = l.take k := by
  induction k with
  | zero => simp [outs]
  | succ k ih =>
    have ht := took_le l
    simp only [outs]
    rw [ih (by omega), List.take_add_one]
    unfold word
    rw [laid_get (k := took l) (fun i hi => (least_of h).1 i hi) (Nat.le_trans (Nat.mul_le_mul_right _ (took_cap l)) (cap_mul _)) k (by omega)]
    rw [List.getD_eq_getElem?_getD, List.getElem?_eq_getElem (show k < l.length by omega)]
    rfl
/-- What was packed is read as it was. -/
theorem reads_words {l : List Nat} (h : Small l) (n : Nat) (a : List Nat) (hn : n = a.length + l.length) : reads n a (words l) = some (a ++ l) := by
  induction hl : l.length using Nat.strongRecOn generalizing l a with
  | _ m ih =>
    by_cases h0 : l.length = 0
    · rw [words_nil h0, List.length_eq_zero_iff.1 h0]; simp [reads]
    · have h1 := took_pos (l := l) (by omega)
      have h2 := took_le l
      rw [words_cons (by omega)]
      simp only [reads]
      rw [word_code h, if_neg (by have := (least_of h).2.1; omega)]
      rw [show room (least l) n a.length = took l from by unfold room took; omega, outs_take h _ (Nat.le_refl _)]
      rw [ih (l.drop (took l)).length (by rw [List.length_drop]; omega) (h.drop _) _ (by rw [List.length_append, List.length_take, List.length_drop]; omega) rfl]
      rw [List.append_assoc, List.take_append_drop]

/-- The words of bytes. -/
def num8 (bs : List Nat) (j : Nat) : Nat :=
  ((((((bs.getD j 0 * 256 + bs.getD (j + 1) 0) * 256 + bs.getD (j + 2) 0) * 256 + bs.getD (j + 3) 0) * 256 + bs.getD (j + 4) 0) * 256 + bs.getD (j + 5) 0) * 256 + bs.getD (j + 6) 0) * 256 + bs.getD (j + 7) 0
def wordsOf (bs : List Nat) : Nat → List Nat
  | 0 => []
  | k + 1 => wordsOf bs k ++ [num8 bs (8 * k)]
theorem wordsOf_len (bs : List Nat) (k : Nat) : (wordsOf bs k).length = k := by
  induction k with
  | zero => rfl
  | succ k ih => simp [wordsOf, ih]
theorem num8_lt {bs : List Nat} (h : ∀ b ∈ bs, b < 256) (j : Nat) : num8 bs j < 2 ^ 64 := by
  unfold num8
  have h0 := getD_lt h j
  have h1 := getD_lt h (j + 1)
  have h2 := getD_lt h (j + 2)
  have h3 := getD_lt h (j + 3)
  have h4 := getD_lt h (j + 4)
  have h5 := getD_lt h (j + 5)
  have h6 := getD_lt h (j + 6)
  have h7 := getD_lt h (j + 7)
  omega
theorem num8_eight (a b : List Nat) (x : Nat) (hx : x < 2 ^ 64) : num8 (a ++ eight x ++ b) a.length = x := by
  have e : ∀ j, j < 8 → (a ++ eight x ++ b).getD (a.length + j) 0 = (eight x).getD j 0 := by
    intro j hj
    rw [List.getD_eq_getElem?_getD, List.append_assoc, List.getElem?_append_right (by omega), List.getElem?_append_left (by rw [eight_len]; omega), ← List.getD_eq_getElem?_getD]
    congr 1
    omega
  have e0 : (a ++ eight x ++ b).getD a.length 0 = (eight x).getD 0 0 := e 0 (by omega)
  unfold num8
  rw [e0, e 1 (by omega), e 2 (by omega), e 3 (by omega), e 4 (by omega), e 5 (by omega), e 6 (by omega), e 7 (by omega)]
  simp only [eight, List.getD_cons_zero, List.getD_cons_succ]
  omega
theorem wordsOf_flat (ws : List Nat) (h : ∀ x ∈ ws, x < 2 ^ 64) : wordsOf (flat ws) ws.length = ws := by
  have key : ∀ k, k ≤ ws.length → wordsOf (flat ws) k = ws.take k := by
    intro k
    induction k with
    | zero => intro _; simp [wordsOf]
    | succ k ih =>
      intro hk
      simp only [wordsOf]
      rw [ih (by omega), List.take_add_one, List.getElem?_eq_getElem (show k < ws.length by omega)]
      congr 1
      have hs : ws = ws.take k ++ ws[k] :: ws.drop (k + 1) := by rw [List.getElem_cons_drop, List.take_append_drop]
      have hf : flat ws = flat (ws.take k) ++ eight ws[k] ++ flat (ws.drop (k + 1)) := by
        conv => lhs; rw [hs]
        rw [flat_append]; simp [flat]
      have hl : (flat (ws.take k)).length = 8 * k := by rw [flat_len, List.length_take]; omega
      rw [hf, ← hl, num8_eight _ _ _ (h _ (List.getElem_mem _))]
      rfl
  rw [key _ (Nat.le_refl _), List.take_length]
theorem words_lt {l : List Nat} (h : Small l) : ∀ x ∈ words l, x < 2 ^ 64 := by
  induction hl : l.length using Nat.strongRecOn generalizing l with
  | _ m ih =>
    by_cases h0 : l.length = 0
    · rw [words_nil h0]; simp
    · have h1 := took_pos (l := l) (by omega)
      rw [words_cons (by omega)]
      intro x hx
      rcases List.mem_cons.1 hx with rfl | hx
      · exact word_lt h
      · exact ih (l.drop (took l)).length (by rw [List.length_drop]; omega) (h.drop _) rfl x hx

/-- The bytes of a list. -/
def packs (l : List Nat) : List Nat := flat (words l)
theorem packs_len (l : List Nat) : (packs l).length = 8 * (words l).length := flat_len _
/-- The list whose bytes these are. -/
def unpacks (bs : List Nat) (n : Int) : Option (List Nat) :=
  if bs.length % 8 = 0 ∧ 0 ≤ n then (reads n.toNat [] (wordsOf bs (bs.length / 8))).bind (fun l => if (l.length : Int) = n ∧ packs l = bs then some l else none) else none
theorem small_nil : Small [] := fun v hv => by simp at hv
/-- The program's way. -/
def got (bs : List Nat) (n : Int) : List Nat := if ((bs.length / 8 * 60 : Nat) : Int) < n then [] else (reads n.toNat [] (wordsOf bs (bs.length / 8))).getD []
theorem got_small (bs : List Nat) (n : Int) : Small (got bs n) := by
  unfold got
  split
  · exact small_nil
  · cases h : reads n.toNat [] (wordsOf bs (bs.length / 8)) with
    | none => exact small_nil
    | some b => exact reads_small h small_nil
theorem packs_nil : packs [] = [] := rfl
theorem got_unpacks (bs : List Nat) (n : Int) : (if ((got bs n).length : Int) = n ∧ packs (got bs n) = bs then some (got bs n) else none) = unpacks bs n := by
  unfold unpacks
  by_cases h8 : bs.length % 8 = 0 ∧ 0 ≤ n
  · rw [if_pos h8]
    cases h : reads n.toNat [] (wordsOf bs (bs.length / 8)) with
    | none =>
      have e : got bs n = [] := by unfold got; rw [h]; split <;> rfl
      rw [e, packs_nil]
      simp only [Option.bind_none]
      refine if_neg fun ⟨_, k⟩ => ?_
      rw [← k] at h
      simp [wordsOf, reads] at h
    | some b =>
      have hl := reads_len h
      rw [wordsOf_len] at hl
      simp only [Option.bind_some]
      by_cases hn : ((bs.length / 8 * 60 : Nat) : Int) < n
      · have e : got bs n = [] := by unfold got; rw [if_pos hn]
        rw [e]
        simp only [List.length_nil] at hl ⊢
        rw [if_neg (by omega), if_neg (by omega)]
      · have e : got bs n = b := by unfold got; rw [if_neg hn, h]; rfl
        rw [e]
  · rw [if_neg h8]
    refine if_neg fun ⟨k1, k2⟩ => h8 ?_
    refine ⟨?_, by omega⟩
    rw [← k2, packs_len]
    omega
theorem unpacks_packs {l : List Nat} (h : Small l) : unpacks (packs l) (l.length : Int) = some l := by
  unfold unpacks
  rw [if_pos ⟨by rw [packs_len]; omega, by omega⟩, packs_len, show 8 * (words l).length / 8 = (words l).length from by omega]
  unfold packs
  rw [wordsOf_flat _ (words_lt h), Int.toNat_natCast, reads_words h _ [] (by simp), List.nil_append]
  exact if_pos ⟨rfl, rfl⟩
end Mt
end Go.Proofs.Ytmlbmiegfeadjaa
