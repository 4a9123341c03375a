import Derived.Test.YtjmddomkoholoaaGreatDoorG05
import Derived.Test.YtjmddomkoholoaaGreatDoorG00

/- Short bytes: plain mathematics. -/
namespace Go.Proofs.YtjmddomkoholoaaGreatDoor
namespace Sm

/-- The first k short bytes of n, where none of them is the last. -/
def sh (n k : Nat) : List Nat := (List.range k).map fun j => n / 128 ^ j % 128 + 128
theorem sh_len (n k : Nat) : (sh n k).length = k := by simp [sh]
theorem sh_succ (n k : Nat) : sh n (k + 1) = sh n k ++ [n / 128 ^ k % 128 + 128] := by simp [sh, List.range_succ]
/-- l are n's short bytes. -/
def IsShort (n : Nat) (l : List Nat) : Prop := ∃ k, (∀ j, j < k → 128 ≤ n / 128 ^ j) ∧ n / 128 ^ k < 128 ∧ l = sh n k ++ [n / 128 ^ k]
theorem IsShort.unique {n : Nat} {l m : List Nat} (h : IsShort n l) (h' : IsShort n m) : l = m := by
  obtain ⟨k, a, b, rfl⟩ := h
  obtain ⟨k', a', b', rfl⟩ := h'
  obtain rfl : k = k' := by
    rcases Nat.lt_trichotomy k k' with hlt | rfl | hlt
    · have := a' k hlt; omega
    · rfl
    · have := a k' hlt; omega
  rfl
theorem k_le {n k : Nat} (hn : n < 18446744073709551616) (h : ∀ j, j < k → 128 ≤ n / 128 ^ j) : k ≤ 9 := by
  by_cases hk : 9 < k
  · have h1 := h 9 hk
    have h2 : n / 128 ^ 9 < 128 := Nat.div_lt_of_lt_mul (by omega)
    omega
  · omega

/-- The number of the first k bytes, seven bits a byte. -/
def vs (b : List Nat) : Nat → Nat
  | 0 => 0
  | k + 1 => vs b k + b.getD k 0 % 128 * 128 ^ k
theorem vs_lt (b : List Nat) (k : Nat) : vs b k < 128 ^ k := by
  induction k with
  | zero => simp [vs]
  | succ k ih =>
    have h : b.getD k 0 % 128 ≤ 127 := by omega
    have h2 := Nat.mul_le_mul_right (128 ^ k) h
    rw [Nat.pow_succ]
    simp only [vs]
    omega
theorem vs_congr {a b : List Nat} {k : Nat} (h : ∀ j, j < k → a.getD j 0 = b.getD j 0) : vs a k = vs b k := by
  induction k with
  | zero => rfl
  | succ k ih => simp only [vs]; rw [ih (fun j hj => h j (by omega)), h k (by omega)]
theorem vs_split (b : List Nat) (j m : Nat) : ∃ q, vs b (j + m) = vs b j + 128 ^ j * q := by
  induction m with
  | zero => exact ⟨0, by simp⟩
  | succ m ih =>
    obtain ⟨q, hq⟩ := ih
    refine ⟨q + b.getD (j + m) 0 % 128 * 128 ^ m, ?_⟩
    rw [← Nat.add_assoc]
    simp only [vs]
    rw [hq, Nat.pow_add, Nat.mul_add, Nat.mul_left_comm, Nat.add_assoc]
/-- b's first i + 1 bytes are some number's short bytes. -/
def Good (b : List Nat) (i : Nat) : Prop :=
  i < b.length ∧ (∀ j, j < i → 128 ≤ b.getD j 0) ∧ b.getD i 0 < 128 ∧ i ≤ 9 ∧ (b.getD i 0 ≠ 0 ∨ i = 0) ∧ (i = 9 → b.getD i 0 ≤ 1)
theorem Good.unique {b : List Nat} {i j : Nat} (h : Good b i) (k : Good b j) : i = j := by
  rcases Nat.lt_trichotomy i j with hlt | rfl | hlt
  · have := k.2.1 i hlt; have := h.2.2.1; omega
  · rfl
  · have := h.2.1 j hlt; have := k.2.2.1; omega
/-- What ReadShort answers. -/
def Res (b : List Nat) (x k : Nat) : Prop := (∃ i, Good b i ∧ x = vs b (i + 1) ∧ k = i + 1) ∨ ((∀ i, ¬ Good b i) ∧ x = 0 ∧ k = 0)
theorem Res.unique {b : List Nat} {x y k j : Nat} (h : Res b x k) (h' : Res b y j) : x = y ∧ k = j := by
  rcases h with ⟨i, g, rfl, rfl⟩ | ⟨n, rfl, rfl⟩
  · rcases h' with ⟨i', g', rfl, rfl⟩ | ⟨n, _, _⟩
    · rw [g.unique g']; exact ⟨rfl, rfl⟩
    · exact absurd g (n i)
  · rcases h' with ⟨i', g', _, _⟩ | ⟨_, rfl, rfl⟩
    · exact absurd g' (n i')
    · exact ⟨rfl, rfl⟩

theorem short_get {n k j : Nat} (hj : j < k) (l : List Nat) : (sh n k ++ [n / 128 ^ k] ++ l).getD j 0 = n / 128 ^ j % 128 + 128 := by
  rw [List.getD_eq_getElem?_getD, List.append_assoc, List.getElem?_append_left (by rw [sh_len]; exact hj)]
  simp [sh, hj]
theorem short_last {n k : Nat} (l : List Nat) : (sh n k ++ [n / 128 ^ k] ++ l).getD k 0 = n / 128 ^ k := by
  rw [List.getD_eq_getElem?_getD, List.append_assoc, List.getElem?_append_right (by rw [sh_len]; exact Nat.le_refl _)]
  simp [sh_len]
/-- A number's short bytes are read back, whatever stands behind. -/
theorem short_good {n : Nat} {l : List Nat} (hn : n < 18446744073709551616) (h : IsShort n l) (b : List Nat) : Good (l ++ b) (l.length - 1) ∧ vs (l ++ b) l.length = n ∧ 1 ≤ l.length := by
  obtain ⟨k, h1, h2, rfl⟩ := h
  have hk := k_le hn h1
  have e0 : (sh n k ++ [n / 128 ^ k]).length = k + 1 := by simp [sh_len]
  rw [e0, show k + 1 - 1 = k from by omega]
  have hv : ∀ j, j ≤ k → vs (sh n k ++ [n / 128 ^ k] ++ b) j = n % 128 ^ j := by
    intro j
    induction j with
    | zero => intro _; simp [vs, Nat.mod_one]
    | succ j ih =>
      intro hj
      simp only [vs]
      rw [ih (by omega), short_get (by omega), Nat.pow_succ, Nat.mod_mul]
      rw [show (n / 128 ^ j % 128 + 128) % 128 = n / 128 ^ j % 128 from by omega, Nat.mul_comm]
  refine ⟨⟨by simp [sh_len] <;> omega, fun j hj => ?_, ?_, hk, ?_, ?_⟩, ?_, by omega⟩
  · rw [short_get hj]; omega
  · rw [short_last]; exact h2
  · rw [short_last]
    by_cases h0 : k = 0
    · exact .inr h0
    · left
      have := h1 (k - 1) (by omega)
      have e : n / 128 ^ k = n / 128 ^ (k - 1) / 128 := by rw [Nat.div_div_eq_div_mul, ← Nat.pow_succ, show (k - 1).succ = k from by omega]
      omega
  · intro h9
    rw [short_last, h9]
    have : n / 128 ^ 9 < 2 := Nat.div_lt_of_lt_mul (by omega)
    omega
  · simp only [vs]
    rw [hv k (Nat.le_refl _), short_last, Nat.mod_eq_of_lt h2]
    have := Nat.mod_add_div n (128 ^ k)
    rw [Nat.mul_comm]
    exact this
/-- What reads as a number is its short bytes. -/
theorem good_short {b : List Nat} {i : Nat} (hb : ∀ x ∈ b, x < 256) (h : Good b i) : IsShort (vs b (i + 1)) (b.take (i + 1)) := by
  obtain ⟨h1, h2, h3, h4, h5, h6⟩ := h
  have hd : ∀ j, j < i → ∃ q, vs b (i + 1) / 128 ^ j = b.getD j 0 % 128 + 128 * q ∧ 1 ≤ q := by
    intro j hj
    obtain ⟨q, hq⟩ := vs_split b (j + 1) (i - j)
    rw [show j + 1 + (i - j) = i + 1 from by omega] at hq
    have hlt := vs_lt b j
    refine ⟨q, ?_, ?_⟩
    · rw [hq]
      simp only [vs]
      rw [Nat.pow_succ, show vs b j + b.getD j 0 % 128 * 128 ^ j + 128 ^ j * 128 * q = vs b j + 128 ^ j * (b.getD j 0 % 128 + 128 * q) from by rw [Nat.mul_add, Nat.mul_assoc, Nat.mul_comm (b.getD j 0 % 128), Nat.add_assoc]]
      rw [Nat.add_mul_div_left _ _ (Nat.pow_pos (by decide)), Nat.div_eq_of_lt hlt]
      omega
    · have h7 : b.getD i 0 % 128 ≥ 1 := by omega
      have h8 : 128 ^ i ≤ vs b (i + 1) := by
        simp only [vs]
        have := Nat.mul_le_mul_right (128 ^ i) h7
        omega
      have h9 : 128 ^ (j + 1) ≤ 128 ^ i := Nat.pow_le_pow_right (by decide) (by omega)
      have h10 := vs_lt b (j + 1)
      by_cases hq0 : q = 0
      · subst hq0; omega
      · omega
  have hi : vs b (i + 1) / 128 ^ i = b.getD i 0 := by
    simp only [vs]
    rw [Nat.add_mul_div_right _ _ (Nat.pow_pos (by decide)), Nat.div_eq_of_lt (vs_lt b i)]
    omega
  refine ⟨i, fun j hj => ?_, by rw [hi]; exact h3, ?_⟩
  · obtain ⟨q, e, hq⟩ := hd j hj
    rw [e]; omega
  · apply List.ext_getElem?
    intro j
    rw [hi, List.getElem?_take]
    by_cases hj : j < i
    · obtain ⟨q, e, hq⟩ := hd j hj
      have hlt : j < b.length := by omega
      rw [if_pos (by omega), List.getElem?_append_left (by rw [sh_len]; exact hj)]
      simp only [sh, List.getElem?_map, List.getElem?_range hj, Option.map_some, List.getElem?_eq_getElem hlt]
      have g := h2 j hj
      have gl := hb _ (List.getElem_mem hlt)
      have ge : b.getD j 0 = b[j] := by simp [List.getD_eq_getElem?_getD, hlt]
      rw [ge] at e g
      rw [e]
      congr 1
      omega
    · by_cases hji : j = i
      · subst hji
        rw [if_pos (by omega), List.getElem?_append_right (by rw [sh_len]; exact Nat.le_refl _)]
        simp [sh_len, List.getD_eq_getElem?_getD, h1]
      · rw [if_neg (by omega)]
        simp [sh_len]; omega
/-- The test of the document's reader: short bytes of what was read are what was read, just if they are some number's short bytes. -/
theorem test_iff {b l : List Nat} {i N : Nat} (hb : ∀ x ∈ b, x < 256) (hi : i < b.length) (hN : N < 18446744073709551616)
    (hNv : (i = 9 → b.getD i 0 ≤ 1) → N = vs b (i + 1)) (h : IsShort N l) : l = b.take (i + 1) ↔ Good b i := by
  constructor
  · intro e
    obtain ⟨g, _, _⟩ := short_good hN h (b.drop (i + 1))
    rw [e, List.take_append_drop, List.length_take, show min (i + 1) b.length - 1 = i from by omega] at g
    exact g
  · intro g
    rw [hNv g.2.2.2.2.2] at h
    exact h.unique (good_short hb g)
theorem vs_fit {b : List Nat} {k : Nat} (hk : k ≤ 9) : vs b k < 9223372036854775808 := by
  have h := vs_lt b k
  have h2 : 128 ^ k ≤ 128 ^ 9 := Nat.pow_le_pow_right (by decide) hk
  have h3 : (128 : Nat) ^ 9 = 9223372036854775808 := by decide
  omega
end Sm
end Go.Proofs.YtjmddomkoholoaaGreatDoor

/- Values and their bytes: plain mathematics. -/
namespace Go.Proofs.YtjmddomkoholoaaGreatDoor
namespace Cm
open Bm Sz

/-- A value: its kind, its number, its text. -/
abbrev Vl := Int × Nat × List Nat
def fin (n : Nat) : Bool := decide (n / 4503599627370496 % 2048 ≠ 2047)
def formed (v : Vl) : Bool :=
  if v.1 = 1 then decide (v.2.2 = []) && fin v.2.1
  else if v.1 = 2 then decide (v.2.2 = [])
  else if v.1 = 3 then decide (v.2.2 = []) && decide (v.2.1 ≤ 1)
  else if v.1 = 4 then decide (v.2.1 = 0) && decide (v.2.2.length ≤ 65536)
  else false
/-- A value as it may lie in memory. -/
def Wv (v : Vl) : Prop := -9223372036854775808 ≤ v.1 ∧ v.1 ≤ 9223372036854775807 ∧ v.2.1 < 18446744073709551616 ∧ ∀ x ∈ v.2.2, x < 256
def z0 : Vl := (0, 0, [])
theorem z0_wv : Wv z0 := by refine ⟨by decide, by decide, by decide, fun x hx => by simp [z0] at hx⟩
theorem getD_wv {T : List Vl} (h : ∀ v ∈ T, Wv v) (i : Nat) : Wv (T.getD i z0) := by
  rw [List.getD_eq_getElem?_getD]
  by_cases hi : i < T.length
  · rw [List.getElem?_eq_getElem hi]; exact h _ (List.getElem_mem hi)
  · rw [List.getElem?_eq_none (by omega)]; exact z0_wv

/-! Bits as lists. -/
def bv (v N : Nat) : List Bool := (List.range N).map fun i => v.testBit (N - 1 - i)
def ofL (L : List Bool) : Nat → Bool := fun i => L.getD i false
theorem bv_len (v N : Nat) : (bv v N).length = N := by simp [bv]
theorem bv_get (v N i : Nat) (h : i < N) : (bv v N).getD i false = v.testBit (N - 1 - i) := by simp [bv, List.getD_eq_getElem?_getD, h]
theorem ofL_left {A B : List Bool} {i : Nat} (h : i < A.length) : ofL (A ++ B) i = ofL A i := by
  unfold ofL; rw [List.getD_eq_getElem?_getD, List.getD_eq_getElem?_getD, List.getElem?_append_left h]
theorem ofL_right {A B : List Bool} (i : Nat) : ofL (A ++ B) (A.length + i) = ofL B i := by
  unfold ofL; rw [List.getD_eq_getElem?_getD, List.getD_eq_getElem?_getD, List.getElem?_append_right (by omega), show A.length + i - A.length = i from by omega]
theorem ofL_past {A : List Bool} {i : Nat} (h : A.length ≤ i) : ofL A i = false := by
  unfold ofL; rw [List.getD_eq_getElem?_getD, List.getElem?_eq_none h]; rfl
theorem put_ofL (L : List Bool) (v N : Nat) : put (ofL L) L.length v N 0 = ofL (L ++ bv v N) := by
  funext i
  unfold put
  split
  · rename_i h; rw [ofL_left h]
  · rename_i h
    obtain ⟨j, rfl⟩ : ∃ j, i = L.length + j := ⟨i - L.length, by omega⟩
    rw [ofL_right]
    split
    · unfold ofL
      rw [bv_get _ _ _ (by omega), show L.length + j - L.length = j from by omega]
    · rw [ofL_past (by rw [bv_len]; omega)]
theorem num_bv (A B : List Bool) (v N : Nat) : num (ofL (A ++ (bv v N ++ B))) A.length N = v % 2 ^ N :=
  num_of _ _ _ _ fun i hi => by rw [ofL_right, ofL_left (by rw [bv_len]; exact hi)]; exact bv_get v N i hi
theorem num_bit (β : Nat → Bool) (a : Nat) : ∀ n i, i < n → (num β a n).testBit (n - 1 - i) = β (a + i) := by
  intro n
  induction n with
  | zero => intro i h; omega
  | succ n ih =>
    intro i h
    simp only [num]
    by_cases e : i = n
    · subst e
      rw [show i + 1 - 1 - i = 0 from by omega, Nat.testBit_zero]
      cases β (a + i) <;> simp [b2n] <;> omega
    · rw [show n + 1 - 1 - i = (n - 1 - i) + 1 from by omega, Nat.testBit_succ]
      have h1 := b2n_le (β (a + n))
      rw [show (2 * num β a n + b2n (β (a + n))) / 2 = num β a n from by omega]
      exact ih i (by omega)
/-- The bytes of bits, the last one filled up. -/
def pk (L : List Bool) : List Nat := (List.range ((L.length + 7) / 8)).map fun j => num (ofL L) (8 * j) 8
theorem pk_len (L : List Bool) : (pk L).length = (L.length + 7) / 8 := by simp [pk]
theorem pk_lt (L : List Bool) : ∀ x ∈ pk L, x < 256 := fun x hx => by
  simp only [pk, List.mem_map] at hx
  obtain ⟨j, _, rfl⟩ := hx
  exact num_lt _ _ 8
theorem pk_has (L : List Bool) : Has (pk L) (ofL L) := by
  refine ⟨pk_lt L, fun j k hj hk => ?_⟩
  rw [pk_len] at hj
  have e : (pk L).getD j 0 = num (ofL L) (8 * j) 8 := by simp [pk, List.getD_eq_getElem?_getD, hj]
  rw [e, show 7 - k = 8 - 1 - k from by omega]
  exact num_bit _ _ 8 k hk
theorem pk_eq {bs : List Nat} {L : List Bool} {f : Nat} (h : Has bs (ofL L)) (hl : 8 * bs.length = L.length + f) (hf : f < 8) : bs = pk L :=
  h.unique (pk_has L) (by rw [pk_len]; omega)
/-- The bits of bytes. -/
def bo (bs : List Nat) (i : Nat) : Bool := (bs.getD (i / 8) 0).testBit (7 - i % 8)
theorem has_bo {bs : List Nat} (h : ∀ b ∈ bs, b < 256) : Has bs (bo bs) :=
  ⟨h, fun j k _ hk => by unfold bo; rw [show (8 * j + k) / 8 = j from by omega, show (8 * j + k) % 8 = k from by omega]⟩
theorem bo_pk (L : List Bool) (i : Nat) (h : i < 8 * (pk L).length) : bo (pk L) i = ofL L i := by
  unfold bo
  have := (pk_has L).2 (i / 8) (i % 8) (by omega) (by omega)
  rwa [show 8 * (i / 8) + i % 8 = i from by omega] at this
theorem pk_room (L : List Bool) : L.length ≤ 8 * (pk L).length := by rw [pk_len]; omega
/-- What is read of packed bits. -/
theorem num_pk (A B : List Bool) (v N : Nat) : A.length + N ≤ 8 * (pk (A ++ (bv v N ++ B))).length ∧ num (bo (pk (A ++ (bv v N ++ B)))) A.length N = v % 2 ^ N := by
  have h := pk_room (A ++ (bv v N ++ B))
  rw [List.length_append, List.length_append, bv_len] at h
  refine ⟨by omega, ?_⟩
  rw [← num_bv A B v N]
  exact num_congr fun i hi => bo_pk _ _ (by omega)

/-! Floats. -/
def hi (x : Nat) : Nat := 63 - Nat.log2 x
def loF : Nat → Nat → Nat
  | 0, _ => 0
  | f + 1, x => if x % 2 = 1 then 0 else loF f (x / 2) + 1
def lo (x : Nat) : Nat := loF 64 x
theorem loF_of {k : Nat} : ∀ {f x : Nat}, k < f → x % 2 ^ k = 0 → x / 2 ^ k % 2 = 1 → loF f x = k := by
  induction k with
  | zero =>
    intro f x hf h1 h2
    obtain ⟨g, rfl⟩ : ∃ g, f = g + 1 := ⟨f - 1, by omega⟩
    simp only [loF]
    rw [if_pos (by simpa using h2)]
  | succ k ih =>
    intro f x hf h1 h2
    obtain ⟨g, rfl⟩ : ∃ g, f = g + 1 := ⟨f - 1, by omega⟩
    simp only [loF]
    rw [Nat.pow_succ, Nat.mul_comm] at h1 h2
    have h3 : x % 2 = 0 := by
      have := Nat.mod_mul_right_mod x 2 (2 ^ k)
      omega
    rw [if_neg (by omega)]
    congr 1
    refine ih (by omega) ?_ ?_
    · have := Nat.mod_mul (a := 2) (b := 2 ^ k) (x := x)
      omega
    · rw [Nat.div_div_eq_div_mul]; exact h2
theorem lo_of {x k : Nat} (hk : k < 64) (h1 : x % 2 ^ k = 0) (h2 : x / 2 ^ k % 2 = 1) : lo x = k := loF_of hk h1 h2
theorem hi_of {x k : Nat} (hk : k < 64) (h1 : 2 ^ (63 - k) ≤ x) (h2 : x < 2 ^ (64 - k)) : hi x = k := by
  have h0 : x ≠ 0 := by have := Nat.two_pow_pos (63 - k); omega
  have e : Nat.log2 x = 63 - k := by
    have a := (Nat.le_log2 h0).2 h1
    have b := (Nat.log2_lt h0).2 (show x < 2 ^ (63 - k + 1) from by rw [show 63 - k + 1 = 64 - k from by omega]; exact h2)
    omega
  unfold hi
  omega
theorem hi_spec {x : Nat} (h0 : x ≠ 0) (hx : x < 2 ^ 64) : hi x < 64 ∧ 2 ^ (63 - hi x) ≤ x ∧ x < 2 ^ (64 - hi x) := by
  have a := Nat.log2_self_le h0
  have b := (Nat.log2_lt h0 (k := 64)).2 hx
  have c := Nat.lt_log2_self (n := x)
  unfold hi
  refine ⟨by omega, by rw [show 63 - (63 - Nat.log2 x) = Nat.log2 x from by omega]; exact a, by rw [show 64 - (63 - Nat.log2 x) = Nat.log2 x + 1 from by omega]; exact c⟩
theorem loF_spec : ∀ {f x : Nat}, x ≠ 0 → x < 2 ^ f → loF f x < f ∧ x % 2 ^ loF f x = 0 ∧ x / 2 ^ loF f x % 2 = 1 := by
  intro f
  induction f with
  | zero => intro x h0 hx; simp at hx; omega
  | succ f ih =>
    intro x h0 hx
    simp only [loF]
    split
    · rename_i h; exact ⟨by omega, by simp [Nat.mod_one], by simpa using h⟩
    · rename_i h
      obtain ⟨a, b, c⟩ := ih (x := x / 2) (by omega) (by rw [Nat.pow_succ] at hx; omega)
      refine ⟨by omega, ?_, ?_⟩
      · rw [Nat.pow_succ, Nat.mul_comm, Nat.mod_mul]; omega
      · rw [Nat.pow_succ, Nat.mul_comm, ← Nat.div_div_eq_div_mul]; exact c
theorem lo_spec {x : Nat} (h0 : x ≠ 0) (hx : x < 2 ^ 64) : lo x < 64 ∧ x % 2 ^ lo x = 0 ∧ x / 2 ^ lo x % 2 = 1 := loF_spec h0 hx
/-- The span: from the highest 1 to the lowest. -/
def sp (x : Nat) : Nat := 64 - hi x - lo x
theorem sp_spec {x : Nat} (h0 : x ≠ 0) (hx : x < 2 ^ 64) : hi x + lo x + sp x = 64 ∧ 1 ≤ sp x ∧ x / 2 ^ lo x < 2 ^ sp x ∧ x / 2 ^ lo x * 2 ^ lo x = x := by
  obtain ⟨a1, a2, a3⟩ := hi_spec h0 hx
  obtain ⟨b1, b2, b3⟩ := lo_spec h0 hx
  have h1 : 2 ^ lo x ≤ x := by
    by_cases h : 2 ^ lo x ≤ x
    · exact h
    · rw [Nat.div_eq_of_lt (by omega)] at b3; omega
  have h2 : lo x < 64 - hi x := by
    have := Nat.lt_of_le_of_lt h1 a3
    exact (Nat.pow_lt_pow_iff_right (by decide : 1 < 2)).1 this
  unfold sp
  refine ⟨by omega, by omega, ?_, ?_⟩
  · apply Nat.div_lt_of_lt_mul
    rw [← Nat.pow_add, show lo x + (64 - hi x - lo x) = 64 - hi x from by omega]
    exact a3
  · have := Nat.div_add_mod x (2 ^ lo x)
    rw [b2, Nat.add_zero, Nat.mul_comm] at this
    exact this
/-- The bits in which a float is unlike the one ahead. -/
def ub (x : Nat) : List Bool := if x = 0 then bv 0 1 else bv 1 1 ++ (bv (hi x) 6 ++ (bv (sp x - 1) 6 ++ bv (x / 2 ^ lo x) (sp x)))
def fb : Nat → List Nat → List Bool
  | _, [] => []
  | p, x :: r => ub (x ^^^ p) ++ fb x r
def fbits : List Nat → List Bool
  | [] => []
  | x :: r => bv x 64 ++ fb x r
theorem ub_zero : ub 0 = bv 0 1 := rfl
theorem ub_some {x : Nat} (h : x ≠ 0) : ub x = bv 1 1 ++ (bv (hi x) 6 ++ (bv (sp x - 1) 6 ++ bv (x / 2 ^ lo x) (sp x))) := if_neg h
theorem fb_snoc (l : List Nat) (x y : Nat) : ∀ p, fb p (l ++ [x] ++ [y]) = fb p (l ++ [x]) ++ ub (y ^^^ x) := by
  induction l with
  | nil => intro p; simp [fb]
  | cons a r ih => intro p; simp only [List.cons_append, fb]; rw [ih, List.append_assoc]
theorem ub_len (x : Nat) (hx : x < 2 ^ 64) : (ub x).length ≤ 77 := by
  by_cases h : x = 0
  · subst h; simp [ub, bv]
  · rw [ub_some h]
    have := sp_spec h hx
    simp only [List.length_append, bv_len]
    omega
theorem fb_len : ∀ (l : List Nat) (p : Nat), p < 2 ^ 64 → (∀ x ∈ l, x < 2 ^ 64) → (fb p l).length ≤ 77 * l.length := by
  intro l
  induction l with
  | nil => intro p _ _; simp [fb]
  | cons a r ih =>
    intro p hp h
    have ha := h a (by simp)
    have h1 := ub_len (a ^^^ p) (Nat.xor_lt_two_pow ha hp)
    have h2 := ih a ha (fun x hx => h x (by simp [hx]))
    simp only [fb, List.length_append, List.length_cons]
    omega
end Cm
end Go.Proofs.YtjmddomkoholoaaGreatDoor

/- The bytes of values, and what is read of them: plain mathematics. -/
namespace Go.Proofs.YtjmddomkoholoaaGreatDoor
open Go.RowKit
namespace Cm
open Bm Sz

/-! Short bytes. -/
def shF : Nat → Nat → List Nat
  | 0, n => [n]
  | f + 1, n => if n < 128 then [n] else (n % 128 + 128) :: shF f (n / 128)
def short (n : Nat) : List Nat := shF 9 n
theorem shF_is : ∀ f n, n < 128 ^ (f + 1) → Sm.IsShort n (shF f n) := by
  intro f
  induction f with
  | zero => intro n h; exact ⟨0, fun j hj => by omega, by simpa using h, by simp [shF, Sm.sh]⟩
  | succ f ih =>
    intro n h
    simp only [shF]
    split
    · rename_i h1; exact ⟨0, fun j hj => by omega, by simpa using h1, by simp [Sm.sh]⟩
    · rename_i h1
      obtain ⟨k, a, b, c⟩ := ih (n / 128) (by rw [Nat.pow_succ] at h; omega)
      have e : ∀ j, n / 128 ^ (j + 1) = n / 128 / 128 ^ j := fun j => by rw [Nat.pow_succ, Nat.mul_comm, Nat.div_div_eq_div_mul]
      refine ⟨k + 1, fun j hj => ?_, by rw [e]; exact b, ?_⟩
      · cases j with
        | zero => simpa using h1
        | succ j => rw [e]; exact a j (by omega)
      · rw [c, e]
        simp only [Sm.sh, List.range_succ_eq_map, List.map_cons, List.map_map, List.cons_append, Nat.pow_zero, Nat.div_one]
        congr 2
        apply List.map_congr_left
        intro j _
        simp only [Function.comp]
        rw [Nat.succ_eq_add_one, e]
theorem short_is {n : Nat} (h : n < 18446744073709551616) : Sm.IsShort n (short n) := shF_is 9 n (Nat.lt_of_lt_of_le h (by decide))
theorem short_lt {n : Nat} (h : n < 18446744073709551616) : ∀ x ∈ short n, x < 256 := by
  obtain ⟨k, h1, h2, e⟩ := short_is h
  rw [e]
  intro x hx
  rcases List.mem_append.1 hx with hx | hx
  · simp only [Sm.sh, List.mem_map] at hx
    obtain ⟨j, _, rfl⟩ := hx
    omega
  · simp at hx; omega
theorem shF_len : ∀ f n, 1 ≤ (shF f n).length ∧ (shF f n).length ≤ f + 1 := by
  intro f
  induction f with
  | zero => intro n; simp [shF]
  | succ f ih => intro n; simp only [shF]; split <;> simp; have := ih (n / 128); omega
theorem short_len (n : Nat) : 1 ≤ (short n).length ∧ (short n).length ≤ 10 := shF_len 9 n

/-! Integers, strings. -/
instance (l : List Nat) : Decidable (Mt.Small l) := by unfold Mt.Small; infer_instance
def step (p x : Nat) : Nat := (zig (wrap64 ((x : Int) - (p : Int)))).toNat
def sts : Nat → List Nat → List Nat
  | _, [] => []
  | p, x :: r => step p x :: sts x r
def acc (p s : Nat) : Nat := ((p : Int) + zag (s : Nat)).toNat % 18446744073709551616
def acs : Nat → List Nat → List Nat
  | _, [] => []
  | p, s :: r => (((p : Int) + zag (s : Nat)) % 18446744073709551616).toNat :: acs (((p : Int) + zag (s : Nat)) % 18446744073709551616).toNat r
theorem wrap_in (x : Int) : -9223372036854775808 ≤ wrap64 x ∧ wrap64 x ≤ 9223372036854775807 := by unfold wrap64; omega
theorem step_of (p x : Nat) : ((step p x : Nat) : Int) = zig (wrap64 ((x : Int) - (p : Int))) ∧ step p x < 18446744073709551616 := by
  obtain ⟨h1, h2⟩ := wrap_in ((x : Int) - (p : Int))
  have := zig_in _ h1 h2
  unfold step
  omega
theorem acs_sts : ∀ (U : List Nat) (p : Nat), (∀ x ∈ U, x < 18446744073709551616) → acs p (sts p U) = U := by
  intro U
  induction U with
  | nil => intro p _; rfl
  | cons x r ih =>
    intro p h
    have hx := h x (by simp)
    obtain ⟨h1, h2⟩ := wrap_in ((x : Int) - (p : Int))
    have e : (((p : Int) + zag (step p x : Nat)) % 18446744073709551616).toNat = x := by
      rw [(step_of p x).1, zag_zig _ h1 h2]
      unfold wrap64
      omega
    simp only [sts, acs]
    rw [e, ih x fun y hy => h y (by simp [hy])]
theorem sts_len : ∀ (U : List Nat) (p : Nat), (sts p U).length = U.length := by
  intro U
  induction U with
  | nil => intro p; rfl
  | cons x r ih => intro p; simp [sts, ih]
theorem acs_len : ∀ (U : List Nat) (p : Nat), (acs p U).length = U.length := by
  intro U
  induction U with
  | nil => intro p; rfl
  | cons x r ih => intro p; simp [acs, ih]
theorem acs_lt : ∀ (U : List Nat) (p : Nat), ∀ x ∈ acs p U, x < 18446744073709551616 := by
  intro U
  induction U with
  | nil => intro p x hx; simp [acs] at hx
  | cons y r ih =>
    intro p x hx
    simp only [acs, List.mem_cons] at hx
    rcases hx with rfl | hx
    · omega
    · exact ih _ x hx
theorem sts_snoc (l : List Nat) (x y : Nat) : ∀ p, sts p (l ++ [x] ++ [y]) = sts p (l ++ [x]) ++ [step x y] := by
  induction l with
  | nil => intro p; simp [sts]
  | cons a r ih => intro p; simp only [List.cons_append, sts]; rw [ih]
def ibytes (ns : List Nat) : List Nat := if Mt.Small (sts 0 ns) then 1 :: Mt.packs (sts 0 ns) else 0 :: Mt.flat ns
def bbits (ns : List Nat) : List Bool := ns.map fun n => n.testBit 0
def laidT : List (List Nat) → List Nat
  | [] => []
  | t :: r => short t.length ++ (t ++ laidT r)
theorem laidT_app (a b : List (List Nat)) : laidT (a ++ b) = laidT a ++ laidT b := by
  induction a with
  | nil => rfl
  | cons t r ih => simp [laidT, ih]
theorem laidT_snoc (a : List (List Nat)) (t : List Nat) : laidT (a ++ [t]) = laidT a ++ (short t.length ++ t) := by rw [laidT_app]; simp [laidT]
def sbytes (B : List Nat) : List Nat := if (Lm.packs B).length < B.length then 1 :: Lm.packs B else 0 :: B
def ns (l : List Vl) : List Nat := l.map (·.2.1)
def ts (l : List Vl) : List (List Nat) := l.map (·.2.2)
def one (l : List Vl) : Bool := l.all fun v => decide (v.1 = (l.getD 0 z0).1)
/-- What Encode answers: the error's number, the bytes. -/
def enc (l : List Vl) : Nat × List Nat :=
  if l.length = 0 ∨ 1000 < l.length ∨ l.all formed = false then (1, [])
  else if one l = false then (5, [])
  else if (l.getD 0 z0).1 = 1 then (0, pk (fbits (ns l)))
  else if (l.getD 0 z0).1 = 2 then (0, ibytes (ns l))
  else if (l.getD 0 z0).1 = 3 then (0, pk (bbits (ns l)))
  else if 4194304 < (laidT (ts l)).length then (4, [])
  else (0, sbytes (laidT (ts l)))

/-- T are n values of the kind k whose bytes b are. -/
def Of (k : Int) (n : Nat) (b : List Nat) (T : List Vl) : Prop := T.length = n ∧ (∀ v ∈ T, v.1 = k ∧ Wv v) ∧ enc T = (0, b)
theorem formed_kind {v : Vl} (h : formed v = true) : v.1 = 1 ∨ v.1 = 2 ∨ v.1 = 3 ∨ v.1 = 4 := by
  unfold formed at h
  split at h <;> rename_i h1
  · exact .inl h1
  · split at h <;> rename_i h2
    · exact .inr (.inl h2)
    · split at h <;> rename_i h3
      · exact .inr (.inr (.inl h3))
      · split at h <;> rename_i h4
        · exact .inr (.inr (.inr h4))
        · cases h
theorem Of.parts {k : Int} {n : Nat} {b : List Nat} {T : List Vl} (h : Of k n b T) : 1 ≤ n ∧ n ≤ 1000 ∧ (∀ v ∈ T, formed v = true) ∧ (T.getD 0 z0).1 = k ∧ (k = 1 ∨ k = 2 ∨ k = 3 ∨ k = 4) := by
  obtain ⟨h1, h2, h3⟩ := h
  unfold enc at h3
  split at h3
  · cases h3
  · rename_i g
    have g1 : T.length ≠ 0 := fun e => g (.inl e)
    have g2 : T.length ≤ 1000 := by
      by_cases e : T.length ≤ 1000
      · exact e
      · exact absurd (.inr (.inl (by omega))) g
    have g3 : ∀ v ∈ T, formed v = true := by
      cases e : T.all formed with
      | false => exact absurd (.inr (.inr e)) g
      | true => simpa using e
    have e0 : T.getD 0 z0 ∈ T := by rw [List.getD_eq_getElem?_getD, List.getElem?_eq_getElem (show 0 < T.length by omega)]; exact List.getElem_mem _
    have hk := (h2 _ e0).1
    refine ⟨by omega, by omega, g3, hk, ?_⟩
    rw [← hk]
    exact formed_kind (g3 _ e0)
theorem one_of {T : List Vl} (h : one T = true) : ∀ v ∈ T, v.1 = (T.getD 0 z0).1 := by simpa [one] using h
theorem Of.no {k : Int} {n : Nat} {b : List Nat} (h : ¬ (k = 1 ∨ k = 2 ∨ k = 3 ∨ k = 4)) (T : List Vl) : ¬ Of k n b T := fun o => h o.parts.2.2.2.2
theorem Of.enc1 {k : Int} {n : Nat} {b : List Nat} {T : List Vl} (h : Of k n b T) :
    (k = 1 → b = pk (fbits (ns T))) ∧ (k = 2 → b = ibytes (ns T)) ∧ (k = 3 → b = pk (bbits (ns T))) ∧ (k = 4 → (laidT (ts T)).length ≤ 4194304 ∧ b = sbytes (laidT (ts T))) := by
  obtain ⟨p1, p2, p3, p4, p5⟩ := h.parts
  obtain ⟨h1, h2, h3⟩ := h
  unfold enc at h3
  rw [if_neg (by
    rintro (e | e | e)
    · omega
    · omega
    · have : T.all formed = true := by simpa using p3
      rw [e] at this; cases this)] at h3
  split at h3
  · cases h3
  · rw [p4] at h3
    refine ⟨fun e => ?_, fun e => ?_, fun e => ?_, fun e => ?_⟩
    · subst e; rw [if_pos rfl] at h3; cases h3; rfl
    · subst e; rw [if_neg (by decide), if_pos rfl] at h3; cases h3; rfl
    · subst e; rw [if_neg (by decide), if_neg (by decide), if_pos rfl] at h3; cases h3; rfl
    · subst e; rw [if_neg (by decide), if_neg (by decide), if_neg (by decide)] at h3
      split at h3
      · cases h3
      · cases h3; exact ⟨by omega, rfl⟩
/-- Values of a kind that has numbers alone. -/
def mk (k : Int) (ns : List Nat) : List Vl := ns.map fun n => (k, n, [])
def mkT (ts : List (List Nat)) : List Vl := ts.map fun t => (4, 0, t)
theorem formed_text {v : Vl} (h : formed v = true) (h4 : v.1 ≠ 4) : v.2.2 = [] := by
  unfold formed at h
  rw [if_neg h4] at h
  split at h
  · simp at h; exact h.1
  · split at h
    · simpa using h
    · split at h
      · simp at h; exact h.1
      · cases h
theorem formed_num {v : Vl} (h : formed v = true) (h4 : v.1 = 4) : v.2.1 = 0 ∧ v.2.2.length ≤ 65536 := by
  unfold formed at h
  rw [if_neg (by rw [h4]; decide), if_neg (by rw [h4]; decide), if_neg (by rw [h4]; decide), if_pos h4] at h
  simpa using h
theorem formed_bool {v : Vl} (h : formed v = true) (h3 : v.1 = 3) : v.2.1 ≤ 1 := by
  unfold formed at h
  rw [if_neg (by rw [h3]; decide), if_neg (by rw [h3]; decide), if_pos h3] at h
  simp at h
  exact h.2
theorem Of.mk {k : Int} {n : Nat} {b : List Nat} {T : List Vl} (h : Of k n b T) (hk : k ≠ 4) : T = Cm.mk k (ns T) := by
  obtain ⟨_, _, p3, _, _⟩ := h.parts
  unfold Cm.mk ns
  rw [List.map_map]
  conv => lhs; rw [← List.map_id T]
  apply List.map_congr_left
  intro v hv
  have h1 := (h.2.1 v hv).1
  have h2 := formed_text (p3 v hv) (by rw [h1]; exact hk)
  simp only [id, Function.comp]
  rw [← h1, ← h2]
theorem Of.mkT {n : Nat} {b : List Nat} {T : List Vl} (h : Of 4 n b T) : T = Cm.mkT (ts T) := by
  obtain ⟨_, _, p3, _, _⟩ := h.parts
  unfold Cm.mkT ts
  rw [List.map_map]
  conv => lhs; rw [← List.map_id T]
  apply List.map_congr_left
  intro v hv
  have h1 := (h.2.1 v hv).1
  have h2 := (formed_num (p3 v hv) h1).1
  simp only [id, Function.comp]
  rw [← h1, ← h2]
theorem Of.ns_lt {k : Int} {n : Nat} {b : List Nat} {T : List Vl} (h : Of k n b T) : (∀ x ∈ ns T, x < 18446744073709551616) ∧ (ns T).length = n := by
  refine ⟨fun x hx => ?_, by simp [ns, h.1]⟩
  simp only [ns, List.mem_map] at hx
  obtain ⟨v, hv, rfl⟩ := hx
  exact (h.2.1 v hv).2.2.2.1
theorem mk_len (k : Int) (l : List Nat) : (mk k l).length = l.length := by simp [mk]
theorem mkT_len (l : List (List Nat)) : (mkT l).length = l.length := by simp [mkT]
theorem mk_wv {k : Int} {l : List Nat} (hk : k = 1 ∨ k = 2 ∨ k = 3 ∨ k = 4) (h : ∀ x ∈ l, x < 18446744073709551616) : ∀ v ∈ mk k l, v.1 = k ∧ Wv v := by
  intro v hv
  simp only [mk, List.mem_map] at hv
  obtain ⟨x, hx, rfl⟩ := hv
  exact ⟨rfl, by show _ ≤ k; omega, by show k ≤ _; omega, h x hx, fun y hy => by simp at hy⟩
theorem mkT_wv {l : List (List Nat)} (h : ∀ t ∈ l, ∀ x ∈ t, x < 256) : ∀ v ∈ mkT l, v.1 = 4 ∧ Wv v := by
  intro v hv
  simp only [mkT, List.mem_map] at hv
  obtain ⟨x, hx, rfl⟩ := hv
  exact ⟨rfl, by show (_ : Int) ≤ 4; decide, by show (4 : Int) ≤ _; decide, by show 0 < _; decide, h x hx⟩
end Cm
end Go.Proofs.YtjmddomkoholoaaGreatDoor

/- What is read of the bytes of values: plain mathematics. -/
namespace Go.Proofs.YtjmddomkoholoaaGreatDoor
open Go.RowKit
namespace Cm
open Bm Sz

/-! Floats. -/
def FB (b : List Nat) (n : Nat) (U : List Nat) : Prop := U.length = n ∧ (∀ x ∈ U, x < 2 ^ 64) ∧ pk (fbits U) = b
/-- So far out was read, up to the bit p. -/
def GF (b : List Nat) (n : Nat) (out : List Nat) (p : Nat) : Prop := ∀ U, FB b n U → ∃ A x r o, out = o ++ [x] ∧ U = out ++ r ∧ fbits U = A ++ fb x r ∧ A.length = p
def NF (b : List Nat) (n : Nat) : Prop := ∀ U, ¬ FB b n U
theorem NF.gf {b : List Nat} {n : Nat} (h : NF b n) (out : List Nat) (p : Nat) : GF b n out p := fun U hU => absurd hU (h U)
theorem gf_start {b : List Nat} {n : Nat} (hn : 1 ≤ n) : (64 ≤ 8 * b.length → GF b n [num (bo b) 0 64] 64) ∧ (8 * b.length < 64 → NF b n) := by
  have core : ∀ U, FB b n U → ∃ x r, U = x :: r ∧ 64 ≤ 8 * b.length ∧ num (bo b) 0 64 = x := by
    rintro U ⟨h1, h2, h3⟩
    cases U with
    | nil => simp at h1; omega
    | cons x r =>
      have := num_pk [] (fb x r) x 64
      simp only [List.nil_append, List.length_nil] at this
      have e : pk (bv x 64 ++ fb x r) = b := h3
      rw [e] at this
      refine ⟨x, r, rfl, by omega, ?_⟩
      rw [this.2]
      exact Nat.mod_eq_of_lt (h2 x (by simp))
  refine ⟨fun _ U hU => ?_, fun h U hU => ?_⟩
  · obtain ⟨x, r, rfl, _, e⟩ := core U hU
    exact ⟨bv x 64, x, r, [], by rw [e]; rfl, by rw [e]; rfl, rfl, bv_len _ _⟩
  · obtain ⟨x, r, rfl, h', _⟩ := core U hU
    omega
theorem gf_core {b : List Nat} {n p : Nat} {o : List Nat} {x : Nat} (hg : GF b n (o ++ [x]) p) (hn : o.length + 1 < n) (U : List Nat) (hU : FB b n U) :
    ∃ A y r, U = o ++ [x] ++ [y] ++ r ∧ fbits U = A ++ (ub (y ^^^ x) ++ fb y r) ∧ A.length = p ∧
      ((y ^^^ x = 0 ∧ p + 1 ≤ 8 * b.length ∧ num (bo b) p 1 = 0) ∨
       (y ^^^ x ≠ 0 ∧ y ^^^ x < 2 ^ 64 ∧ p + 13 + sp (y ^^^ x) ≤ 8 * b.length ∧ num (bo b) p 1 = 1 ∧ num (bo b) (p + 1) 6 = hi (y ^^^ x) ∧ num (bo b) (p + 7) 6 = sp (y ^^^ x) - 1 ∧
        num (bo b) (p + 13) (sp (y ^^^ x)) = (y ^^^ x) / 2 ^ lo (y ^^^ x))) := by
  obtain ⟨A, x', r, o', h1, h2, h3, h4⟩ := hg U hU
  obtain ⟨u1, u2, u3⟩ := hU
  obtain ⟨rfl, e⟩ := List.append_inj' h1 rfl
  simp only [List.cons.injEq, and_true] at e
  subst e
  cases r with
  | nil => rw [h2] at u1; simp at u1; omega
  | cons y r =>
    have e : fb x (y :: r) = ub (y ^^^ x) ++ fb y r := rfl
    rw [e] at h3
    refine ⟨A, y, r, by rw [h2]; simp, h3, h4, ?_⟩
    have hx : x < 2 ^ 64 := u2 x (by rw [h2]; simp)
    have hy : y < 2 ^ 64 := u2 y (by rw [h2]; simp)
    rw [h3] at u3
    subst h4
    by_cases h0 : y ^^^ x = 0
    · rw [h0, ub_zero] at u3
      have := num_pk A (fb y r) 0 1
      rw [u3] at this
      exact .inl ⟨h0, this.1, by rw [this.2]⟩
    · have hxy : y ^^^ x < 2 ^ 64 := Nat.xor_lt_two_pow hy hx
      rw [ub_some h0] at u3
      obtain ⟨s1, s2, s3, s4⟩ := sp_spec h0 hxy
      generalize hD : y ^^^ x = D at *
      simp only [List.append_assoc] at u3
      have n1 := num_pk A (bv (hi D) 6 ++ (bv (sp D - 1) 6 ++ (bv (D / 2 ^ lo D) (sp D) ++ fb y r))) 1 1
      rw [u3] at n1
      have n2 := num_pk (A ++ bv 1 1) (bv (sp D - 1) 6 ++ (bv (D / 2 ^ lo D) (sp D) ++ fb y r)) (hi D) 6
      simp only [List.append_assoc] at n2
      rw [u3, List.length_append, bv_len] at n2
      have n3 := num_pk (A ++ (bv 1 1 ++ bv (hi D) 6)) (bv (D / 2 ^ lo D) (sp D) ++ fb y r) (sp D - 1) 6
      simp only [List.append_assoc] at n3
      rw [u3, List.length_append, List.length_append, bv_len, bv_len] at n3
      have n4 := num_pk (A ++ (bv 1 1 ++ (bv (hi D) 6 ++ bv (sp D - 1) 6))) (fb y r) (D / 2 ^ lo D) (sp D)
      simp only [List.append_assoc] at n4
      rw [u3, List.length_append, List.length_append, List.length_append, bv_len, bv_len, bv_len] at n4
      refine .inr ⟨h0, hxy, ?_, ?_, ?_, ?_, ?_⟩
      · have := n4.1; simp only [show 1 + (6 + 6) = 13 from rfl] at this; omega
      · rw [n1.2]
      · rw [n2.2]; exact Nat.mod_eq_of_lt (by omega)
      · have := n3.2; simp only [show 1 + 6 = 7 from rfl] at this; rw [this]; exact Nat.mod_eq_of_lt (by omega)
      · have := n4.2; simp only [show 1 + (6 + 6) = 13 from rfl] at this; rw [this]; exact Nat.mod_eq_of_lt s3
section
variable {b : List Nat} {n p : Nat} {o : List Nat} {x : Nat}
theorem gf_end (hg : GF b n (o ++ [x]) p) (hn : o.length + 1 < n) (h : 8 * b.length < p + 1) : NF b n := fun U hU => by
  obtain ⟨A, y, r, _, _, _, c | c⟩ := gf_core hg hn U hU <;> omega
theorem gf_zero (hg : GF b n (o ++ [x]) p) (hn : o.length + 1 < n) (h : num (bo b) p 1 = 0) : GF b n (o ++ [x] ++ [x]) (p + 1) := fun U hU => by
  obtain ⟨A, y, r, h1, h2, h3, c | c⟩ := gf_core hg hn U hU
  · have e : y = x := by
      have h' := congrArg (· ^^^ x) c.1
      simpa [Nat.xor_assoc] using h'
    subst e
    rw [c.1, ub_zero] at h2
    exact ⟨A ++ bv 0 1, y, r, o ++ [y], rfl, h1, by rw [h2, List.append_assoc], by rw [List.length_append, bv_len, h3]⟩
  · omega
theorem gf_13 (hg : GF b n (o ++ [x]) p) (hn : o.length + 1 < n) (h1 : num (bo b) p 1 ≠ 0) (h : 8 * b.length < p + 13) : NF b n := fun U hU => by
  obtain ⟨A, y, r, _, _, _, c | c⟩ := gf_core hg hn U hU <;> omega
theorem gf_wide (hg : GF b n (o ++ [x]) p) (hn : o.length + 1 < n) (h1 : num (bo b) p 1 ≠ 0) (h : 64 < num (bo b) (p + 1) 6 + (num (bo b) (p + 7) 6 + 1)) : NF b n := fun U hU => by
  obtain ⟨A, y, r, _, _, _, c | c⟩ := gf_core hg hn U hU
  · omega
  · have := sp_spec c.1 c.2.1
    omega
theorem gf_few (hg : GF b n (o ++ [x]) p) (hn : o.length + 1 < n) (h1 : num (bo b) p 1 ≠ 0) (h : 8 * b.length < p + 13 + (num (bo b) (p + 7) 6 + 1)) : NF b n := fun U hU => by
  obtain ⟨A, y, r, _, _, _, c | c⟩ := gf_core hg hn U hU
  · omega
  · have := sp_spec c.1 c.2.1
    omega
theorem gf_some (hg : GF b n (o ++ [x]) p) (hn : o.length + 1 < n) (h1 : num (bo b) p 1 ≠ 0) (z s : Nat) (hz : num (bo b) (p + 1) 6 = z) (hs : num (bo b) (p + 7) 6 + 1 = s) :
    GF b n (o ++ [x] ++ [x ^^^ (num (bo b) (p + 13) s * 2 ^ (64 - z - s))]) (p + 13 + s) := fun U hU => by
  obtain ⟨A, y, r, e1, e2, e3, c | c⟩ := gf_core hg hn U hU
  · omega
  · have q := sp_spec c.1 c.2.1
    obtain rfl : z = hi (y ^^^ x) := by omega
    obtain rfl : s = sp (y ^^^ x) := by omega
    have e : x ^^^ (num (bo b) (p + 13) (sp (y ^^^ x)) * 2 ^ (64 - hi (y ^^^ x) - sp (y ^^^ x))) = y := by
      rw [c.2.2.2.2.2.2, show 64 - hi (y ^^^ x) - sp (y ^^^ x) = lo (y ^^^ x) from by omega, q.2.2.2, Nat.xor_comm y x, ← Nat.xor_assoc, Nat.xor_self, Nat.zero_xor]
    rw [e]
    refine ⟨A ++ ub (y ^^^ x), y, r, o ++ [x], rfl, e1, by rw [e2, List.append_assoc], ?_⟩
    rw [List.length_append, ub_some c.1]
    simp only [List.length_append, bv_len]
    omega
end
theorem gf_done {b out : List Nat} {n p : Nat} (hg : GF b n out p) (hl : out.length = n) (T : List Vl) (h : Of 1 n b T) : T = mk 1 out := by
  have h1 := h.ns_lt
  obtain ⟨A, x, r, o, _, e, _⟩ := hg (ns T) ⟨h1.2, h1.1, (h.enc1.1 rfl).symm⟩
  have : r = [] := by
    have := h1.2
    rw [e, List.length_append] at this
    exact List.length_eq_zero_iff.1 (by omega)
  rw [h.mk (by decide), e, this, List.append_nil]
theorem nf_done {b : List Nat} {n : Nat} (hg : NF b n) (T : List Vl) : ¬ Of 1 n b T := fun h => hg (ns T) ⟨h.ns_lt.2, h.ns_lt.1, (h.enc1.1 rfl).symm⟩

/-- A reading, where the reader may be bad. -/
def rg (b : List Nat) (q : Option Nat) (N : Nat) : Nat × Option Nat := match q with
  | none => (0, none)
  | some p => if p + N ≤ 8 * b.length then (num (bo b) p N, some (p + N)) else (0, none)
def gu (b : List Nat) (q : Option Nat) : Nat × Option Nat :=
  let a := rg b q 1
  if a.1 = 0 then (0, a.2) else
  let z := rg b a.2 6
  let s := rg b z.2 6
  if 64 < z.1 + (s.1 + 1) then (0, s.2) else
  let v := rg b s.2 (s.1 + 1)
  (v.1 * 2 ^ (64 - z.1 - (s.1 + 1)), v.2)
def GO (b : List Nat) (n : Nat) (out : List Nat) : Option Nat → Prop
  | none => NF b n
  | some p => GF b n out p
theorem rg_lt (b : List Nat) (q : Option Nat) (N : Nat) : (rg b q N).1 < 2 ^ N := by
  unfold rg
  split
  · exact Nat.two_pow_pos N
  · split
    · exact num_lt _ _ _
    · exact Nat.two_pow_pos N
theorem gu_lt (b : List Nat) (q : Option Nat) : (gu b q).1 < 2 ^ 64 := by
  unfold gu
  simp only
  split
  · exact Nat.two_pow_pos 64
  · split
    · exact Nat.two_pow_pos 64
    · have h := rg_lt b (rg b (rg b (rg b q 1).2 6).2 6).2 ((rg b (rg b (rg b q 1).2 6).2 6).1 + 1)
      generalize rg b (rg b (rg b (rg b q 1).2 6).2 6).2 ((rg b (rg b (rg b q 1).2 6).2 6).1 + 1) = v at *
      generalize (rg b (rg b q 1).2 6).1 = z at *
      generalize (rg b (rg b (rg b q 1).2 6).2 6).1 = s at *
      have h2 := Nat.mul_lt_mul_of_pos_right h (Nat.two_pow_pos (64 - z - (s + 1)))
      rw [← Nat.pow_add] at h2
      exact Nat.lt_of_lt_of_le h2 (Nat.pow_le_pow_right (by decide) (by omega))
theorem go_step {b : List Nat} {n : Nat} {o : List Nat} {x : Nat} {q : Option Nat} (hg : GO b n (o ++ [x]) q) (hn : o.length + 1 < n) : GO b n (o ++ [x] ++ [x ^^^ (gu b q).1]) (gu b q).2 := by
  cases q with
  | none => exact hg
  | some p =>
    have hg' : GF b n (o ++ [x]) p := hg
    by_cases h1 : p + 1 ≤ 8 * b.length
    · have r1 : rg b (some p) 1 = (num (bo b) p 1, some (p + 1)) := by unfold rg; simp only; rw [if_pos h1]
      by_cases h0 : num (bo b) p 1 = 0
      · have e : gu b (some p) = (0, some (p + 1)) := by unfold gu; simp only [r1]; rw [if_pos h0]
        rw [e]
        simp only [Nat.xor_zero]
        exact gf_zero hg' hn h0
      · by_cases h7 : p + 7 ≤ 8 * b.length
        · have r2 : rg b (some (p + 1)) 6 = (num (bo b) (p + 1) 6, some (p + 7)) := by unfold rg; simp only; rw [if_pos (by omega)]
          by_cases h13 : p + 13 ≤ 8 * b.length
          · have r3 : rg b (some (p + 7)) 6 = (num (bo b) (p + 7) 6, some (p + 13)) := by unfold rg; simp only; rw [if_pos (by omega)]
            by_cases hw : 64 < num (bo b) (p + 1) 6 + (num (bo b) (p + 7) 6 + 1)
            · have e : gu b (some p) = (0, some (p + 13)) := by unfold gu; simp only [r1, r2, r3]; rw [if_neg h0, if_pos hw]
              rw [e]
              exact (gf_wide hg' hn h0 hw).gf _ _
            · by_cases hs : p + 13 + (num (bo b) (p + 7) 6 + 1) ≤ 8 * b.length
              · have e : gu b (some p) = (num (bo b) (p + 13) (num (bo b) (p + 7) 6 + 1) * 2 ^ (64 - num (bo b) (p + 1) 6 - (num (bo b) (p + 7) 6 + 1)), some (p + 13 + (num (bo b) (p + 7) 6 + 1))) := by
                  unfold gu; simp only [r1, r2, r3]; rw [if_neg h0, if_neg hw]; unfold rg; simp only; rw [if_pos hs]
                rw [e]
                exact gf_some hg' hn h0 _ _ rfl rfl
              · have e : (gu b (some p)).2 = none := by
                  unfold gu; simp only [r1, r2, r3]; rw [if_neg h0, if_neg hw]; unfold rg; simp only; rw [if_neg hs]
                rw [e]
                exact gf_few hg' hn h0 (by omega)
          · have r3 : rg b (some (p + 7)) 6 = (0, none) := by unfold rg; simp only; rw [if_neg (by omega)]
            have e : (gu b (some p)).2 = none := by
              unfold gu; simp only [r1, r2, r3]; rw [if_neg h0]; split <;> rfl
            rw [e]
            exact gf_13 hg' hn h0 (by omega)
        · have r2 : rg b (some (p + 1)) 6 = (0, none) := by unfold rg; simp only; rw [if_neg (by omega)]
          have e : (gu b (some p)).2 = none := by
            unfold gu; simp only [r1, r2]; rw [if_neg h0]; split <;> rfl
          rw [e]
          exact gf_13 hg' hn h0 (by omega)
    · have r1 : rg b (some p) 1 = (0, none) := by unfold rg; simp only; rw [if_neg h1]
      have e : (gu b (some p)).2 = none := by unfold gu; simp only [r1]; rfl
      rw [e]
      exact gf_end hg' hn (by omega)
theorem go_start {b : List Nat} {n : Nat} (hn : 1 ≤ n) : GO b n [(rg b (some 0) 64).1] (rg b (some 0) 64).2 := by
  unfold rg
  simp only
  split
  · rename_i h; exact (gf_start hn).1 (by omega)
  · rename_i h; exact (gf_start hn).2 (by omega)
theorem go_done {b out : List Nat} {n : Nat} {q : Option Nat} (hg : GO b n out q) (hl : out.length = n) (T : List Vl) (h : Of 1 n b T) : T = mk 1 out := by
  cases q with
  | none => exact absurd h (nf_done hg T)
  | some p => exact gf_done hg hl T h
end Cm
end Go.Proofs.YtjmddomkoholoaaGreatDoor
