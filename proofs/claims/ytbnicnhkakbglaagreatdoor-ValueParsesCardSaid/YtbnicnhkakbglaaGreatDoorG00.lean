import Init

/- Decimal digits: plain mathematics. -/
namespace Go.Proofs.YtbnicnhkakbglaaGreatDoor
namespace Dm

/-- How many digits. -/
def dlen (n : Nat) : Nat := if h : n = 0 then 0 else dlen (n / 10) + 1
  termination_by n
  decreasing_by omega
theorem dlen_zero : dlen 0 = 0 := by unfold dlen; simp
theorem dlen_pos {n : Nat} (h : n ≠ 0) : dlen n = dlen (n / 10) + 1 := by rw [dlen]; simp [h]
theorem lt_dlen (n : Nat) : n < 10 ^ dlen n := by
  induction n using Nat.strongRecOn with
  | ind n ih =>
    by_cases h : n = 0
    · rw [h, dlen_zero]; decide
    · rw [dlen_pos h, Nat.pow_succ]
      have := ih (n / 10) (by omega)
      omega
theorem dlen_le {n : Nat} (h : n ≠ 0) : 10 ^ (dlen n - 1) ≤ n := by
  induction n using Nat.strongRecOn with
  | ind n ih =>
    rw [dlen_pos h, Nat.add_sub_cancel]
    by_cases h' : n / 10 = 0
    · rw [h', dlen_zero]; simp; omega
    · have := ih (n / 10) (by omega) h'
      have e : dlen (n / 10) = dlen (n / 10) - 1 + 1 := by rw [dlen_pos h']; omega
      rw [e, Nat.pow_succ]
      omega
theorem dlen_of {n k : Nat} (h1 : 10 ^ k ≤ n) (h2 : n < 10 ^ (k + 1)) : dlen n = k + 1 := by
  have hn : n ≠ 0 := by have := Nat.pow_pos (n := k) (show 0 < 10 by decide); omega
  have a := lt_dlen n
  have b := dlen_le hn
  have c1 : k < dlen n := (Nat.pow_lt_pow_iff_right (by decide)).1 (Nat.lt_of_le_of_lt h1 a)
  have c2 : dlen n - 1 < k + 1 := (Nat.pow_lt_pow_iff_right (by decide)).1 (Nat.lt_of_le_of_lt b h2)
  omega
theorem dlen_one {n : Nat} (h : n ≠ 0) : 1 ≤ dlen n := by rw [dlen_pos h]; omega
theorem dlen_mul10 {n : Nat} (h : n ≠ 0) (j : Nat) : dlen (n * 10 ^ j) = dlen n + j := by
  have a := lt_dlen n
  have b := dlen_le h
  have c := dlen_one h
  have e : dlen n + j = (dlen n - 1 + j) + 1 := by omega
  rw [e]
  refine dlen_of ?_ ?_
  · rw [Nat.pow_add]; exact Nat.mul_le_mul_right _ b
  · rw [show dlen n - 1 + j + 1 = dlen n + j from by omega, Nat.pow_add]
    exact Nat.mul_lt_mul_of_pos_right a (Nat.pow_pos (by decide))
theorem dlen_mono {a b : Nat} (h : a ≤ b) : dlen a ≤ dlen b := by
  by_cases ha : a = 0
  · rw [ha, dlen_zero]; omega
  · have h1 := dlen_le ha
    have h2 := lt_dlen b
    have := (Nat.pow_lt_pow_iff_right (a := 10) (by decide)).1 (Nat.lt_of_le_of_lt (Nat.le_trans h1 h) h2)
    omega

/-- The i-th digit from the left; noughts behind the last. -/
def sdg (n i : Nat) : Nat := n * 10 ^ (i + 1) / 10 ^ dlen n % 10
theorem sdg_lt (n i : Nat) : sdg n i < 10 := Nat.mod_lt _ (by decide)
theorem sdg_mul (n j i : Nat) : sdg (n * 10 ^ j) i = sdg n i := by
  by_cases h : n = 0
  · rw [h]; simp
  · unfold sdg
    rw [dlen_mul10 h, Nat.pow_add 10 (dlen n) j, show n * 10 ^ j * 10 ^ (i + 1) = n * 10 ^ (i + 1) * 10 ^ j from by rw [Nat.mul_assoc, Nat.mul_comm (10 ^ j), ← Nat.mul_assoc], Nat.mul_div_mul_right _ _ (Nat.pow_pos (by decide))]
theorem sdg_right (n i : Nat) (h : i < dlen n) : sdg n i = n / 10 ^ (dlen n - 1 - i) % 10 := by
  unfold sdg
  have e : 10 ^ dlen n = 10 ^ (dlen n - 1 - i) * 10 ^ (i + 1) := by rw [← Nat.pow_add]; congr 1; omega
  rw [e, Nat.mul_div_mul_right _ _ (Nat.pow_pos (by decide))]
theorem sdg_first {n : Nat} (h : n ≠ 0) : 1 ≤ sdg n 0 := by
  have h1 := dlen_one h
  rw [sdg_right n 0 h1, Nat.sub_zero]
  have a := lt_dlen n
  have b := dlen_le h
  have e : 10 ^ dlen n = 10 ^ (dlen n - 1) * 10 := by rw [← Nat.pow_succ]; congr 1; omega
  have hp : 0 < 10 ^ (dlen n - 1) := Nat.pow_pos (by decide)
  have l1 : n / 10 ^ (dlen n - 1) < 10 := by rw [Nat.div_lt_iff_lt_mul hp, Nat.mul_comm, ← e]; exact a
  have l2 : 1 ≤ n / 10 ^ (dlen n - 1) := (Nat.le_div_iff_mul_le hp).2 (by omega)
  omega

/-- The first 800 digits. -/
def cut (n : Nat) : Nat := n / 10 ^ (dlen n - 800)
def lost (n : Nat) : Bool := decide (n % 10 ^ (dlen n - 800) ≠ 0)
/-- Without noughts at the end. -/
def strip (n : Nat) : Nat := if h : n ≠ 0 ∧ n % 10 = 0 then strip (n / 10) else n
  termination_by n
  decreasing_by omega
end Dm
end Go.Proofs.YtbnicnhkakbglaaGreatDoor

/- Decimal digits shifted to the left: plain mathematics. -/
namespace Go.Proofs.YtbnicnhkakbglaaGreatDoor
namespace Dm

/-- How many digits the first of two numbers' digits are fewer: the table's columns. -/
structure Cheat (k dl l5 : Nat) : Prop where
  lo : 10 ^ (dl - 1) ≤ 2 ^ k
  hi : 2 ^ k < 10 ^ dl
  one : 1 ≤ dl
  len : dl + l5 = k + 1
  five : dlen (5 ^ k) = l5

/-- Is 0.N less than 0.5^k? -/
def less (n k l5 : Nat) : Bool := decide (n * 10 ^ l5 < 5 ^ k * 10 ^ dlen n)
theorem shl_len {n k dl l5 : Nat} (hn : n ≠ 0) (c : Cheat k dl l5) : dlen (n * 2 ^ k) = dlen n + dl - (if less n k l5 then 1 else 0) := by
  have a := lt_dlen n
  have b := dlen_le hn
  have h1 := dlen_one hn
  have c1 := c.one
  have hten : (5 : Nat) ^ k * 2 ^ k = 10 ^ k := by rw [← Nat.mul_pow]
  have hk : k = (dl - 1) + l5 := by have := c.len; omega
  have p10 : ∀ m : Nat, 0 < 10 ^ m := fun m => Nat.pow_pos (by decide)
  unfold less
  by_cases h : n * 10 ^ l5 < 5 ^ k * 10 ^ dlen n
  · rw [decide_eq_true h]
    simp only [if_true]
    have e : dlen n + dl - 1 = (dlen n + dl - 2) + 1 := by omega
    rw [e]
    refine dlen_of ?_ ?_
    · have : 10 ^ (dlen n - 1) * 10 ^ (dl - 1) ≤ n * 2 ^ k := Nat.mul_le_mul b c.lo
      rwa [← Nat.pow_add, show dlen n - 1 + (dl - 1) = dlen n + dl - 2 from by omega] at this
    · have h2 : n * 10 ^ l5 * 2 ^ k < 5 ^ k * 10 ^ dlen n * 2 ^ k := Nat.mul_lt_mul_of_pos_right h (Nat.pow_pos (by decide))
      have e1 : 5 ^ k * 10 ^ dlen n * 2 ^ k = 10 ^ (dlen n + (dl - 1)) * 10 ^ l5 := by
        rw [Nat.mul_assoc, Nat.mul_comm (10 ^ dlen n), ← Nat.mul_assoc, hten, ← Nat.pow_add, ← Nat.pow_add]
        congr 1; omega
      have e2 : n * 10 ^ l5 * 2 ^ k = n * 2 ^ k * 10 ^ l5 := by rw [Nat.mul_assoc, Nat.mul_comm (10 ^ l5), ← Nat.mul_assoc]
      rw [e1, e2] at h2
      have := Nat.lt_of_mul_lt_mul_right h2
      rwa [show dlen n + (dl - 1) = dlen n + dl - 2 + 1 from by omega] at this
  · rw [decide_eq_false h]
    simp only [Bool.false_eq_true, if_false, Nat.sub_zero]
    have e : dlen n + dl = (dlen n + dl - 1) + 1 := by omega
    rw [e]
    refine dlen_of ?_ ?_
    · have h2 : 5 ^ k * 10 ^ dlen n * 2 ^ k ≤ n * 10 ^ l5 * 2 ^ k := Nat.mul_le_mul_right _ (Nat.le_of_not_lt h)
      have e1 : 5 ^ k * 10 ^ dlen n * 2 ^ k = 10 ^ (dlen n + (dl - 1)) * 10 ^ l5 := by
        rw [Nat.mul_assoc, Nat.mul_comm (10 ^ dlen n), ← Nat.mul_assoc, hten, ← Nat.pow_add, ← Nat.pow_add]
        congr 1; omega
      have e2 : n * 10 ^ l5 * 2 ^ k = n * 2 ^ k * 10 ^ l5 := by rw [Nat.mul_assoc, Nat.mul_comm (10 ^ l5), ← Nat.mul_assoc]
      rw [e1, e2] at h2
      have := Nat.le_of_mul_le_mul_right h2 (p10 l5)
      rwa [show dlen n + (dl - 1) = dlen n + dl - 1 from by omega] at this
    · have h2 : n * 2 ^ k < 10 ^ dlen n * 10 ^ dl := by
        have x1 : n * 2 ^ k < 10 ^ dlen n * 2 ^ k := Nat.mul_lt_mul_of_pos_right a (Nat.pow_pos (by decide))
        have x2 : 10 ^ dlen n * 2 ^ k ≤ 10 ^ dlen n * 10 ^ dl := Nat.mul_le_mul_left _ (Nat.le_of_lt c.hi)
        omega
      rwa [← Nat.pow_add, show dlen n + dl = dlen n + dl - 1 + 1 from by omega] at h2

/-- The carry behind e digits. -/
def carry (n k e : Nat) : Nat := n % 10 ^ e * 2 ^ k / 10 ^ e
theorem carry_lt (n k e : Nat) : carry n k e < 2 ^ k := by
  unfold carry
  rw [Nat.div_lt_iff_lt_mul (Nat.pow_pos (by decide)), Nat.mul_comm (2 ^ k)]
  exact Nat.mul_lt_mul_of_pos_right (Nat.mod_lt _ (Nat.pow_pos (by decide))) (Nat.pow_pos (by decide))
/-- One more digit: the carry with the digit, its quotient and its rest. -/
theorem carry_step (n k e : Nat) : (carry n k e + n / 10 ^ e % 10 * 2 ^ k) / 10 = carry n k (e + 1) ∧ (carry n k e + n / 10 ^ e % 10 * 2 ^ k) % 10 = n * 2 ^ k / 10 ^ e % 10 := by
  have hp : 0 < 10 ^ e := Nat.pow_pos (by decide)
  have e1 : n % 10 ^ (e + 1) = n % 10 ^ e + 10 ^ e * (n / 10 ^ e % 10) := Nat.mod_pow_succ
  have e2 : carry n k e + n / 10 ^ e % 10 * 2 ^ k = n % 10 ^ (e + 1) * 2 ^ k / 10 ^ e := by
    unfold carry
    rw [e1, Nat.add_mul, Nat.mul_assoc, Nat.add_mul_div_left _ _ hp]
  rw [e2]
  refine ⟨?_, ?_⟩
  · unfold carry
    rw [Nat.div_div_eq_div_mul, ← Nat.pow_succ]
  · have e3 : n * 2 ^ k = n % 10 ^ (e + 1) * 2 ^ k + 10 ^ e * (10 * (n / 10 ^ (e + 1) * 2 ^ k)) := by
      have e4 := Nat.mod_add_div n (10 ^ (e + 1))
      calc n * 2 ^ k = (n % 10 ^ (e + 1) + 10 ^ (e + 1) * (n / 10 ^ (e + 1))) * 2 ^ k := by rw [e4]
        _ = _ := by rw [Nat.add_mul, Nat.pow_succ, Nat.mul_assoc, Nat.mul_assoc]
    rw [e3, Nat.add_mul_div_left _ _ hp, Nat.add_mul_mod_self_left]
theorem carry_all {n e : Nat} (k : Nat) (h : dlen n ≤ e) : carry n k e = n * 2 ^ k / 10 ^ e := by
  unfold carry
  rw [Nat.mod_eq_of_lt (Nat.lt_of_lt_of_le (lt_dlen n) (Nat.pow_le_pow_right (by decide) h))]
end Dm
end Go.Proofs.YtbnicnhkakbglaaGreatDoor

/- Decimal digits shifted to the right; noughts at the end: plain mathematics. -/
namespace Go.Proofs.YtbnicnhkakbglaaGreatDoor
namespace Dm

theorem p10 (m : Nat) : 0 < 10 ^ m := Nat.pow_pos (by decide)
/-- The number of the first r digits. -/
def top (n r : Nat) : Nat := n * 10 ^ r / 10 ^ dlen n
theorem top_zero (n : Nat) : top n 0 = 0 := by
  unfold top
  rw [Nat.pow_zero, Nat.mul_one, Nat.div_eq_of_lt (lt_dlen n)]
theorem top_div (n r : Nat) : top n (r + 1) / 10 = top n r := by
  unfold top
  rw [Nat.div_div_eq_div_mul, Nat.mul_comm (10 ^ dlen n), Nat.pow_succ, ← Nat.mul_assoc, Nat.mul_comm (n * 10 ^ r) 10, Nat.mul_div_mul_left _ _ (by decide)]
theorem top_mod (n r : Nat) : top n (r + 1) % 10 = sdg n r := rfl
theorem top_succ (n r : Nat) : top n (r + 1) = top n r * 10 + sdg n r := by
  rw [← top_div n r, ← top_mod n r]
  omega
theorem sdg_past (n i : Nat) (h : dlen n ≤ i) : sdg n i = 0 := by
  unfold sdg
  have e : 10 ^ (i + 1) = 10 ^ (i - dlen n) * 10 * 10 ^ dlen n := by rw [← Nat.pow_succ, ← Nat.pow_add]; congr 1; omega
  rw [e, ← Nat.mul_assoc, Nat.mul_div_cancel _ (p10 _), ← Nat.mul_assoc, Nat.mul_mod_left]
theorem top_first {n : Nat} (h : n ≠ 0) (r : Nat) : 10 ^ r ≤ top n (r + 1) := by
  induction r with
  | zero =>
    have := sdg_first h
    rw [top_succ, top_zero]
    omega
  | succ r ih => rw [top_succ, Nat.pow_succ]; omega

/-- How many digits the first part takes. -/
theorem shr_pos {n k R : Nat} (hn : n ≠ 0) (h1 : 2 ^ k ≤ top n (R + 1)) (h2 : top n R < 2 ^ k) : dlen (n * 5 ^ k) + R = dlen n + k := by
  have hten : (2 : Nat) ^ k * 5 ^ k = 10 ^ k := by rw [← Nat.mul_pow]
  have f5 : 0 < 5 ^ k := Nat.pow_pos (by decide)
  have g1 : 2 ^ k * 10 ^ dlen n ≤ n * 10 ^ (R + 1) := (Nat.le_div_iff_mul_le (p10 _)).1 h1
  have g2 : n * 10 ^ R < 2 ^ k * 10 ^ dlen n := (Nat.div_lt_iff_lt_mul (p10 _)).1 h2
  have e1 : 2 ^ k * 10 ^ dlen n * 5 ^ k = 10 ^ (dlen n + k) := by
    rw [Nat.mul_assoc, Nat.mul_comm (10 ^ dlen n), ← Nat.mul_assoc, hten, ← Nat.pow_add]
    congr 1; omega
  have k1 : 10 ^ (dlen n + k) ≤ n * 5 ^ k * 10 ^ (R + 1) := by
    rw [← e1, Nat.mul_right_comm n]
    exact Nat.mul_le_mul_right _ g1
  have k2 : n * 5 ^ k * 10 ^ R < 10 ^ (dlen n + k) := by
    rw [← e1, Nat.mul_right_comm n]
    exact Nat.mul_lt_mul_of_pos_right g2 f5
  have hN : n * 5 ^ k ≠ 0 := by
    intro e
    rcases Nat.mul_eq_zero.1 e with e | e
    · exact hn e
    · omega
  have hR : R ≤ dlen n + k := by
    by_cases hR : R ≤ dlen n + k
    · exact hR
    · exfalso
      have : 10 ^ (dlen n + k) ≤ 10 ^ R := Nat.pow_le_pow_right (by decide) (by omega)
      have : 1 * 10 ^ R ≤ n * 5 ^ k * 10 ^ R := Nat.mul_le_mul_right _ (Nat.one_le_iff_ne_zero.2 hN)
      omega
  have lo : n * 5 ^ k < 10 ^ (dlen n + k - R) := by
    have : n * 5 ^ k * 10 ^ R < 10 ^ (dlen n + k - R) * 10 ^ R := by
      rw [← Nat.pow_add, show dlen n + k - R + R = dlen n + k from by omega]; exact k2
    exact Nat.lt_of_mul_lt_mul_right this
  by_cases hq : dlen n + k = R
  · rw [show dlen n + k - R = 0 from by omega, Nat.pow_zero] at lo
    omega
  · have hi : 10 ^ (dlen n + k - R - 1) ≤ n * 5 ^ k := by
      have : 10 ^ (dlen n + k - R - 1) * 10 ^ (R + 1) ≤ n * 5 ^ k * 10 ^ (R + 1) := by
        rw [← Nat.pow_add, show dlen n + k - R - 1 + (R + 1) = dlen n + k from by omega]; exact k1
      exact Nat.le_of_mul_le_mul_right this (p10 _)
    have := dlen_of hi (by rw [show dlen n + k - R - 1 + 1 = dlen n + k - R from by omega]; exact lo)
    omega
/-- The quotients are the shifted number's first digits. -/
theorem shr_top {n k R : Nat} (h : dlen (n * 5 ^ k) + R = dlen n + k) (w : Nat) : top n (R + w) / 2 ^ k = top (n * 5 ^ k) w := by
  have hten : (2 : Nat) ^ k * 5 ^ k = 10 ^ k := by rw [← Nat.mul_pow]
  have f5 : 0 < 5 ^ k := Nat.pow_pos (by decide)
  unfold top
  rw [Nat.div_div_eq_div_mul, ← Nat.mul_div_mul_right _ _ f5]
  have e1 : 10 ^ dlen n * 2 ^ k * 5 ^ k = 10 ^ dlen (n * 5 ^ k) * 10 ^ R := by
    rw [Nat.mul_assoc, hten, ← Nat.pow_add, ← Nat.pow_add, h]
  have e2 : n * 10 ^ (R + w) * 5 ^ k = n * 5 ^ k * 10 ^ w * 10 ^ R := by
    rw [Nat.pow_add, Nat.mul_comm (10 ^ R), ← Nat.mul_assoc, Nat.mul_assoc n (10 ^ w), Nat.mul_assoc, Nat.mul_assoc n, Nat.mul_assoc n]
    congr 1
    rw [Nat.mul_comm (10 ^ w * 10 ^ R), Nat.mul_assoc]
  rw [e1, e2, Nat.mul_div_mul_right _ _ (p10 _)]
/-- What is left ahead of the digit w. -/
def rest (n k R w : Nat) : Nat := if w = 0 then top n R else top n (R + w - 1) % 2 ^ k * 10 + sdg n (R + w - 1)
theorem rest_digit {n k R : Nat} (hR : 1 ≤ R) (h : dlen (n * 5 ^ k) + (R - 1) = dlen n + k) (w : Nat) : rest n k R w / 2 ^ k = sdg (n * 5 ^ k) w ∧ rest n k R (w + 1) = rest n k R w % 2 ^ k * 10 + sdg n (R + w) := by
  have f2 : 0 < 2 ^ k := Nat.pow_pos (by decide)
  have key : ∀ w, rest n k R w = top n (R + w) - top (n * 5 ^ k) w * 10 * 2 ^ k ∧ top (n * 5 ^ k) w * 10 * 2 ^ k ≤ top n (R + w) := by
    intro w
    unfold rest
    cases w with
    | zero =>
      rw [if_pos rfl, top_zero]
      simp
    | succ w =>
      rw [if_neg (by omega), show R + (w + 1) - 1 = R + w from by omega, show R + (w + 1) = (R + w) + 1 from by omega, top_succ n (R + w)]
      have t := shr_top h (w + 1)
      rw [show R - 1 + (w + 1) = R + w from by omega] at t
      have m := Nat.div_add_mod (top n (R + w)) (2 ^ k)
      rw [t] at m
      have c : top (n * 5 ^ k) (w + 1) * 10 * 2 ^ k = 2 ^ k * top (n * 5 ^ k) (w + 1) * 10 := by
        rw [Nat.mul_comm (2 ^ k), Nat.mul_assoc, Nat.mul_comm 10, ← Nat.mul_assoc]
      rw [c]
      omega
  have k1 := key w
  have t := shr_top h (w + 1)
  rw [show R - 1 + (w + 1) = R + w from by omega] at t
  have m := Nat.div_add_mod (top n (R + w)) (2 ^ k)
  rw [t, top_succ (n * 5 ^ k) w] at m
  have e1 : rest n k R w = 2 ^ k * sdg (n * 5 ^ k) w + top n (R + w) % 2 ^ k := by
    rw [k1.1]
    have c : top (n * 5 ^ k) w * 10 * 2 ^ k = 2 ^ k * (top (n * 5 ^ k) w * 10) := Nat.mul_comm _ _
    rw [Nat.mul_add] at m
    omega
  have hm : top n (R + w) % 2 ^ k < 2 ^ k := Nat.mod_lt _ f2
  refine ⟨?_, ?_⟩
  · rw [e1, Nat.mul_add_div f2, Nat.div_eq_of_lt hm, Nat.add_zero]
  · have e2 : rest n k R w % 2 ^ k = top n (R + w) % 2 ^ k := by rw [e1, Nat.mul_add_mod, Nat.mod_mod]
    rw [e2]
    show (if w + 1 = 0 then _ else _) = _
    rw [if_neg (by omega), show R + (w + 1) - 1 = R + w from by omega]
end Dm
end Go.Proofs.YtbnicnhkakbglaaGreatDoor

/- A decimal of at most 800 digits, and its shifts: plain mathematics. -/
namespace Go.Proofs.YtbnicnhkakbglaaGreatDoor
namespace Dm

/-- Behind the last digit that is no nought, of the first j. -/
def lastNz (x : Nat) : Nat → Nat
  | 0 => 0
  | j + 1 => if sdg x j ≠ 0 then j + 1 else lastNz x j
theorem lastNz_le (x j : Nat) : lastNz x j ≤ j := by
  induction j with
  | zero => exact Nat.le_refl _
  | succ j ih => unfold lastNz; split <;> omega
theorem lastNz_past {x j w : Nat} (hw : w ≤ j) (h : ∀ i, w ≤ i → i < j → sdg x i = 0) : lastNz x j = lastNz x w := by
  induction j with
  | zero => rw [show w = 0 from by omega]
  | succ j ih =>
    by_cases e : w = j + 1
    · rw [e]
    · rw [show lastNz x (j + 1) = if sdg x j ≠ 0 then j + 1 else lastNz x j from rfl, if_neg (by simp only [ne_eq, Classical.not_not]; exact h j (by omega) (by omega))]
      exact ih (by omega) (fun i h1 h2 => h i h1 (by omega))
theorem lastNz_pos {x : Nat} (hx : x ≠ 0) (j : Nat) (hj : 1 ≤ j) : 1 ≤ lastNz x j := by
  induction j with
  | zero => omega
  | succ j ih =>
    unfold lastNz
    split
    · omega
    · rename_i h
      by_cases e : j = 0
      · subst e
        exact absurd (by have := sdg_first hx; omega) h
      · exact ih (by omega)
theorem lastNz_digit {x j : Nat} (h : 1 ≤ lastNz x j) : sdg x (lastNz x j - 1) ≠ 0 := by
  induction j with
  | zero => simp [lastNz] at h
  | succ j ih =>
    unfold lastNz at h ⊢
    split
    · rename_i h'; rw [Nat.add_sub_cancel]; exact h'
    · rename_i h'
      rw [if_neg h'] at h
      exact ih h
theorem top_lt (x r : Nat) : top x r < 10 ^ r := by
  induction r with
  | zero => rw [top_zero]; decide
  | succ r ih =>
    rw [top_succ, Nat.pow_succ]
    have := sdg_lt x r
    omega
theorem top_len {x r : Nat} (hx : x ≠ 0) (hr : 1 ≤ r) : dlen (top x r) = r := by
  have := top_first hx (r - 1)
  rw [show r - 1 + 1 = r from by omega] at this
  have h2 := top_lt x r
  have := dlen_of this (by rw [show r - 1 + 1 = r from by omega]; exact h2)
  omega
theorem top_top {x r : Nat} (hx : x ≠ 0) (hr : 1 ≤ r) (j : Nat) (hj : j ≤ r) : top (top x r) j = top x j := by
  unfold top
  rw [show dlen (x * 10 ^ r / 10 ^ dlen x) = r from top_len hx hr]
  have e : 10 ^ r = 10 ^ (r - j) * 10 ^ j := by rw [← Nat.pow_add]; congr 1; omega
  have e2 : x * 10 ^ r / 10 ^ dlen x * 10 ^ j / 10 ^ r = x * 10 ^ r / 10 ^ dlen x / 10 ^ (r - j) := by
    rw [e, Nat.mul_div_mul_right _ _ (p10 _)]
  rw [e2, Nat.div_div_eq_div_mul, Nat.mul_comm (10 ^ dlen x), e, Nat.mul_comm (10 ^ (r - j)) (10 ^ j), ← Nat.mul_assoc, Nat.mul_comm (x * 10 ^ j), Nat.mul_div_mul_left _ _ (p10 _)]
theorem sdg_top {x r i : Nat} (hx : x ≠ 0) (hi : i < r) : sdg (top x r) i = sdg x i := by
  rw [← top_mod, ← top_mod, top_top hx (by omega) _ (by omega)]

/-- The decimal's number: the first 800 digits, no noughts at the end. -/
def keep (x : Nat) : Nat := top x (lastNz x 800)
/-- Is a digit behind the first 800 no nought? -/
def gone (x : Nat) : Bool := (List.range (dlen x)).any fun i => decide (800 ≤ i) && decide (sdg x i ≠ 0)
theorem keep_ne {x : Nat} (hx : x ≠ 0) : keep x ≠ 0 := by
  have h1 := lastNz_pos hx 800 (by decide)
  have := top_first hx (lastNz x 800 - 1)
  rw [show lastNz x 800 - 1 + 1 = lastNz x 800 from by omega] at this
  have := p10 (lastNz x 800 - 1)
  unfold keep
  omega
theorem keep_len {x : Nat} (hx : x ≠ 0) : dlen (keep x) = lastNz x 800 := top_len hx (lastNz_pos hx 800 (by decide))
theorem keep_sdg {x i : Nat} (hx : x ≠ 0) (hi : i < lastNz x 800) : sdg (keep x) i = sdg x i := sdg_top hx hi
theorem gone_yes {x i : Nat} (h8 : 800 ≤ i) (h : sdg x i ≠ 0) : gone x = true := by
  have hi : i < dlen x := by
    by_cases hi : i < dlen x
    · exact hi
    · exact absurd (sdg_past x i (by omega)) h
  unfold gone
  rw [List.any_eq_true]
  exact ⟨i, List.mem_range.2 hi, by simp [h8, h]⟩
theorem gone_no {x : Nat} (h : ∀ i, 800 ≤ i → sdg x i = 0) : gone x = false := by
  unfold gone
  rw [List.any_eq_false]
  intro i _
  simp only [Bool.and_eq_true, decide_eq_true_eq, not_and, ne_eq, Classical.not_not]
  exact h i

/-- A decimal: its number, its point, whether digits were lost. -/
structure De where
  n : Nat
  dp : Int
  tr : Bool
def De.shl (a : De) (k : Nat) : De := ⟨keep (a.n * 2 ^ k), a.dp + ((dlen (a.n * 2 ^ k) : Int) - (dlen a.n : Int)), a.tr || gone (a.n * 2 ^ k)⟩
def De.shr (a : De) (k : Nat) : De := ⟨keep (a.n * 5 ^ k), a.dp + ((dlen (a.n * 5 ^ k) : Int) - (dlen a.n : Int) - (k : Int)), a.tr || gone (a.n * 5 ^ k)⟩
end Dm
end Go.Proofs.YtbnicnhkakbglaaGreatDoor
