import Derived.Test.YtjmddomkoholoaaGreatDoorG05

/- The sum of bytes (CRC-32): plain mathematics. A turned byte turns the sum. -/
namespace Go.Proofs.YtjmddomkoholoaaGreatDoor
namespace Kc

def poly : Nat := 3988292384
/-- One bit further on. -/
def step (c : Nat) : Nat := c / 2 ^^^ (if c % 2 = 1 then poly else 0)
def steps (c : Nat) : Nat → Nat
  | 0 => c
  | k + 1 => step (steps c k)
theorem step_lt {c : Nat} (h : c < 4294967296) : step c < 4294967296 := by
  unfold step
  refine Nat.xor_lt_two_pow (n := 32) (by omega) ?_
  split <;> decide
theorem steps_lt {c : Nat} (h : c < 4294967296) (k : Nat) : steps c k < 4294967296 := by
  induction k with
  | zero => exact h
  | succ k ih => exact step_lt ih
theorem top_odd {c : Nat} (h : c < 4294967296) (h1 : c % 2 = 1) : (step c).testBit 31 = true := by
  unfold step
  rw [if_pos h1, Nat.testBit_xor, Nat.testBit_lt_two_pow (show c / 2 < 2 ^ 31 by omega)]
  decide
theorem top_even {c : Nat} (h : c < 4294967296) (h1 : ¬ c % 2 = 1) : (step c).testBit 31 = false := by
  unfold step
  rw [if_neg h1, Nat.xor_zero, Nat.testBit_lt_two_pow (show c / 2 < 2 ^ 31 by omega)]
theorem xor_cancel {a b p : Nat} (h : a ^^^ p = b ^^^ p) : a = b := by
  have h1 : (a ^^^ p) ^^^ p = (b ^^^ p) ^^^ p := by rw [h]
  simpa [Nat.xor_assoc] using h1
theorem xor_cancel_left {a b p : Nat} (h : p ^^^ a = p ^^^ b) : a = b := by
  rw [Nat.xor_comm p a, Nat.xor_comm p b] at h
  exact xor_cancel h
theorem step_inj {c d : Nat} (hc : c < 4294967296) (hd : d < 4294967296) (h : step c = step d) : c = d := by
  by_cases h1 : c % 2 = 1
  · by_cases h2 : d % 2 = 1
    · unfold step at h
      rw [if_pos h1, if_pos h2] at h
      have := xor_cancel h
      omega
    · have e1 := top_odd hc h1
      have e2 := top_even hd h2
      rw [h, e2] at e1
      cases e1
  · by_cases h2 : d % 2 = 1
    · have e1 := top_even hc h1
      have e2 := top_odd hd h2
      rw [h, e2] at e1
      cases e1
    · unfold step at h
      rw [if_neg h1, if_neg h2] at h
      have := xor_cancel h
      omega
theorem steps_inj {c d : Nat} (hc : c < 4294967296) (hd : d < 4294967296) (k : Nat) (h : steps c k = steps d k) : c = d := by
  induction k with
  | zero => exact h
  | succ k ih => exact ih (step_inj (steps_lt hc k) (steps_lt hd k) h)

/-- The state behind the first k bytes. -/
def run (bs : List Nat) : Nat → Nat
  | 0 => 4294967295
  | k + 1 => steps (run bs k ^^^ bs.getD k 0) 8
def sum (bs : List Nat) : Nat := 4294967295 - run bs bs.length
theorem in_lt {bs : List Nat} (h : ∀ b ∈ bs, b < 256) {c : Nat} (hc : c < 4294967296) (k : Nat) : c ^^^ bs.getD k 0 < 4294967296 :=
  Nat.xor_lt_two_pow (n := 32) hc (by have := Bm.getD_lt h k; omega)
theorem run_lt {bs : List Nat} (h : ∀ b ∈ bs, b < 256) (k : Nat) : run bs k < 4294967296 := by
  induction k with
  | zero => exact (by decide : 4294967295 < 4294967296)
  | succ k ih => exact steps_lt (in_lt h ih k) 8
theorem sum_lt (bs : List Nat) : sum bs < 4294967296 := by unfold sum; omega
theorem run_congr {a b : List Nat} {k : Nat} (h : ∀ j, j < k → a.getD j 0 = b.getD j 0) : run a k = run b k := by
  induction k with
  | zero => rfl
  | succ k ih => simp only [run]; rw [ih (fun j hj => h j (by omega)), h k (by omega)]
/-- One byte other: another state, however many equal bytes follow. -/
theorem run_turned {a b : List Nat} (ha : ∀ x ∈ a, x < 256) (hb : ∀ x ∈ b, x < 256) {j k : Nat} (hjk : j < k) (hj : a.getD j 0 ≠ b.getD j 0) (h : ∀ i, i ≠ j → a.getD i 0 = b.getD i 0) : run a k ≠ run b k := by
  induction k with
  | zero => omega
  | succ k ih =>
    intro e
    simp only [run] at e
    have e2 := steps_inj (in_lt ha (run_lt ha k) k) (in_lt hb (run_lt hb k) k) 8 e
    by_cases hk : j = k
    · subst hk
      rw [run_congr (a := a) (b := b) (fun i hi => h i (by omega))] at e2
      exact hj (xor_cancel_left e2)
    · rw [h k (by omega)] at e2
      exact ih (by omega) (xor_cancel e2)
theorem sum_turned {a b : List Nat} (ha : ∀ x ∈ a, x < 256) (hb : ∀ x ∈ b, x < 256) (hl : a.length = b.length) {j : Nat} (hjl : j < a.length) (hj : a.getD j 0 ≠ b.getD j 0) (h : ∀ i, i ≠ j → a.getD i 0 = b.getD i 0) : sum a ≠ sum b := by
  have h1 := run_turned ha hb hjl hj h
  have h2 := run_lt ha a.length
  have h3 := run_lt hb a.length
  unfold sum
  rw [← hl]
  omega
/-- A byte turned in its place. -/
theorem sum_set {bs : List Nat} (h : ∀ x ∈ bs, x < 256) {j x : Nat} (hj : j < bs.length) (hx : x < 256) (hne : x ≠ bs.getD j 0) : sum (bs.set j x) ≠ sum bs := by
  refine sum_turned (fun y hy => ?_) h (by simp) (j := j) (by simpa using hj) ?_ (fun i hi => ?_)
  · rcases List.mem_or_eq_of_mem_set hy with hy | hy
    · exact h y hy
    · omega
  · rw [List.getD_eq_getElem?_getD, List.getElem?_set_self hj]
    exact hne
  · rw [List.getD_eq_getElem?_getD, List.getElem?_set_ne (Ne.symm hi), List.getD_eq_getElem?_getD]
set_option maxRecDepth 100000 in
theorem sum_check : sum [49, 50, 51, 52, 53, 54, 55, 56, 57] = 3421780262 := by decide
end Kc
end Go.Proofs.YtjmddomkoholoaaGreatDoor

/- The sum of bytes by whole bytes: a table's entry and what is shifted: plain mathematics. -/
namespace Go.Proofs.YtjmddomkoholoaaGreatDoor
namespace Kf
open Kc

theorem step_xor (a b : Nat) : Kc.step (a ^^^ b) = Kc.step a ^^^ Kc.step b := by
  unfold Kc.step
  have h1 : (a ^^^ b) / 2 = a / 2 ^^^ b / 2 := by
    have := Nat.shiftRight_xor_distrib (a := a) (b := b) (i := 1)
    simpa [Nat.shiftRight_eq_div_pow] using this
  have h2 : (a ^^^ b) % 2 = (a % 2 + b % 2) % 2 := by
    have := Nat.xor_mod_two_pow (a := a) (b := b) (n := 1)
    simp only [Nat.pow_one] at this
    rw [this]
    rcases Nat.mod_two_eq_zero_or_one a with e | e <;> rcases Nat.mod_two_eq_zero_or_one b with f | f <;> rw [e, f] <;> rfl
  rw [h1, h2]
  rcases Nat.mod_two_eq_zero_or_one a with e | e <;> rcases Nat.mod_two_eq_zero_or_one b with f | f <;> rw [e, f] <;> simp only [Nat.add_zero, Nat.zero_add, Nat.reduceAdd, Nat.reduceMod, Nat.zero_mod, Nat.zero_ne_one, if_true, if_false, Nat.xor_zero] <;> refine Nat.eq_of_testBit_eq fun i => ?_ <;> simp only [Nat.testBit_xor] <;> cases (a / 2).testBit i <;> cases (b / 2).testBit i <;> cases poly.testBit i <;> rfl
theorem steps_xor (a b k : Nat) : steps (a ^^^ b) k = steps a k ^^^ steps b k := by
  induction k with
  | zero => rfl
  | succ k ih => simp only [steps]; rw [ih, step_xor]
theorem step_even (x : Nat) : Kc.step (2 * x) = x := by
  unfold Kc.step
  rw [if_neg (by omega), Nat.xor_zero]; omega
theorem steps_shift (x j k : Nat) : steps (2 ^ (j + k) * x) k = 2 ^ j * x := by
  induction k generalizing j with
  | zero => rfl
  | succ k ih =>
    simp only [steps]
    have := ih (j + 1)
    rw [show j + (k + 1) = j + 1 + k by omega, this, show 2 ^ (j + 1) * x = 2 * (2 ^ j * x) by rw [Nat.pow_succ]; rw [Nat.mul_comm (2 ^ j) 2, Nat.mul_assoc], step_even]
theorem split256 (c : Nat) : c = c % 256 ^^^ 2 ^ 8 * (c / 256) := by
  have h := Nat.two_pow_add_eq_or_of_lt (i := 8) (b := c % 256) (by omega) (c / 256)
  have hd : c = 2 ^ 8 * (c / 256) + c % 256 := by omega
  apply Nat.eq_of_testBit_eq
  intro i
  rw [Nat.testBit_xor, Nat.testBit_two_pow_mul]
  have e : c % 256 = c % 2 ^ 8 := rfl
  rw [e, Nat.testBit_mod_two_pow, show c / 256 = c / 2 ^ 8 from rfl, Nat.testBit_div_two_pow]
  by_cases h8 : i < 8
  · simp [h8, show ¬ 8 ≤ i by omega]
  · simp [h8, show 8 ≤ i by omega]
/-- Eight bits further on: what goes out tells what is turned. -/
theorem steps_eight (c : Nat) : steps c 8 = steps (c % 256) 8 ^^^ c / 256 := by
  conv => lhs; rw [split256 c, steps_xor]
  have := steps_shift (c / 256) 0 8
  simp only [Nat.zero_add, Nat.pow_zero, Nat.one_mul] at this
  rw [this]
/-- One byte more, by the table. -/
theorem by_table (c x : Nat) (hx : x < 256) : steps (c ^^^ x) 8 = steps (c % 256 ^^^ x) 8 ^^^ c / 256 := by
  rw [steps_eight (c ^^^ x)]
  have h1 : (c ^^^ x) % 256 = c % 256 ^^^ x := by
    have := Nat.xor_mod_two_pow (a := c) (b := x) (n := 8)
    rw [show (2 : Nat) ^ 8 = 256 from rfl] at this
    rw [this, Nat.mod_eq_of_lt hx]
  have h2 : (c ^^^ x) / 256 = c / 256 := by
    have := Nat.shiftRight_xor_distrib (a := c) (b := x) (i := 8)
    simp only [Nat.shiftRight_eq_div_pow] at this
    rw [show (2 : Nat) ^ 8 = 256 from rfl] at this
    rw [this, Nat.div_eq_of_lt hx, Nat.xor_zero]
  rw [h1, h2]
theorem idx_lt (c x : Nat) (hx : x < 256) : c % 256 ^^^ x < 256 := Nat.xor_lt_two_pow (n := 8) (by omega) hx
end Kf
end Go.Proofs.YtjmddomkoholoaaGreatDoor
