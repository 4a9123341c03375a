import Derived.Test.YtnnadljeppcdoaaGreatDoorG05

/- The sum of bytes (CRC-32): plain mathematics. A turned byte turns the sum. -/
namespace Go.Proofs.YtnnadljeppcdoaaGreatDoor
namespace Kc

def poly : Nat := 3988292384
/-- One bit further on. -/
def step (c : Nat) : Nat := c / 2 ^^^ (if c % 2 = 1 then poly else 0)
def steps (c : Nat) : Nat → Nat
  | 0 => c
  | k + 1 => step (steps c k)
theorem step_lt {c : Nat} (h : c < 4294967296) : step c < 4294967296 := by
  unfold step
  refine Nat.xor_lt_two_pow (n := 32) (by omega) ?_
  split <;> decide
theorem steps_lt {c : Nat} (h : c < 4294967296) (k : Nat) : steps c k < 4294967296 := by
  induction k with
  | zero => exact h
  | succ k ih => exact step_lt ih
theorem top_odd {c : Nat} (h : c < 4294967296) (h1 : c % 2 = 1) : (step c).testBit 31 = true := by
  unfold step
  rw [if_pos h1, Nat.testBit_xor, Nat.testBit_lt_two_pow (show c / 2 < 2 ^ 31 by omega)]
  decide
theorem top_even {c : Nat} (h : c < 4294967296) (h1 : ¬ c % 2 = 1) : (step c).testBit 31 = false := by
  unfold step
  rw [if_neg h1, Nat.xor_zero, Nat.testBit_lt_two_pow (show c / 2 < 2 ^ 31 by omega)]
theorem xor_cancel {a b p : Nat} (h : a ^^^ p = b ^^^ p) : a = b := by
  have h1 : (a ^^^ p) ^^^ p = (b ^^^ p) ^^^ p := by rw [h]
  simpa [Nat.xor_assoc] using h1
theorem xor_cancel_left {a b p : Nat} (h : p ^^^ a = p ^^^ b) : a = b := by
  rw [Nat.xor_comm p a, Nat.xor_comm p b] at h
  exact xor_cancel h
theorem step_inj {c d : Nat} (hc : c < 4294967296) (hd : d < 4294967296) (h : step c = step d) : c = d := by
  by_cases h1 : c % 2 = 1
  · by_cases h2 : d % 2 = 1
    · unfold step at h
      rw [if_pos h1, if_pos h2] at h
      have := xor_cancel h
      omega
    · have e1 := top_odd hc h1
      have e2 := top_even hd h2
      rw [h, e2] at e1
      cases e1
  · by_cases h2 : d % 2 = 1
    · have e1 := top_even hc h1
      have e2 := top_odd hd h2
      rw [h, e2] at e1
      cases e1
    · unfold step at h
      rw [if_neg h1, if_neg h2] at h
      have := xor_cancel h
      omega
theorem steps_inj {c d : Nat} (hc : c < 4294967296) (hd : d < 4294967296) (k : Nat) (h : steps c k = steps d k) : c = d := by
  induction k with
  | zero => exact h
  | succ k ih => exact ih (step_inj (steps_lt hc k) (steps_lt hd k) h)

/-- The state behind the first k bytes. -/
def run (bs : List Nat) : Nat → Nat
  | 0 => 4294967295
  | k + 1 => steps (run bs k ^^^ bs.getD k 0) 8
def sum (bs : List Nat) : Nat := 4294967295 - run bs bs.length
theorem in_lt {bs : List Nat} (h : ∀ b ∈ bs, b < 256) {c : Nat} (hc : c < 4294967296) (k : Nat) : c ^^^ bs.getD k 0 < 4294967296 :=
  Nat.xor_lt_two_pow (n := 32) hc (by have := Bm.getD_lt h k; omega)
theorem run_lt {bs : List Nat} (h : ∀ b ∈ bs, b < 256) (k : Nat) : run bs k < 4294967296 := by
  induction k with
  | zero => exact (by decide : 4294967295 < 4294967296)
  | succ k ih => exact steps_lt (in_lt h ih k) 8
theorem sum_lt (bs : List Nat) : sum bs < 4294967296 := by unfold sum; omega
theorem run_congr {a b : List Nat} {k : Nat} (h : ∀ j, j < k → a.getD j 0 = b.getD j 0) : run a k = run b k := by
  induction k with
  | zero => rfl
  | succ k ih => simp only [run]; rw [ih (fun j hj => h j (by omega)), h k (by omega)]
/-- One byte other: another state, however many equal bytes follow. -/
theorem run_turned {a b : List Nat} (ha : ∀ x ∈ a, x < 256) (hb : ∀ x ∈ b, x < 256) {j k : Nat} (hjk : j < k) (hj : a.getD j 0 ≠ b.getD j 0) (h : ∀ i, i ≠ j → a.getD i 0 = b.getD i 0) : run a k ≠ run b k := by
  induction k with
  | zero => omega
  | succ k ih =>
    intro e
    simp only [run] at e
    have e2 := steps_inj (in_lt ha (run_lt ha k) k) (in_lt hb (run_lt hb k) k) 8 e
    by_cases hk : j = k
    · subst hk
      rw [run_congr (a := a) (b := b) (fun i hi => h i (by omega))] at e2
      exact hj (xor_cancel_left e2)
    · rw [h k (by omega)] at e2
      exact ih (by omega) (xor_cancel e2)
theorem sum_turned {a b : List Nat} (ha : ∀ x ∈ a, x < 256) (hb : ∀ x ∈ b, x < 256) (hl : a.length = b.length) {j : Nat} (hjl : j < a.length) (hj : a.getD j 0 ≠ b.getD j 0) (h : ∀ i, i ≠ j → a.getD i 0 = b.getD i 0) : sum a ≠ sum b := by
  have h1 := run_turned ha hb hjl hj h
  have h2 := run_lt ha a.length
  have h3 := run_lt hb a.length
  unfold sum
  rw [← hl]
  omega
/-- A byte turned in its place. -/
theorem sum_set {bs : List Nat} (h : ∀ x ∈ bs, x < 256) {j x : Nat} (hj : j < bs.length) (hx : x < 256) (hne : x ≠ bs.getD j 0) : sum (bs.set j x) ≠ sum bs := by
  refine sum_turned (fun y hy => ?_) h (by simp) (j := j) (by simpa using hj) ?_ (fun i hi => ?_)
  · rcases List.mem_or_eq_of_mem_set hy with hy | hy
    · exact h y hy
    · omega
  · rw [List.getD_eq_getElem?_getD, List.getElem?_set_self hj]
    exact hne
  · rw [List.getD_eq_getElem?_getD, List.getElem?_set_ne (Ne.symm hi), List.getD_eq_getElem?_getD]
set_option maxRecDepth 100000 in
theorem sum_check : sum [49, 50, 51, 52, 53, 54, 55, 56, 57] = 3421780262 := by decide
end Kc
end Go.Proofs.YtnnadljeppcdoaaGreatDoor
