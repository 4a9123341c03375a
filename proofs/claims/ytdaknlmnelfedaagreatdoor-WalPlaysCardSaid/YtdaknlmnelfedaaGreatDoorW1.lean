/- The names of the log's files: plain mathematics. -/
import Derived.Lib.ParseIntBTie
import Derived.Lib.ParseIntBCases
import Derived.Lib.ItoaNum
import Derived.Lib.ItoaMem
import Derived.Lib.Strings
namespace Go.Proofs.YtdaknlmnelfedaaGreatDoor
open Go.Lib
namespace W1

def ep : List UInt8 := [119, 97, 108, 46, 101, 110, 116, 114, 121, 46]
def mp : List UInt8 := [119, 97, 108, 46, 102, 105, 114, 115, 116, 46]
def nn : List UInt8 := [119, 97, 108, 46, 110, 101, 119]
def pn (p : List UInt8) (n : Nat) : List UInt8 := p ++ decDigits n
theorem dig_char {n : Nat} : ∀ c ∈ decDigits n, 48 ≤ c.toNat ∧ c.toNat ≤ 57 := by
  induction n using Nat.strongRecOn with
  | ind n ih =>
    intro c hc
    rw [decDigits] at hc
    split at hc
    · rename_i h
      simp only [List.mem_singleton] at hc
      subst hc
      rw [UInt8.toNat_ofNat']
      omega
    · rename_i h
      rcases List.mem_append.1 hc with hc | hc
      · exact ih (n / 10) (by omega) c hc
      · simp only [List.mem_singleton] at hc
        subst hc
        rw [UInt8.toNat_ofNat']
        omega
theorem dig_ne (n : Nat) : decDigits n ≠ [] := by
  rw [decDigits]
  split <;> simp
def step (M : Nat) (c : UInt8) : NumEnd Nat → NumEnd Nat
  | .ok u => parseUintM M u [c]
  | e => e
theorem parse_snoc (M : Nat) (c : UInt8) : ∀ (l : List UInt8) (acc : Nat), parseUintM M acc (l ++ [c]) = step M c (parseUintM M acc l)
  | [], acc => rfl
  | x :: l, acc => by
    simp only [List.cons_append, parseUintM]
    split
    · split
      · rfl
      · split
        · rfl
        · exact parse_snoc M c l _
    · rfl
theorem parse_dig (n : Nat) (h : n ≤ 1000000000000000000) : parseUintM (2 ^ 64 - 1) 0 (decDigits n) = .ok n := by
  have e : (2 : Nat) ^ 64 - 1 = 18446744073709551615 := by decide
  rw [e]
  induction n using Nat.strongRecOn with
  | ind n ih =>
    rw [decDigits]
    split
    · rename_i h1
      simp only [parseUintM]
      rw [UInt8.toNat_ofNat']
      rw [if_pos (by omega), if_neg (by omega), if_neg (by omega)]
      congr 1
      omega
    · rename_i h1
      rw [parse_snoc, ih (n / 10) (by omega) (by omega)]
      simp only [step, parseUintM]
      rw [UInt8.toNat_ofNat']
      rw [if_pos (by omega), if_neg (by omega), if_neg (by omega)]
      congr 1
      omega
theorem parse_ok (n : Nat) (h : n ≤ 1000000000000000000) : parseIntB 64 (decDigits n) = .ok (n : Int) := by
  cases hd : decDigits n with
  | nil => exact absurd hd (dig_ne n)
  | cons c r =>
    have hc := dig_char (n := n) c (by rw [hd]; exact List.mem_cons_self ..)
    rw [parseIntB_plain 64 c r (by omega) (by omega), ← hd]
    unfold parseUintB
    rw [if_neg (dig_ne n), parse_dig n h]
    have e : (2 : Nat) ^ (64 - 1) = 9223372036854775808 := by decide
    simp only [signlessC, e]
    rw [if_neg (by omega)]
theorem dig_inj {n m : Nat} (hn : n ≤ 1000000000000000000) (hm : m ≤ 1000000000000000000) (h : decDigits n = decDigits m) : n = m := by
  have e := parse_ok n hn
  rw [h, parse_ok m hm] at e
  injection e with e
  omega
/-- A text that begins so is no number. -/
theorem parse_bad (c : UInt8) (r : List UInt8) (h : c.toNat = 119) : parseIntB 64 (c :: r) = parseIntB 64 [] := by
  rw [parseIntB_plain 64 c r (by omega) (by omega)]
  unfold parseUintB
  rw [if_neg (by simp)]
  simp only [parseUintM]
  rw [if_neg (by omega)]
  rfl
theorem pn_inj {p : List UInt8} {n m : Nat} (hn : n ≤ 1000000000000000000) (hm : m ≤ 1000000000000000000) (h : pn p n = pn p m) : n = m :=
  dig_inj hn hm (List.append_cancel_left h)
theorem take_pn (p : List UInt8) (n : Nat) : (pn p n).take p.length = p := by simp [pn]
theorem ep_mp {n m : Nat} : pn ep n ≠ pn mp m := fun h => by
  have := congrArg (List.take 10) h
  rw [show (pn ep n).take 10 = ep from take_pn ep n, show (pn mp m).take 10 = mp from take_pn mp m] at this
  exact absurd this (by decide)
theorem ep_nn {n : Nat} : pn ep n ≠ nn := fun h => by
  have := congrArg (fun l => l[4]?) h
  simp [pn, ep, nn] at this
theorem mp_nn {n : Nat} : pn mp n ≠ nn := fun h => by
  have := congrArg (fun l => l[4]?) h
  simp [pn, mp, nn] at this
theorem nDig_le (k n : Nat) (h : n < 10 ^ (k + 1)) : (decDigits n).length ≤ k + 1 := by
  induction k generalizing n with
  | zero => rw [decDigits]; rw [dif_pos (by simpa using h)]; simp
  | succ k ih =>
    rw [decDigits]
    split
    · simp
    · have := ih (n / 10) (by rw [Nat.pow_succ] at h; omega)
      simp
      omega
theorem len_pn {p : List UInt8} (hp : p.length = 10) {n : Nat} (h : n ≤ 1000000000000000000) : (pn p n).length ≤ 29 := by
  have := nDig_le 18 n (by have e : (10 : Nat) ^ (18 + 1) = 10000000000000000000 := by decide
                           omega)
  simp [pn, hp]
  omega
/-- What a number is read as, behind a prefix. -/
theorem pre_own (p : List UInt8) (n : Nat) : hasPrefix (pn p n) p = true ∧ trimPrefix (pn p n) p = decDigits n := by
  have h : hasPrefix (pn p n) p = true := by unfold hasPrefix pn; simp
  refine ⟨h, ?_⟩
  unfold trimPrefix
  rw [if_pos h]
  simp [pn]
theorem isPre {p l : List UInt8} (h : p.isPrefixOf l = true) : l.take p.length = p := by
  rw [List.isPrefixOf_iff_prefix] at h
  exact (List.prefix_iff_eq_take.1 h).symm
theorem pre_other {p q : List UInt8} (hl : p.length = q.length) (hne : p ≠ q) (n : Nat) : hasPrefix (pn p n) q = false ∧ trimPrefix (pn p n) q = pn p n := by
  have h : hasPrefix (pn p n) q = false := by
    cases e : hasPrefix (pn p n) q
    · rfl
    · have := isPre e
      rw [← hl, take_pn] at this
      exact absurd this hne
  refine ⟨h, ?_⟩
  unfold trimPrefix
  rw [if_neg (by rw [h]; simp)]
end W1
end Go.Proofs.YtdaknlmnelfedaaGreatDoor
