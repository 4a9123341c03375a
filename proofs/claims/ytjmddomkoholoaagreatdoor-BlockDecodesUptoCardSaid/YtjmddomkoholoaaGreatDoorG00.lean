import Derived.Test.YtjmddomkoholoaaGreatDoorRows
import Derived.WalkKit
import Derived.ProofKit
import Derived.OpenShut
import Derived.Handy
import Derived.BigQuiet
import Derived.Deep.QuietTactic
import Derived.WalkLawsBesides
import Derived.Lib.Hide
import Derived.LoopTactic
import Derived.IntWalk
import Derived.Laws.BitsAllLaws
import Derived.Laws.AppendOwnNone
import Derived.OwnWalk
import Derived.Laws.OwnMore
import Derived.Lib.SmallJoins
import Derived.Deep.DeepCutAuto
import Derived.Deep.RegionLaw
import Derived.Maps.AppendAt
import Derived.Maps.OwnSet
import Derived.Laws.BytesArg
import Derived.Laws.BytesString
import Derived.Laws.IdiomStrings

/- Bytes that repeat, packed: plain mathematics. -/
namespace Go.Proofs.YtjmddomkoholoaaGreatDoor
namespace Lm

def g (b : List Nat) (i : Nat) : Nat := b.getD i 0
theorem g_lt {b : List Nat} (h : ∀ x ∈ b, x < 256) (i : Nat) : g b i < 256 := by
  unfold g
  by_cases hi : i < b.length
  · rw [List.getD_eq_getElem?_getD, List.getElem?_eq_getElem hi]; exact h _ (List.getElem_mem hi)
  · rw [List.getD_eq_getElem?_getD, List.getElem?_eq_none (by omega)]; decide
/-- The same four bytes stand at both places. -/
def Same (b : List Nat) (p a : Nat) : Prop := g b p = g b a ∧ g b (p + 1) = g b (a + 1) ∧ g b (p + 2) = g b (a + 2) ∧ g b (p + 3) = g b (a + 3)
instance (b : List Nat) (p a : Nat) : Decidable (Same b p a) := by unfold Same; exact inferInstance
/-- The greatest place below k at which the same four stand as at a. -/
def back (b : List Nat) (a : Nat) : Nat → Option Nat
  | 0 => none
  | p + 1 => if Same b p a then some p else back b a p
theorem back_some {b : List Nat} {a : Nat} : ∀ {k p : Nat}, p < k → Same b p a → (∀ q, p < q → q < k → ¬ Same b q a) → back b a k = some p := by
  intro k
  induction k with
  | zero => intro p h; omega
  | succ k ih =>
    intro p h1 h2 h3
    simp only [back]
    by_cases e : p = k
    · subst e; rw [if_pos h2]
    · rw [if_neg (h3 k (by omega) (by omega))]
      exact ih (by omega) h2 (fun q a1 a2 => h3 q a1 (by omega))
theorem back_none {b : List Nat} {a : Nat} : ∀ {k : Nat}, (∀ q, q < k → ¬ Same b q a) → back b a k = none := by
  intro k
  induction k with
  | zero => intro _; rfl
  | succ k ih =>
    intro h
    simp only [back]
    rw [if_neg (h k (by omega))]
    exact ih (fun q hq => h q (by omega))
theorem back_spec {b : List Nat} {a : Nat} : ∀ {k p : Nat}, back b a k = some p → p < k ∧ Same b p a ∧ ∀ q, p < q → q < k → ¬ Same b q a := by
  intro k
  induction k with
  | zero => intro p h; cases h
  | succ k ih =>
    intro p h
    simp only [back] at h
    split at h
    · cases h
      rename_i hs
      exact ⟨by omega, hs, fun q h1 h2 => by omega⟩
    · rename_i hs
      obtain ⟨h1, h2, h3⟩ := ih h
      refine ⟨by omega, h2, fun q a1 a2 => ?_⟩
      by_cases e : q = k
      · subst e; exact hs
      · exact h3 q a1 (by omega)
theorem back_spec_none {b : List Nat} {a : Nat} : ∀ {k : Nat}, back b a k = none → ∀ q, q < k → ¬ Same b q a := by
  intro k
  induction k with
  | zero => intro _ q h; omega
  | succ k ih =>
    intro h q hq
    simp only [back] at h
    split at h
    · cases h
    · rename_i hs
      by_cases e : q = k
      · subst e; exact hs
      · exact ih h q (by omega)

/-- The latest place ahead of a, as far as a distance reaches, at which the same four bytes stand. -/
def latest (b : List Nat) (a : Nat) : Option Nat :=
  if a + 4 ≤ b.length then (back b a a).bind fun p => if a - p ≤ 65535 then some p else none else none
theorem latest_end {b : List Nat} {a : Nat} (h : b.length < a + 4) : latest b a = none := by unfold latest; rw [if_neg (by omega)]
theorem latest_some {b : List Nat} {a p : Nat} (h0 : a + 4 ≤ b.length) (h1 : p < a) (h2 : Same b p a) (h3 : ∀ q, p < q → q < a → ¬ Same b q a) (h4 : a - p ≤ 65535) : latest b a = some p := by
  unfold latest; rw [if_pos h0, back_some h1 h2 h3]; simp; omega
theorem latest_far {b : List Nat} {a p : Nat} (h3 : ∀ q, p < q → q < a → ¬ Same b q a) (h4 : ¬ a - p ≤ 65535) : latest b a = none := by
  unfold latest
  split
  · cases h : back b a a with
    | none => rfl
    | some q =>
      obtain ⟨h5, h6, h7⟩ := back_spec h
      have : q ≤ p := by
        by_cases e : q ≤ p
        · exact e
        · exact absurd h6 (h3 q (by omega) h5)
      simp; omega
  · rfl
theorem latest_none {b : List Nat} {a : Nat} (h : ∀ q, q < a → ¬ Same b q a) : latest b a = none := by
  unfold latest
  split
  · rw [back_none h]; rfl
  · rfl
theorem latest_spec {b : List Nat} {a p : Nat} (h : latest b a = some p) : a + 4 ≤ b.length ∧ p < a ∧ Same b p a ∧ a - p ≤ 65535 := by
  unfold latest at h
  split at h
  · rename_i h0
    cases hb : back b a a with
    | none => rw [hb] at h; cases h
    | some q =>
      rw [hb] at h
      simp only [Option.bind_some] at h
      split at h
      · cases h
        obtain ⟨h1, h2, _⟩ := back_spec hb
        exact ⟨h0, h1, h2, by assumption⟩
      · cases h
  · cases h

/-! How many bytes are alike. -/
def al (b : List Nat) (p a : Nat) : Nat → Nat
  | 0 => 0
  | m + 1 => if g b p = g b a then 1 + al b (p + 1) (a + 1) m else 0
def alike (b : List Nat) (p a : Nat) : Nat := al b p a (min (b.length - a) 131)
theorem al_eq {b : List Nat} : ∀ {m p a n : Nat}, n ≤ m → (∀ k, k < n → g b (p + k) = g b (a + k)) → (n = m ∨ g b (p + n) ≠ g b (a + n)) → al b p a m = n := by
  intro m
  induction m with
  | zero => intro p a n h _ _; simp only [al]; omega
  | succ m ih =>
    intro p a n h1 h2 h3
    simp only [al]
    cases n with
    | zero =>
      have : g b p ≠ g b a := by rcases h3 with h | h; · omega
                                 · simpa using h
      rw [if_neg this]
    | succ n =>
      rw [if_pos (by simpa using h2 0 (by omega))]
      rw [ih (p := p + 1) (a := a + 1) (n := n) (by omega) (fun k hk => by have := h2 (k + 1) (by omega); rwa [show p + (k + 1) = p + 1 + k from by omega, show a + (k + 1) = a + 1 + k from by omega] at this)
        (by rcases h3 with h | h
            · left; omega
            · right; rwa [show p + (n + 1) = p + 1 + n from by omega, show a + (n + 1) = a + 1 + n from by omega] at h)]
      omega
theorem al_spec {b : List Nat} : ∀ {m p a : Nat}, al b p a m ≤ m ∧ ∀ k, k < al b p a m → g b (p + k) = g b (a + k) := by
  intro m
  induction m with
  | zero => intro p a; simp [al]
  | succ m ih =>
    intro p a
    simp only [al]
    split
    · rename_i h0
      obtain ⟨h1, h2⟩ := ih (p := p + 1) (a := a + 1)
      refine ⟨by omega, fun k hk => ?_⟩
      cases k with
      | zero => simpa using h0
      | succ k =>
        have := h2 k (by omega)
        rwa [show p + (k + 1) = p + 1 + k from by omega, show a + (k + 1) = a + 1 + k from by omega]
    · exact ⟨by omega, fun k hk => by omega⟩
theorem al_stop {b : List Nat} : ∀ {m p a : Nat}, al b p a m < m → g b (p + al b p a m) ≠ g b (a + al b p a m) := by
  intro m
  induction m with
  | zero => intro p a h; omega
  | succ m ih =>
    intro p a h
    simp only [al] at h ⊢
    split
    · rename_i h0
      rw [if_pos h0] at h
      have := ih (p := p + 1) (a := a + 1) (by omega)
      rwa [show p + (1 + al b (p + 1) (a + 1) m) = p + 1 + al b (p + 1) (a + 1) m from by omega, show a + (1 + al b (p + 1) (a + 1) m) = a + 1 + al b (p + 1) (a + 1) m from by omega]
    · simpa using by assumption
theorem alike_eq {b : List Nat} {p a n : Nat} (h1 : n ≤ min (b.length - a) 131) (h2 : ∀ k, k < n → g b (p + k) = g b (a + k)) (h3 : n = min (b.length - a) 131 ∨ g b (p + n) ≠ g b (a + n)) : alike b p a = n := al_eq h1 h2 h3
theorem alike_le (b : List Nat) (p a : Nat) : alike b p a ≤ 131 ∧ alike b p a ≤ b.length - a := by
  have := (al_spec (b := b) (m := min (b.length - a) 131) (p := p) (a := a)).1
  unfold alike; omega
theorem alike_ge {b : List Nat} {p a : Nat} (h : Same b p a) (h4 : a + 4 ≤ b.length) : 4 ≤ alike b p a := by
  obtain ⟨e0, e1, e2, e3⟩ := h
  by_cases hl : 4 ≤ alike b p a
  · exact hl
  · have hs := al_stop (b := b) (m := min (b.length - a) 131) (p := p) (a := a) (by unfold alike at hl; omega)
    change g b (p + alike b p a) ≠ g b (a + alike b p a) at hs
    exfalso
    rcases (show alike b p a = 0 ∨ alike b p a = 1 ∨ alike b p a = 2 ∨ alike b p a = 3 by omega) with h | h | h | h <;> rw [h] at hs
    · exact hs e0
    · exact hs e1
    · exact hs e2
    · exact hs e3

/-! Bytes that stand for themselves, in pieces. -/
def ownF : Nat → List Nat → List Nat
  | 0, _ => []
  | f + 1, l => if l.length = 0 then [] else min 127 l.length :: (l.take 127 ++ ownF f (l.drop 127))
theorem ownF_fuel : ∀ (f : Nat) (l : List Nat), l.length ≤ f → ownF f l = ownF l.length l := by
  intro f
  induction f using Nat.strongRecOn with
  | _ f ih =>
    intro l h
    cases hl : l.length with
    | zero => cases f with
      | zero => rfl
      | succ f => simp only [ownF]; rw [if_pos hl]
    | succ n =>
      cases f with
      | zero => omega
      | succ f =>
        simp only [ownF]
        rw [if_neg (by omega), if_neg (by omega)]
        have e1 := ih f (by omega) (l.drop 127) (by rw [List.length_drop]; omega)
        have e2 := ih n (by omega) (l.drop 127) (by rw [List.length_drop]; omega)
        rw [e1, e2]
def own (l : List Nat) : List Nat := ownF l.length l
theorem own_nil : own [] = [] := rfl
theorem own_cons {l : List Nat} (h : 0 < l.length) : own l = min 127 l.length :: (l.take 127 ++ own (l.drop 127)) := by
  unfold own
  obtain ⟨n, hn⟩ : ∃ n, l.length = n + 1 := ⟨l.length - 1, by omega⟩
  rw [hn]
  simp only [ownF]
  rw [if_neg (by omega), ownF_fuel n (l.drop 127) (by rw [List.length_drop]; omega), hn]
theorem own_small {l : List Nat} (h : 0 < l.length) (h2 : l.length ≤ 127) : own l = l.length :: l := by
  rw [own_cons h, List.take_of_length_le h2, List.drop_of_length_le h2, own_nil, List.append_nil, Nat.min_eq_right h2]
theorem own_len (l : List Nat) : (own l).length ≤ 2 * l.length := by
  obtain ⟨n, hn⟩ : ∃ n, n = l.length := ⟨_, rfl⟩
  induction n using Nat.strongRecOn generalizing l with
  | _ n ih =>
    by_cases h : 0 < l.length
    · rw [own_cons h]
      have := ih (l.drop 127).length (by rw [List.length_drop]; omega) _ rfl
      simp only [List.length_cons, List.length_append, List.length_take, List.length_drop] at this ⊢
      omega
    · have : l = [] := List.length_eq_zero_iff.1 (by omega)
      subst this; simp [own_nil]
theorem own_bytes {l : List Nat} (h : ∀ x ∈ l, x < 256) : ∀ x ∈ own l, x < 256 := by
  obtain ⟨n, hn⟩ : ∃ n, n = l.length := ⟨_, rfl⟩
  induction n using Nat.strongRecOn generalizing l with
  | _ n ih =>
    by_cases h0 : 0 < l.length
    · rw [own_cons h0]
      intro x hx
      rcases List.mem_cons.1 hx with rfl | hx
      · omega
      · rcases List.mem_append.1 hx with hx | hx
        · exact h x (List.mem_of_mem_take hx)
        · exact ih (l.drop 127).length (by rw [List.length_drop]; omega) (fun y hy => h y (List.mem_of_mem_drop hy)) rfl x hx
    · have : l = [] := List.length_eq_zero_iff.1 (by omega)
      subst this; simp [own_nil]

/-- A copy's piece. -/
def cp (d n : Nat) : List Nat := [124 + n, d / 256, d % 256]
def mid (b : List Nat) (o a : Nat) : List Nat := (b.drop o).take (a - o)
theorem mid_len {b : List Nat} {o a : Nat} (h : a ≤ b.length) : (mid b o a).length = a - o := by
  unfold mid; rw [List.length_take, List.length_drop]; omega
theorem mid_self (b : List Nat) (o : Nat) : mid b o o = [] := by unfold mid; simp
theorem mid_end (b : List Nat) (o : Nat) : mid b o b.length = b.drop o := by
  unfold mid; rw [List.take_of_length_le (by simp)]
theorem mid_step {b : List Nat} {o a : Nat} (h1 : o ≤ a) (h : a < b.length) : mid b o (a + 1) = mid b o a ++ [g b a] := by
  unfold mid g
  rw [show a + 1 - o = a - o + 1 from by omega, List.take_add_one, List.getElem?_drop, show o + (a - o) = a from by omega, List.getElem?_eq_getElem h, List.getD_eq_getElem?_getD, List.getElem?_eq_getElem h]
  rfl
theorem take_mid {b : List Nat} {o a : Nat} (h : o ≤ a) : b.take o ++ mid b o a = b.take a := by
  unfold mid
  rw [show b.take a = b.take (o + (a - o)) from by rw [show o + (a - o) = a from by omega], List.take_add]

def packF (b : List Nat) : Nat → Nat → Nat → List Nat
  | 0, o, _ => own (b.drop o)
  | f + 1, o, a => if a < b.length then match latest b a with
      | none => packF b f o (a + 1)
      | some p => own (mid b o a) ++ (cp (a - p) (alike b p a) ++ packF b f (a + alike b p a) (a + alike b p a))
    else own (b.drop o)
theorem packF_fuel (b : List Nat) : ∀ (f o a : Nat), b.length - a ≤ f → packF b f o a = packF b (b.length - a) o a := by
  intro f
  induction f using Nat.strongRecOn with
  | _ f ih =>
    intro o a h
    by_cases ha : a < b.length
    · obtain ⟨n, hn⟩ : ∃ n, b.length - a = n + 1 := ⟨b.length - a - 1, by omega⟩
      cases f with
      | zero => omega
      | succ f =>
        rw [hn]
        simp only [packF]
        rw [if_pos ha, if_pos ha]
        cases hl : latest b a with
        | none =>
          simp only []
          rw [ih f (by omega) o (a + 1) (by omega), show b.length - (a + 1) = n from by omega]
        | some p =>
          simp only []
          obtain ⟨h4, h5, h6, _⟩ := latest_spec hl
          have h7 := alike_ge h6 h4
          rw [ih f (by omega) _ (a + alike b p a) (by omega), ih n (by omega) _ (a + alike b p a) (by omega)]
    · rw [show b.length - a = 0 from by omega]
      cases f with
      | zero => rfl
      | succ f => simp only [packF]; rw [if_neg ha]
/-- What is left to be packed, from place a on, where the bytes from o on stand for themselves. -/
def rest (b : List Nat) (o a : Nat) : List Nat := packF b (b.length - a) o a
def packs (b : List Nat) : List Nat := rest b 0 0
theorem rest_end {b : List Nat} {o a : Nat} (h : b.length ≤ a) : rest b o a = own (b.drop o) := by
  unfold rest; rw [show b.length - a = 0 from by omega]; rfl
theorem rest_none {b : List Nat} {o a : Nat} (h : a < b.length) (hl : latest b a = none) : rest b o a = rest b o (a + 1) := by
  unfold rest
  obtain ⟨n, hn⟩ : ∃ n, b.length - a = n + 1 := ⟨b.length - a - 1, by omega⟩
  rw [hn]
  simp only [packF]
  rw [if_pos h, hl, show b.length - (a + 1) = n from by omega]
theorem rest_some {b : List Nat} {o a p : Nat} (h : a < b.length) (hl : latest b a = some p) : rest b o a = own (mid b o a) ++ (cp (a - p) (alike b p a) ++ rest b (a + alike b p a) (a + alike b p a)) := by
  unfold rest
  obtain ⟨n, hn⟩ : ∃ n, b.length - a = n + 1 := ⟨b.length - a - 1, by omega⟩
  obtain ⟨h4, h5, h6, _⟩ := latest_spec hl
  have h7 := alike_ge h6 h4
  rw [hn]
  simp only [packF]
  rw [if_pos h, hl]
  simp only []
  rw [packF_fuel b n _ (a + alike b p a) (by omega)]
theorem rest_len (b : List Nat) : ∀ (k o a : Nat), b.length - a = k → o ≤ a → a ≤ b.length → (rest b o a).length ≤ 2 * (b.length - o) := by
  intro k
  induction k using Nat.strongRecOn with
  | _ k ih =>
    intro o a hk h1 h2
    by_cases ha : a < b.length
    · cases hl : latest b a with
      | none => rw [rest_none ha hl]; exact ih (b.length - (a + 1)) (by omega) o (a + 1) rfl (by omega) (by omega)
      | some p =>
        obtain ⟨h4, h5, h6, _⟩ := latest_spec hl
        have h7 := alike_ge h6 h4
        have h8 := alike_le b p a
        have h9 := ih (b.length - (a + alike b p a)) (by omega) (a + alike b p a) (a + alike b p a) rfl (by omega) (by omega)
        have h10 := own_len (mid b o a)
        rw [mid_len (by omega)] at h10
        rw [rest_some ha hl]
        simp only [List.length_append, cp, List.length_cons, List.length_nil]
        omega
    · rw [rest_end (by omega)]
      have := own_len (b.drop o)
      rw [List.length_drop] at this
      exact this
theorem packs_len (b : List Nat) : (packs b).length ≤ 2 * b.length := by
  have := rest_len b b.length 0 0 rfl (Nat.le_refl _) (Nat.zero_le _)
  simpa [packs] using this
theorem rest_bytes {b : List Nat} (hb : ∀ x ∈ b, x < 256) : ∀ (k o a : Nat), b.length - a = k → ∀ x ∈ rest b o a, x < 256 := by
  intro k
  induction k using Nat.strongRecOn with
  | _ k ih =>
    intro o a hk
    by_cases ha : a < b.length
    · cases hl : latest b a with
      | none => rw [rest_none ha hl]; exact ih (b.length - (a + 1)) (by omega) o (a + 1) rfl
      | some p =>
        obtain ⟨h4, h5, h6, h66⟩ := latest_spec hl
        have h7 := alike_ge h6 h4
        have h8 := alike_le b p a
        rw [rest_some ha hl]
        intro x hx
        rcases List.mem_append.1 hx with hx | hx
        · exact own_bytes (fun y hy => hb y (List.mem_of_mem_drop (List.mem_of_mem_take hy))) x hx
        · rcases List.mem_append.1 hx with hx | hx
          · simp [cp] at hx; omega
          · exact ih (b.length - (a + alike b p a)) (by omega) _ (a + alike b p a) rfl x hx
    · rw [rest_end (by omega)]
      exact own_bytes (fun y hy => hb y (List.mem_of_mem_drop hy))
theorem packs_bytes {b : List Nat} (hb : ∀ x ∈ b, x < 256) : ∀ x ∈ packs b, x < 256 := rest_bytes hb _ 0 0 rfl
end Lm
end Go.Proofs.YtjmddomkoholoaaGreatDoor

/- What packed bytes stand for: plain mathematics. -/
namespace Go.Proofs.YtjmddomkoholoaaGreatDoor
namespace Lu
open Lm

/-- A copy's bytes behind those that are there. -/
def copyN (out : List Nat) (d : Nat) : Nat → List Nat
  | 0 => out
  | m + 1 => copyN (out ++ [g out (out.length - d)]) d m
theorem copyN_len (d : Nat) : ∀ (m : Nat) (out : List Nat), (copyN out d m).length = out.length + m := by
  intro m
  induction m with
  | zero => intro out; rfl
  | succ m ih => intro out; simp only [copyN]; rw [ih]; simp; omega
theorem copyN_snoc (d : Nat) : ∀ (m : Nat) (out : List Nat), copyN out d (m + 1) = copyN out d m ++ [g (copyN out d m) ((copyN out d m).length - d)] := by
  intro m
  induction m with
  | zero => intro out; rfl
  | succ m ih => intro out; rw [copyN, ih]; rfl
theorem copyN_bytes (d : Nat) : ∀ (m : Nat) (out : List Nat), (∀ x ∈ out, x < 256) → ∀ x ∈ copyN out d m, x < 256 := by
  intro m
  induction m with
  | zero => intro out h; exact h
  | succ m ih =>
    intro out h
    refine ih _ fun x hx => ?_
    rcases List.mem_append.1 hx with hx | hx
    · exact h x hx
    · simp at hx; subst hx; exact g_lt h _
/-- The bytes, or the number of the error. -/
def unpF (most : Int) : Nat → List Nat → List Nat → Except Nat (List Nat)
  | 0, out, _ => .ok out
  | f + 1, out, l => match l with
    | [] => .ok out
    | n :: r =>
      if n = 0 then .error 2
      else if n < 128 then
        if r.length < n then .error 2
        else if most < (out.length : Int) + n then .error 4
        else unpF most f (out ++ r.take n) (r.drop n)
      else if r.length < 2 then .error 2
      else if g r 0 * 256 + g r 1 = 0 ∨ out.length < g r 0 * 256 + g r 1 then .error 2
      else if most < (out.length : Int) + ((n - 124 : Nat) : Int) then .error 4
      else unpF most f (copyN out (g r 0 * 256 + g r 1) (n - 124)) (r.drop 2)
theorem unpF_fuel (most : Int) : ∀ (f : Nat) (out l : List Nat), l.length ≤ f → unpF most f out l = unpF most l.length out l := by
  intro f
  induction f using Nat.strongRecOn with
  | _ f ih =>
    intro out l hl
    cases l with
    | nil => cases f <;> rfl
    | cons n r =>
      cases f with
      | zero => simp at hl
      | succ f =>
        simp only [List.length_cons] at hl ⊢
        simp only [unpF]
        split
        · rfl
        · split
          · split
            · rfl
            · split
              · rfl
              · rw [ih f (by omega) _ _ (by rw [List.length_drop]; omega), ih r.length (by omega) _ (r.drop n) (by rw [List.length_drop]; omega)]
          · split
            · rfl
            · split
              · rfl
              · split
                · rfl
                · rw [ih f (by omega) _ _ (by rw [List.length_drop]; omega), ih r.length (by omega) _ (r.drop 2) (by rw [List.length_drop]; omega)]
/-- What is unpacked of l behind out. -/
def unp (most : Int) (out l : List Nat) : Except Nat (List Nat) := unpF most l.length out l
theorem unp_nil (most : Int) (out : List Nat) : unp most out [] = .ok out := rfl
theorem unp_cons (most : Int) (out : List Nat) (n : Nat) (r : List Nat) : unp most out (n :: r) =
      if n = 0 then .error 2
      else if n < 128 then
        if r.length < n then .error 2
        else if most < (out.length : Int) + n then .error 4
        else unp most (out ++ r.take n) (r.drop n)
      else if r.length < 2 then .error 2
      else if g r 0 * 256 + g r 1 = 0 ∨ out.length < g r 0 * 256 + g r 1 then .error 2
      else if most < (out.length : Int) + ((n - 124 : Nat) : Int) then .error 4
      else unp most (copyN out (g r 0 * 256 + g r 1) (n - 124)) (r.drop 2) := by
  unfold unp
  simp only [List.length_cons, unpF]
  rw [unpF_fuel most r.length _ (r.drop n) (by rw [List.length_drop]; omega), unpF_fuel most r.length _ (r.drop 2) (by rw [List.length_drop]; omega)]

/-! What was packed is unpacked. -/
theorem unp_own {most : Int} : ∀ {k : Nat} {l out r : List Nat}, l.length = k → (out.length : Int) + l.length ≤ most → unp most out (own l ++ r) = unp most (out ++ l) r := by
  intro k
  induction k using Nat.strongRecOn with
  | _ k ih =>
    intro l out r hk hm
    by_cases h0 : l.length = 0
    · obtain rfl := List.length_eq_zero_iff.1 h0
      rw [own_nil, List.nil_append, List.append_nil]
    · have e := List.take_append_drop 127 l
      have hl : (l.take 127).length = min 127 l.length := by rw [List.length_take]
      rw [own_cons (by omega), List.cons_append, unp_cons, if_neg (by omega), if_pos (by omega), if_neg (by simp only [List.length_append, hl]; omega), if_neg (by omega)]
      have ht : (l.take 127 ++ own (l.drop 127) ++ r).take (min 127 l.length) = l.take 127 := by rw [List.append_assoc, List.take_append_of_le_length (by omega), List.take_of_length_le (by omega)]
      have hd : (l.take 127 ++ own (l.drop 127) ++ r).drop (min 127 l.length) = own (l.drop 127) ++ r := by rw [List.append_assoc, List.drop_append_of_le_length (by omega), List.drop_of_length_le (by omega), List.nil_append]
      rw [ht, hd, ih (l.drop 127).length (by rw [List.length_drop]; omega) rfl (by rw [List.length_append, List.length_take, List.length_drop]; omega), List.append_assoc, e]
theorem copyN_take {b : List Nat} : ∀ {m p a : Nat}, p < a → a + m ≤ b.length → (∀ k, k < m → g b (p + k) = g b (a + k)) → copyN (b.take a) (a - p) m = b.take (a + m) := by
  intro m
  induction m with
  | zero => intro p a _ _ _; rfl
  | succ m ih =>
    intro p a hpa hl h
    simp only [copyN]
    have hlen : (b.take a).length = a := by rw [List.length_take]; omega
    have hg : g (b.take a) p = g b p := by unfold g; simp [List.getD_eq_getElem?_getD, hpa]
    rw [hlen, show a - (a - p) = p from by omega, hg]
    have e : b.take a ++ [g b p] = b.take (a + 1) := by
      rw [show g b p = g b a from by simpa using h 0 (by omega), List.take_add_one, List.getElem?_eq_getElem (by omega)]
      simp only [g, List.getD_eq_getElem?_getD]
      rw [List.getElem?_eq_getElem (by omega)]
      rfl
    rw [e, show a - p = (a + 1) - (p + 1) from by omega, ih (p := p + 1) (a := a + 1) (by omega) (by omega) (fun k hk => by have := h (k + 1) (by omega); rwa [show p + (k + 1) = p + 1 + k from by omega, show a + (k + 1) = a + 1 + k from by omega] at this), show a + 1 + m = a + (m + 1) from by omega]
theorem unp_rest {b : List Nat} {most : Int} (hm : (b.length : Int) ≤ most) : ∀ {k o a : Nat}, b.length - a = k → o ≤ a → a ≤ b.length → unp most (b.take o) (rest b o a) = .ok b := by
  intro k
  induction k using Nat.strongRecOn with
  | _ k ih =>
    intro o a hk h1 h2
    by_cases ha : a < b.length
    · cases hl : latest b a with
      | none => rw [rest_none ha hl]; exact ih (b.length - (a + 1)) (by omega) rfl (by omega) (by omega)
      | some p =>
        obtain ⟨h4, h5, h6, h66⟩ := latest_spec hl
        have h7 := alike_ge h6 h4
        have h8 := alike_le b p a
        have h9 := (al_spec (b := b) (m := min (b.length - a) 131) (p := p) (a := a)).2
        change ∀ k, k < alike b p a → _ at h9
        have hml := mid_len (b := b) (o := o) (a := a) (by omega)
        have hlen : (b.take a).length = a := by rw [List.length_take]; omega
        rw [rest_some ha hl, unp_own rfl (by rw [hml, List.length_take]; omega), take_mid h1]
        show unp most (b.take a) ((124 + alike b p a) :: ((a - p) / 256) :: ((a - p) % 256) :: rest b (a + alike b p a) (a + alike b p a)) = .ok b
        have g0 : g ((a - p) / 256 :: (a - p) % 256 :: rest b (a + alike b p a) (a + alike b p a)) 0 = (a - p) / 256 := rfl
        have g1 : g ((a - p) / 256 :: (a - p) % 256 :: rest b (a + alike b p a) (a + alike b p a)) 1 = (a - p) % 256 := rfl
        rw [unp_cons, g0, g1, show (a - p) / 256 * 256 + (a - p) % 256 = a - p from by omega, if_neg (by omega), if_neg (by omega), if_neg (by simp only [List.length_cons]; omega), if_neg (by rw [hlen]; omega), if_neg (by rw [hlen]; omega),
          show 124 + alike b p a - 124 = alike b p a from by omega, copyN_take h5 (by omega) h9]
        exact ih (b.length - (a + alike b p a)) (by omega) rfl (Nat.le_refl _) (by omega)
    · obtain rfl : a = b.length := by omega
      have hd : (b.drop o).length = b.length - o := List.length_drop
      have := unp_own (most := most) (l := b.drop o) (out := b.take o) (r := []) rfl (by rw [hd, List.length_take]; omega)
      rw [List.append_nil, List.take_append_drop] at this
      rw [rest_end (Nat.le_refl _), this, unp_nil]
theorem unp_packs {b : List Nat} {most : Int} (hm : (b.length : Int) ≤ most) : unp most [] (packs b) = .ok b := by
  have := unp_rest hm (k := b.length) (o := 0) (a := 0) rfl (Nat.le_refl _) (Nat.zero_le _)
  simpa [packs] using this
/-- So many bytes stand for no more than so many. -/
theorem unp_len {most : Int} : ∀ {k : Nat} {out l l' : List Nat}, l.length = k → unp most out l = .ok l' → l' = out ∨ (l'.length : Int) ≤ most := by
  intro k
  induction k using Nat.strongRecOn with
  | _ k ih =>
    intro out l l' hk h
    cases l with
    | nil => rw [unp_nil] at h; cases h; exact .inl rfl
    | cons n r =>
      simp only [List.length_cons] at hk
      rw [unp_cons] at h
      split at h
      · cases h
      · split at h
        · split at h
          · cases h
          · split at h
            · cases h
            · rename_i h1 h2 h3 h4
              rcases ih (r.drop n).length (by rw [List.length_drop]; omega) rfl h with h5 | h5
              · right; rw [h5, List.length_append, List.length_take]; omega
              · exact .inr h5
        · split at h
          · cases h
          · split at h
            · cases h
            · split at h
              · cases h
              · rename_i h1 h2 h3 h4 h5
                rcases ih (r.drop 2).length (by rw [List.length_drop]; omega) rfl h with h6 | h6
                · right; rw [h6, copyN_len]; omega
                · exact .inr h6
end Lu
end Go.Proofs.YtjmddomkoholoaaGreatDoor

/- Bytes in memory, what the walks share. -/
namespace Go.Proofs.YtjmddomkoholoaaGreatDoor
open Go.RowKit
namespace Bs
open Lm

/-- The bytes as cells. -/
def u8s (bs : List Nat) : List Value := bs.map fun b => .int .u8 (b : Nat)
theorem u8s_len (bs : List Nat) : (u8s bs).length = bs.length := by simp [u8s]
theorem u8s_snoc (bs : List Nat) (b : Nat) : u8s (bs ++ [b]) = u8s bs ++ [.int .u8 (b : Nat)] := by simp [u8s]
theorem u8s_app (bs cs : List Nat) : u8s (bs ++ cs) = u8s bs ++ u8s cs := by simp [u8s]
theorem u8s_one (bs : List Nat) : ∀ u ∈ u8s bs, u.oneCell' = true := fun u hu => by simp [u8s] at hu; obtain ⟨x, _, rfl⟩ := hu; rfl
theorem u8s_get (bs : List Nat) (j : Nat) (hj : j < bs.length) : (u8s bs)[j]? = some (.int .u8 (bs.getD j 0 : Nat)) := by
  simp [u8s, List.getD_eq_getElem?_getD, hj]
theorem info5 : (Tryz.prog.info? 5).map (fun i => (i.zero, i.size, i.bytes)) = some (some (.int .u8 0), 1, 1) := by kernel_rfl
theorem info3 : (Tryz.prog.info? 3).map (fun i => (i.zero, i.size, i.bytes)) = some (some (.int .i64 0), 1, 8) := by kernel_rfl
theorem ret_int {k : IntKind} {a b : Int} (h : a = b) : Ending.returned (.int k a) = .returned (.int k b) := by rw [h]
theorem cell_lt {w : World} {a : Addr} {v : Value} (h : w.cell? a = some v) : a.block < w.heap.size := by
  unfold World.cell? at h
  by_cases hl : a.block < w.heap.size
  · exact hl
  · rw [Array.getElem?_eq_none (by omega)] at h; simp at h
theorem cell_other {w : World} {a b : Addr} {v : Value} (h : a ≠ b) : (w.setCell a v).cell? b = w.cell? b := by apply World.cell?_setCell_other; exact h
theorem cell_same {w : World} {a : Addr} {u v : Value} (h : w.cell? a = some u) : (w.setCell a v).cell? a = some v := by apply World.cell?_setCell_same; exact h

/-- A slice of these bytes, in a block of which R holds. -/
def Src (w : World) (R : Nat → Prop) (s : Value) (bs : List Nat) : Prop :=
  (bs = [] ∧ ∃ a c, s = .slice a 0 c) ∨ (0 < bs.length ∧ ∃ b off c, s = .slice (some ⟨b, off, none⟩) bs.length c ∧ bs.length ≤ c ∧ R b ∧ ∀ i, i < bs.length → w.cell? ⟨b, off + i, none⟩ = some (.int .u8 (g bs i : Nat)))

theorem Src.forms {w : World} {R : Nat → Prop} {s : Value} {bs : List Nat} (h : Src w R s bs) : ∃ a c, s = .slice a bs.length c := by
  rcases h with ⟨rfl, a, c, rfl⟩ | ⟨_, b, off, c, rfl, _⟩
  · exact ⟨a, c, rfl⟩
  · exact ⟨_, _, rfl⟩
theorem Src.imp {w : World} {R R' : Nat → Prop} {s : Value} {bs : List Nat} (h : Src w R s bs) (f : ∀ b, R b → R' b) : Src w R' s bs := by
  rcases h with h | ⟨h0, b, off, c, h1, h2, h3, h4⟩
  · exact .inl h
  · exact .inr ⟨h0, b, off, c, h1, h2, f b h3, h4⟩
theorem Src.move {w w' : World} {R : Nat → Prop} {s : Value} {bs : List Nat} (h : Src w R s bs) (f : ∀ b, R b → b < w.heap.size → w'.heap[b]? = w.heap[b]?) : Src w' R s bs := by
  rcases h with h | ⟨h0, b, off, c, h1, h2, h3, h4⟩
  · exact .inl h
  · exact .inr ⟨h0, b, off, c, h1, h2, h3, fun i hi => (World.cell?_of_block (f b h3 (by have := cell_lt (h4 i hi); exact this))).trans (h4 i hi)⟩
theorem Src.below {w w' : World} {R : Nat → Prop} {B : Nat} {s : Value} {bs : List Nat} (h : Src w R s bs) (b : Below B w w') (hB : ∀ k, R k → k < B) : Src w' R s bs := h.move fun k hk _ => b.block k (hB k hk)
theorem Src.drewN {w : World} {R : Nat → Prop} {s : Value} {bs : List Nat} (h : Src w R s bs) (n : Nat) : Src (w.drewN n) R s bs := h
theorem src_own {w : World} {B : Nat} {v : Value} {bs : List Nat} (h : w.ownsRow B 5 1 v bs.length (u8s bs)) : Src w (fun b => B ≤ b ∧ v.ownBlock = some b) v bs := by
  by_cases h0 : bs.length = 0
  · obtain rfl := List.length_eq_zero_iff.1 h0
    rcases Go.Joins.ownsRow_forms h with ⟨rfl, _⟩ | ⟨q, c, rfl⟩
    · exact .inl ⟨rfl, _, _, rfl⟩
    · exact .inl ⟨rfl, _, _, rfl⟩
  · obtain ⟨_, ⟨_, e⟩ | ⟨g, c, cur, rfl, hg, hh, hnc, hcm, hsz, htk⟩⟩ := h
    · omega
    · refine .inr ⟨by omega, g, 0, c, rfl, hnc, ⟨hg, rfl⟩, fun i hi => ?_⟩
      have h' : w.ownsRow B 5 1 (.slice (some ⟨g, 0, none⟩) bs.length c) bs.length (u8s bs) := ⟨by rw [u8s_len]; omega, .inr ⟨g, c, cur, rfl, hg, hh, hnc, hcm, hsz, htk⟩⟩
      rw [Nat.zero_add, h'.cellAt i (by omega)]
      exact u8s_get bs i hi

/-- The string of bytes. -/
def str (bs : List Nat) : ByteArray := strOfNums (bs.map fun b : Nat => (b : Int))
theorem str_inj {cs bs : List Nat} (ha : ∀ x ∈ cs, x < 256) (hb : ∀ x ∈ bs, x < 256) (h : str cs = str bs) : cs = bs := by
  have e : (str cs).data.toList = (str bs).data.toList := by rw [h]
  unfold str at e
  rw [strOfNums_data, strOfNums_data] at e
  simp only [List.map_map] at e
  have hl : cs.length = bs.length := by simpa using congrArg List.length e
  apply List.ext_getElem hl
  intro j h1 h2
  have ej : (UInt8.ofNat cs[j]) = UInt8.ofNat bs[j] := by
    have := congrArg (fun l => l[j]?) e
    simpa [h1, h2] using this
  have l1 := ha _ (List.getElem_mem h1)
  have l2 := hb _ (List.getElem_mem h2)
  have := congrArg UInt8.toNat ej
  simp only [UInt8.toNat_ofNat'] at this
  omega
theorem toList_eq {S T : ByteArray} (h : S = T) : (S.toList == T.toList) = true := by rw [h]; simp
theorem conv_cells (w : World) (src : TypeId) (hs : Tryz.prog.underlying src = some (.slice 5)) (b off c : Nat) (bs : List Nat) (h : ∀ i, i < bs.length → w.cell? ⟨b, off + i, none⟩ = some (.int .u8 (g bs i : Nat))) :
    (convert src 9 (.slice (some ⟨b, off, none⟩) bs.length c)).run Tryz.prog w = .ok (.string (str bs)) w := by
  refine run_convert_bytes_arg w src 5 hs Tryz.underlying5 b off bs.length c _ (by simp) (fun i hi => ?_) 9 Tryz.underlying9
  rw [h i hi]
  simp [g, List.getD_eq_getElem?_getD, hi]
theorem conv_src {w : World} {R : Nat → Prop} {s : Value} {bs : List Nat} (h : Src w R s bs) : (convert 22 9 s).run Tryz.prog w = .ok (.string (str bs)) w := by
  rcases h with ⟨rfl, a, c, rfl⟩ | ⟨h0, b, off, c, rfl, hl, _, hc⟩
  · cases a with
    | none => exact run_convert_bytes_nil w 22 5 Tryz.underlying22 Tryz.underlying5 0 c 9 Tryz.underlying9
    | some a =>
      rw [run_convert_bytes_string w 22 9 5 _ 0 c Tryz.underlying22 Tryz.underlying5 Tryz.underlying9]
      rw [run_bytesToString w a 0 c [] (by simpa using run_loadCells_list (P := Tryz.prog) w a [] (by simp))]
      rfl
  · exact conv_cells w 22 Tryz.underlying22 b off c bs hc
theorem conv_own {w : World} {B : Nat} {v : Value} {bs : List Nat} (h : w.ownsRow B 5 1 v bs.length (u8s bs)) : (convert 22 9 v).run Tryz.prog w = .ok (.string (str bs)) w := conv_src (src_own h)

/-! What has turned: what s owns; blocks have come. -/
def Own (w : World) (s s' : Value) : Prop := s'.ownBlock = s.ownBlock ∨ ∃ h, s'.ownBlock = some h ∧ w.heap.size ≤ h
theorem Own.refl (w : World) (s : Value) : Own w s s := .inl rfl
theorem Own.trans {a b : World} {s t u : Value} (h : Own a s t) (k : Own b t u) (hsz : a.heap.size ≤ b.heap.size) : Own a s u := by
  rcases k with k | ⟨j, k, hj⟩
  · rcases h with h | ⟨i, h, hi⟩
    · exact .inl (k.trans h)
    · exact .inr ⟨i, k.trans h, hi⟩
  · exact .inr ⟨j, k, by omega⟩
/-- Only what s owns has turned, and it is s' now that owns it, or what is new. -/
def Gr (w w' : World) (s s' : Value) : Prop := w.grownBy w' s.ownBlock ∧ Own w s s'
theorem Gr.refl (w : World) (s : Value) : Gr w w s s := ⟨World.grownBy.refl _ _, .refl _ _⟩
theorem Gr.trans {a b c : World} {s t u : Value} (h : Gr a b s t) (k : Gr b c t u) : Gr a c s u := by
  obtain ⟨h, o⟩ := h
  obtain ⟨k, p⟩ := k
  refine ⟨⟨k.os.trans h.os, k.tape.trans h.tape, k.output.trans h.output, Nat.le_trans h.size k.size, fun i hi hs => ?_⟩, o.trans p h.size⟩
  rw [k.block i (Nat.lt_of_lt_of_le hi h.size) ?_, h.block i hi hs]
  rcases o with o | ⟨j, o, hj⟩
  · rw [o]; exact hs
  · rw [o]; intro e; cases e; omega
theorem Gr.block {w w' : World} {s s' : Value} (h : Gr w w' s s') {k : Nat} (hk : k < w.heap.size) (hs : s.ownBlock ≠ some k) : w'.heap[k]? = w.heap[k]? := h.1.block k hk (fun e => hs e.symm)
theorem Gr.below {w w' : World} {s s' : Value} {B : Nat} (h : Gr w w' s s') (hB : B ≤ w.heap.size) (hs : ∀ k, s.ownBlock = some k → B ≤ k) : Below B w w' :=
  ⟨h.1.os, h.1.tape, h.1.output, h.1.size, fun k hk => h.block (by omega) (fun e => by have := hs k e; omega)⟩
theorem Gr.size {w w' : World} {s s' : Value} (h : Gr w w' s s') : w.heap.size ≤ w'.heap.size := h.1.size
/-- What an append leaves. -/
theorem gr_at {w w' : World} {s s' : Value} (h : w.grownBy w' s.ownBlock) (hat : s'.ownBlock = s.ownBlock ∨ s'.ownBlock = some w.heap.size) : Gr w w' s s' :=
  ⟨h, hat.imp id fun e => ⟨_, e, Nat.le_refl _⟩⟩
theorem gr_alloc {w w' : World} {s s' : Value} (o : Obj) (h : Gr (w.alloc o) w' s s') : Gr w w' s s' :=
  (show Gr w (w.alloc o) s s from ⟨World.grownBy_alloc w o _, .refl _ _⟩).trans h
theorem own_below {w w' : World} {B n : Nat} {e : TypeId} {v : Value} {xs : List Value} (h : w.ownsRow B e 1 v n xs) (b : Below w.heap.size w w') : w'.ownsRow B e 1 v n xs :=
  h.kept (row := none) ⟨b.os, b.tape, b.output, b.size, fun k hk _ => b.block k hk⟩ (by
    by_cases e : v.ownBlock = none
    · exact .inl e
    · exact .inr e)
def lenOf : Value → Nat
  | .slice _ n _ => n
  | _ => 0
end Bs
end Go.Proofs.YtjmddomkoholoaaGreatDoor

/- A map of places, by what it has. -/
namespace Go.Proofs.YtjmddomkoholoaaGreatDoor
open Go.RowKit Go.Maps Go.ChangeMaps Go.MapKept
namespace Mp
open Lm Bs

theorem law : Keyed Tryz.prog 31 := int_keyed Tryz.underlying31
theorem zeroE (w : World) : (zeroValue 3).run Tryz.prog w = .ok (.int .i64 0) w := by kernel_rfl
def key (k : Nat) : Lit := .int .u32 (k : Nat)
theorem wf_u32 {k : Nat} (h : k < 4294967296) : (Lit.int .u32 (k : Nat)).wf = true := by
  simp only [Lit.wf, Bool.and_eq_true, decide_eq_true_eq]
  have h1 : IntKind.u32.min = 0 := by decide
  have h2 : IntKind.u32.max = 4294967295 := by decide
  omega
theorem wf_i64 {k : Nat} (h : k ≤ 140737488353272) : (Lit.int .i64 (k : Nat)).wf = true := by
  simp only [Lit.wf, Bool.and_eq_true, decide_eq_true_eq]
  have h1 : IntKind.i64.min = -9223372036854775808 := by decide
  have h2 : IntKind.i64.max = 9223372036854775807 := by decide
  omega
theorem keyOf_u32 {k : Nat} (h : k < 4294967296) : keyOf Tryz.prog 31 (.int .u32 (k : Nat)) = some (key k) := keyOf_int_mk Tryz.underlying31 (wf_u32 h)
theorem key_inj {k k' : Nat} (h : key k = key k') : k = k' := by
  unfold key at h
  injection h with _ h
  omega
/-- Block m is a map of at most n entries: at k it has F k. -/
def Is (w : World) (m n : Nat) (F : Nat → Option Nat) : Prop :=
  ∃ D : DataW Unit, w.ownsMap Tryz.prog 31 (plainElem Tryz.prog 3) m n D ∧ ∀ k, k < 4294967296 → (F k = none → Maps.has D (key k) = false) ∧ (∀ q, F k = some q → Maps.has D (key k) = true ∧ D.atKey (key k) (.lit (.int .i64 0)) = .lit (.int .i64 (q : Nat)))

theorem Is.lt {w : World} {m n : Nat} {F : Nat → Option Nat} (h : Is w m n F) : m < w.heap.size := by obtain ⟨D, h, _⟩ := h; exact h.lt
theorem Is.of_block {w w' : World} {m n : Nat} {F : Nat → Option Nat} (h : Is w m n F) (e : w'.heap[m]? = w.heap[m]?) : Is w' m n F := by
  obtain ⟨D, ⟨es, clock, hb, r⟩, h2⟩ := h
  exact ⟨D, ⟨es, clock, e.trans hb, r⟩, h2⟩
theorem Is.mono {w : World} {m n n' : Nat} {F : Nat → Option Nat} (h : Is w m n F) (hn : n ≤ n') : Is w m n' F := by
  obtain ⟨D, h1, h2⟩ := h
  exact ⟨D, h1.mono hn, h2⟩
theorem Is.ext {w : World} {m n : Nat} {F F' : Nat → Option Nat} (h : Is w m n F) (e : ∀ k, F k = F' k) : Is w m n F' := by
  obtain rfl : F = F' := funext e
  exact h
theorem made (w : World) : Is (w.alloc (.map #[] 0)) w.heap.size 0 (fun _ => none) :=
  ⟨.map [], World.ownsMap_made _ _ _ _, fun k _ => ⟨fun _ => rfl, fun q h => by cases h⟩⟩
/-- What a look-up answers. -/
theorem Is.look {w : World} {m n : Nat} {F : Nat → Option Nat} (h : Is w m n F) {k : Nat} (hk : k < 4294967296) :
    (F k = none ∧ (Instr.lookup 201 (.map (some m)) (.int .u32 (k : Nat)) true).run Tryz.prog w = .ok (.tuple #[.int .i64 0, .bool false]) w) ∨
    ∃ q, F k = some q ∧ (Instr.lookup 201 (.map (some m)) (.int .u32 (k : Nat)) true).run Tryz.prog w = .ok (.tuple #[.int .i64 (q : Nat), .bool true]) w := by
  obtain ⟨D, h1, h2⟩ := h
  obtain ⟨v, ps, hrun, hv⟩ := h1.look_ok law Tryz.underlying201 (zeroE w) (plainElem_int Tryz.underlying3 (by decide) (a := 0)) (keyOf_u32 hk)
  obtain ⟨c, rfl, hc, hwc⟩ := plainElem_int_inv Tryz.underlying3 hv
  have hc1 : D.atKey (key k) (.lit (.int .i64 0)) = .lit (.int .i64 c) := congrArg Prod.fst hc
  obtain ⟨h3, h4⟩ := h2 k hk
  cases hF : F k with
  | none =>
    have h5 := h3 hF
    rw [h5] at hrun
    have h6 := Maps.atKey_of_not_has h5 (.lit (.int .i64 0))
    rw [hc1] at h6
    injection h6 with h6
    injection h6 with _ h6
    subst h6
    exact .inl ⟨rfl, hrun⟩
  | some q =>
    obtain ⟨h5, h6⟩ := h4 q hF
    rw [h5] at hrun
    rw [hc1] at h6
    injection h6 with h6
    injection h6 with _ h6
    subst h6
    exact .inr ⟨q, rfl, hrun⟩
/-- What a store leaves. -/
theorem Is.put {w : World} {m n : Nat} {F : Nat → Option Nat} (h : Is w m n F) {k v : Nat} (hk : k < 4294967296) (hv : v ≤ 140737488353272) (hn : n ≤ 140737488353272) :
    ∃ w', (Instr.mapUpdate 201 (.map (some m)) (.int .u32 (k : Nat)) (.int .i64 (v : Nat))).run Tryz.prog w = .ok () w' ∧ Is w' m (n + 1) (fun x => if x = k then some v else F x) ∧ w.mapTurned w' m := by
  obtain ⟨D, h1, h2⟩ := h
  obtain ⟨w', hrun, ho, ht⟩ := h1.store law Tryz.underlying201 (by unfold maxLen; omega) (keyOf_u32 hk) (plainElem_int Tryz.underlying3 (wf_i64 hv))
  have hm := h1.isMap
  refine ⟨w', hrun, ⟨_, ho, fun x hx => ⟨fun hF => ?_, fun q hF => ?_⟩⟩, ht⟩
  · dsimp only at hF
    by_cases e : x = k
    · rw [if_pos e] at hF; cases hF
    · rw [if_neg e] at hF
      rw [Maps.has_put_other (fun e' => e (key_inj e'))]
      exact (h2 x hx).1 hF
  · dsimp only at hF
    by_cases e : x = k
    · rw [if_pos e] at hF
      cases hF
      subst e
      have hkl : WideAt.IsKeyLit (key x) := law.key (keyOf_u32 hk)
      exact ⟨Maps.has_put_same hm hkl _, Maps.atKey_put_same hm hkl _ _⟩
    · rw [if_neg e] at hF
      rw [Maps.has_put_other (fun e' => e (key_inj e')), Maps.atKey_put_other (fun e' => e (key_inj e'))]
      exact (h2 x hx).2 q hF
/-- What clear leaves. -/
theorem Is.clear {w : World} {m n : Nat} {F : Nat → Option Nat} (h : Is w m n F) : ∃ w', (∀ ty, (Builtin.clear_ #[201] ty #[.map (some m)]).run Tryz.prog w = .ok (.tuple #[]) w') ∧ Is w' m 0 (fun _ => none) ∧ w.mapTurned w' m := by
  obtain ⟨D, ⟨es, clock, hb, F1, hs, rfl⟩, h2⟩ := h
  refine ⟨setBlock w m (.map #[] clock), fun ty => ?_, ⟨.map [], ⟨#[], clock, heap_setBlock_same hb _, ⟨by simp, stamped_empty clock, by simp⟩, Nat.le_refl _, rfl⟩, fun k _ => ⟨fun _ => rfl, fun q h => by cases h⟩⟩, ⟨es, clock, #[], clock, hb, rfl⟩⟩
  simp [Builtin.clear_, run_underlying Tryz.underlying201, MapKept.run_getObj_map hb, MapKept.run_setObj_map _ hb, Result.andThen, setBlock]
/-- 'clear(m)' at the operation. -/
theorem wpList_clear {w w' : World} {ops : Array Oper} {rest : List Oper} {o : Oper} {a : Act} {Q : Exit → Act → World → Prop} (hg : o.guard = none) (x : Operand) (hop : o.op = Op.call { callee := Callee.builtin Builtin.clear, args := #[x], argTypes := #[201] })
    (m : Nat) (hm : a.eval x = .map (some m)) (hrun : ∀ ty, (Builtin.clear_ #[201] ty #[.map (some m)]).run Tryz.prog w = .ok (.tuple #[]) w')
    (hK : wpList Tryz.prog ops Q rest (a.put o.dst (.tuple #[])) w') : wpList Tryz.prog ops Q (o :: rest) a w := by
  refine wpList_plain hg fun K' hK' => ?_
  unfold Oper.wp
  simp [execOp, hop, resolve, invoke, builtin, hm, hrun, Result.andThen]
  exact hK' _ _ hK
end Mp
end Go.Proofs.YtjmddomkoholoaaGreatDoor
