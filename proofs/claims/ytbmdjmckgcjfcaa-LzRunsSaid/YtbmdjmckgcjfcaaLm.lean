/- Bytes that repeat, packed: plain mathematics. -/
namespace Go.Proofs.Ytbmdjmckgcjfcaa
namespace Lm

def g (b : List Nat) (i : Nat) : Nat := b.getD i 0
theorem g_lt {b : List Nat} (h : ∀ x ∈ b, x < 256) (i : Nat) : g b i < 256 := by
  unfold g
  by_cases hi : i < b.length
  · rw [List.getD_eq_getElem?_getD, List.getElem?_eq_getElem hi]; exact h _ (List.getElem_mem hi)
  · rw [List.getD_eq_getElem?_getD, List.getElem?_eq_none (by omega)]; decide
/-- The same four bytes stand at both places. -/
def Same (b : List Nat) (p a : Nat) : Prop := g b p = g b a ∧ g b (p + 1) = g b (a + 1) ∧ g b (p + 2) = g b (a + 2) ∧ g b (p + 3) = g b (a + 3)
instance (b : List Nat) (p a : Nat) : Decidable (Same b p a) := by unfold Same; exact inferInstance
/-- The greatest place below k at which the same four stand as at a. -/
def back (b : List Nat) (a : Nat) : Nat → Option Nat
  | 0 => none
  | p + 1 => if Same b p a then some p else back b a p
theorem back_some {b : List Nat} {a : Nat} : ∀ {k p : Nat}, p < k → Same b p a → (∀ q, p < q → q < k → ¬ Same b q a) → back b a k = some p := by
  intro k
  induction k with
  | zero => intro p h; omega
  | succ k ih =>
    intro p h1 h2 h3
    simp only [back]
    by_cases e : p = k
    · subst e; rw [if_pos h2]
    · rw [if_neg (h3 k (by omega) (by omega))]
      exact ih (by omega) h2 (fun q a1 a2 => h3 q a1 (by omega))
theorem back_none {b : List Nat} {a : Nat} : ∀ {k : Nat}, (∀ q, q < k → ¬ Same b q a) → back b a k = none := by
  intro k
  induction k with
  | zero => intro _; rfl
  | succ k ih =>
    intro h
    simp only [back]
    rw [if_neg (h k (by omega))]
    exact ih (fun q hq => h q (by omega))
theorem back_spec {b : List Nat} {a : Nat} : ∀ {k p : Nat}, back b a k = some p → p < k ∧ Same b p a ∧ ∀ q, p < q → q < k → ¬ Same b q a := by
  intro k
  induction k with
  | zero => intro p h; cases h
  | succ k ih =>
    intro p h
    simp only [back] at h
    split at h
    · cases h
      rename_i hs
      exact ⟨by omega, hs, fun q h1 h2 => by omega⟩
    · rename_i hs
      obtain ⟨h1, h2, h3⟩ := ih h
      refine ⟨by omega, h2, fun q a1 a2 => ?_⟩
      by_cases e : q = k
      · subst e; exact hs
      · exact h3 q a1 (by omega)
theorem back_spec_none {b : List Nat} {a : Nat} : ∀ {k : Nat}, back b a k = none → ∀ q, q < k → ¬ Same b q a := by
  intro k
  induction k with
  | zero => intro _ q h; omega
  | succ k ih =>
    intro h q hq
    simp only [back] at h
    split at h
    · cases h
    · rename_i hs
      by_cases e : q = k
      · subst e; exact hs
      · exact ih h q (by omega)

/-- The latest place ahead of a, as far as a distance reaches, at which the same four bytes stand. -/
def latest (b : List Nat) (a : Nat) : Option Nat :=
  if a + 4 ≤ b.length then (back b a a).bind fun p => if a - p ≤ 65535 then some p else none else none
theorem latest_end {b : List Nat} {a : Nat} (h : b.length < a + 4) : latest b a = none := by unfold latest; rw [if_neg (by omega)]
theorem latest_some {b : List Nat} {a p : Nat} (h0 : a + 4 ≤ b.length) (h1 : p < a) (h2 : Same b p a) (h3 : ∀ q, p < q → q < a → ¬ Same b q a) (h4 : a - p ≤ 65535) : latest b a = some p := by
  unfold latest; rw [if_pos h0, back_some h1 h2 h3]; simp; omega
theorem latest_far {b : List Nat} {a p : Nat} (h3 : ∀ q, p < q → q < a → ¬ Same b q a) (h4 : ¬ a - p ≤ 65535) : latest b a = none := by
  unfold latest
  split
  · cases h : back b a a with
    | none => rfl
    | some q =>
      obtain ⟨h5, h6, h7⟩ := back_spec h
      have : q ≤ p := by
        by_cases e : q ≤ p
        · exact e
        · exact absurd h6 (h3 q (by omega) h5)
      simp; omega
  · rfl
theorem latest_none {b : List Nat} {a : Nat} (h : ∀ q, q < a → ¬ Same b q a) : latest b a = none := by
  unfold latest
  split
  · rw [back_none h]; rfl
  · rfl
theorem latest_spec {b : List Nat} {a p : Nat} (h : latest b a = some p) : a + 4 ≤ b.length ∧ p < a ∧ Same b p a ∧ a - p ≤ 65535 := by
  unfold latest at h
  split at h
  · rename_i h0
    cases hb : back b a a with
    | none => rw [hb] at h; cases h
    | some q =>
      rw [hb] at h
      simp only [Option.bind_some] at h
      split at h
      · cases h
        obtain ⟨h1, h2, _⟩ := back_spec hb
        exact ⟨h0, h1, h2, by assumption⟩
      · cases h
  · cases h

/-! How many bytes are alike. -/
def al (b : List Nat) (p a : Nat) : Nat → Nat
  | 0 => 0
  | m + 1 => if g b p = g b a then 1 + al b (p + 1) (a + 1) m else 0
def alike (b : List Nat) (p a : Nat) : Nat := al b p a (min (b.length - a) 131)
theorem al_eq {b : List Nat} : ∀ {m p a n : Nat}, n ≤ m → (∀ k, k < n → g b (p + k) = g b (a + k)) → (n = m ∨ g b (p + n) ≠ g b (a + n)) → al b p a m = n := by
  intro m
  induction m with
  | zero => intro p a n h _ _; simp only [al]; omega
  | succ m ih =>
    intro p a n h1 h2 h3
    simp only [al]
    cases n with
    | zero =>
      have : g b p ≠ g b a := by rcases h3 with h | h; · omega
                                 · simpa using h
      rw [if_neg this]
    | succ n =>
      rw [if_pos (by simpa using h2 0 (by omega))]
      rw [ih (p := p + 1) (a := a + 1) (n := n) (by omega) (fun k hk => by have := h2 (k + 1) (by omega); rwa [show p + (k + 1) = p + 1 + k from by omega, show a + (k + 1) = a + 1 + k from by omega] at this)
        (by rcases h3 with h | h
            · left; omega
            · right; rwa [show p + (n + 1) = p + 1 + n from by omega, show a + (n + 1) = a + 1 + n from by omega] at h)]
      omega
theorem al_spec {b : List Nat} : ∀ {m p a : Nat}, al b p a m ≤ m ∧ ∀ k, k < al b p a m → g b (p + k) = g b (a + k) := by
  intro m
  induction m with
  | zero => intro p a; simp [al]
  | succ m ih =>
    intro p a
    simp only [al]
    split
    · rename_i h0
      obtain ⟨h1, h2⟩ := ih (p := p + 1) (a := a + 1)
      refine ⟨by omega, fun k hk => ?_⟩
      cases k with
      | zero => simpa using h0
      | succ k =>
        have := h2 k (by omega)
        rwa [show p + (k + 1) = p + 1 + k from by omega, show a + (k + 1) = a + 1 + k from by omega]
    · exact ⟨by omega, fun k hk => by omega⟩
theorem al_stop {b : List Nat} : ∀ {m p a : Nat}, al b p a m < m → g b (p + al b p a m) ≠ g b (a + al b p a m) := by
  intro m
  induction m with
  | zero => intro p a h; omega
  | succ m ih =>
    intro p a h
    simp only [al] at h ⊢
    split
    · rename_i h0
      rw [if_pos h0] at h
      have := ih (p := p + 1) (a := a + 1) (by omega)
      rwa [show p + (1 + al b (p + 1) (a + 1) m) = p + 1 + al b (p + 1) (a + 1) m from by omega, show a + (1 + al b (p + 1) (a + 1) m) = a + 1 + al b (p + 1) (a + 1) m from by omega]
    · simpa using by assumption
theorem alike_eq {b : List Nat} {p a n : Nat} (h1 : n ≤ min (b.length - a) 131) (h2 : ∀ k, k < n → g b (p + k) = g b (a + k)) (h3 : n = min (b.length - a) 131 ∨ g b (p + n) ≠ g b (a + n)) : alike b p a = n := al_eq h1 h2 h3
theorem alike_le (b : List Nat) (p a : Nat) : alike b p a ≤ 131 ∧ alike b p a ≤ b.length - a := by
  have := (al_spec (b := b) (m := min (b.length - a) 131) (p := p) (a := a)).1
  unfold alike; omega
theorem alike_ge {b : List Nat} {p a : Nat} (h : Same b p a) (h4 : a + 4 ≤ b.length) : 4 ≤ alike b p a := by
  obtain ⟨e0, e1, e2, e3⟩ := h
  by_cases hl : 4 ≤ alike b p a
  · exact hl
  · have hs := al_stop (b := b) (m := min (b.length - a) 131) (p := p) (a := a) (by unfold alike at hl; omega)
    change g b (p + alike b p a) ≠ g b (a + alike b p a) at hs
    exfalso
    rcases (show alike b p a = 0 ∨ alike b p a = 1 ∨ alike b p a = 2 ∨ alike b p a = 3 by omega) with h | h | h | h <;> rw [h] at hs
    · exact hs e0
    · exact hs e1
    · exact hs e2
    · exact hs e3

/-! Bytes that stand for themselves, in pieces. -/
def ownF : Nat → List Nat → List Nat
  | 0, _ => []
  | f + 1, l => if l.length = 0 then [] else min 127 l.length :: (l.take 127 ++ ownF f (l.drop 127))
theorem ownF_fuel : ∀ (f : Nat) (l : List Nat), l.length ≤ f → ownF f l = ownF l.length l := by
  intro f
  induction f using Nat.strongRecOn with
  | _ f ih =>
    intro l h
    cases hl : l.length with
    | zero => cases f with
      | zero => rfl
      | succ f => simp only [ownF]; rw [if_pos hl]
    | succ n =>
      cases f with
      | zero => omega
      | succ f =>
        simp only [ownF]
        rw [if_neg (by omega), if_neg (by omega)]
        have e1 := ih f (by omega) (l.drop 127) (by rw [List.length_drop]; omega)
        have e2 := ih n (by omega) (l.drop 127) (by rw [List.length_drop]; omega)
        rw [e1, e2]
def own (l : List Nat) : List Nat := ownF l.length l
theorem own_nil : own [] = [] := rfl
theorem own_cons {l : List Nat} (h : 0 < l.length) : own l = min 127 l.length :: (l.take 127 ++ own (l.drop 127)) := by
  unfold own
  obtain ⟨n, hn⟩ : ∃ n, l.length = n + 1 := ⟨l.length - 1, by omega⟩
  rw [hn]
  simp only [ownF]
  rw [if_neg (by omega), ownF_fuel n (l.drop 127) (by rw [List.length_drop]; omega), hn]
theorem own_small {l : List Nat} (h : 0 < l.length) (h2 : l.length ≤ 127) : own l = l.length :: l := by
  rw [own_cons h, List.take_of_length_le h2, List.drop_of_length_le h2, own_nil, List.append_nil, Nat.min_eq_right h2]
theorem own_len (l : List Nat) : (own l).length ≤ 2 * l.length := by
  obtain ⟨n, hn⟩ : ∃ n, n = l.length := ⟨_, rfl⟩
  induction n using Nat.strongRecOn generalizing l with
  | _ n ih =>
    by_cases h : 0 < l.length
    · rw [own_cons h]
      have := ih (l.drop 127).length (by rw [List.length_drop]; omega) _ rfl
      simp only [List.length_cons, List.length_append, List.length_take, List.length_drop] at this ⊢
      omega
    · have : l = [] := List.length_eq_zero_iff.1 (by omega)
      subst this; simp [own_nil]
theorem own_bytes {l : List Nat} (h : ∀ x ∈ l, x < 256) : ∀ x ∈ own l, x < 256 := by
  obtain ⟨n, hn⟩ : ∃ n, n = l.length := ⟨_, rfl⟩
  induction n using Nat.strongRecOn generalizing l with
  | _ n ih =>
    by_cases h0 : 0 < l.length
    · rw [own_cons h0]
      intro x hx
      rcases List.mem_cons.1 hx with rfl | hx
      · omega
      · rcases List.mem_append.1 hx with hx | hx
        · exact h x (List.mem_of_mem_take hx)
        · exact ih (l.drop 127).length (by rw [List.length_drop]; omega) (fun y hy => h y (List.mem_of_mem_drop hy)) rfl x hx
    · have : l = [] := List.length_eq_zero_iff.1 (by omega)
      subst this; simp [own_nil]

/-- A copy's piece. -/
def cp (d n : Nat) : List Nat := [124 + n, d / 256, d % 256]
def mid (b : List Nat) (o a : Nat) : List Nat := (b.drop o).take (a - o)
theorem mid_len {b : List Nat} {o a : Nat} (h : a ≤ b.length) : (mid b o a).length = a - o := by
  unfold mid; rw [List.length_take, List.length_drop]; omega
theorem mid_self (b : List Nat) (o : Nat) : mid b o o = [] := by unfold mid; simp
theorem mid_end (b : List Nat) (o : Nat) : mid b o b.length = b.drop o := by
  unfold mid; rw [List.take_of_length_le (by simp)]
theorem mid_step {b : List Nat} {o a : Nat} (h1 : o ≤ a) (h : a < b.length) : mid b o (a + 1) = mid b o a ++ [g b a] := by
  unfold mid g
  rw [show a + 1 - o = a - o + 1 from by omega, List.take_add_one, List.getElem?_drop, show o + (a - o) = a from by omega, List.getElem?_eq_getElem h, List.getD_eq_getElem?_getD, List.getElem?_eq_getElem h]
  rfl
theorem take_mid {b : List Nat} {o a : Nat} (h : o ≤ a) : b.take o ++ mid b o a = b.take a := by
  unfold mid
  rw [show b.take a = b.take (o + (a - o)) from by rw [show o + (a - o) = a from by omega], List.take_add]

def packF (b : List Nat) : Nat → Nat → Nat → List Nat
  | 0, o, _ => own (b.drop o)
  | f + 1, o, a => if a < b.length then match latest b a with
      | none => packF b f o (a + 1)
      | some p => own (mid b o a) ++ (cp (a - p) (alike b p a) ++ packF b f (a + alike b p a) (a + alike b p a))
    else own (b.drop o)
theorem packF_fuel (b : List Nat) : ∀ (f o a : Nat), b.length - a ≤ f → packF b f o a = packF b (b.length - a) o a := by
  intro f
  induction f using Nat.strongRecOn with
  | _ f ih =>
    intro o a h
    by_cases ha : a < b.length
    · obtain ⟨n, hn⟩ : ∃ n, b.length - a = n + 1 := ⟨b.length - a - 1, by omega⟩
      cases f with
      | zero => omega
      | succ f =>
        rw [hn]
        simp only [packF]
        rw [if_pos ha, if_pos ha]
        cases hl : latest b a with
        | none =>
          simp only []
          rw [ih f (by omega) o (a + 1) (by omega), show b.length - (a + 1) = n from by omega]
        | some p =>
          simp only []
          obtain ⟨h4, h5, h6, _⟩ := latest_spec hl
          have h7 := alike_ge h6 h4
          rw [ih f (by omega) _ (a + alike b p a) (by omega), ih n (by omega) _ (a + alike b p a) (by omega)]
    · rw [show b.length - a = 0 from by omega]
      cases f with
      | zero => rfl
      | succ f => simp only [packF]; rw [if_neg ha]
/-- What is left to be packed, from place a on, where the bytes from o on stand for themselves. -/
def rest (b : List Nat) (o a : Nat) : List Nat := packF b (b.length - a) o a
def packs (b : List Nat) : List Nat := rest b 0 0
theorem rest_end {b : List Nat} {o a : Nat} (h : b.length ≤ a) : rest b o a = own (b.drop o) := by
  unfold rest; rw [show b.length - a = 0 from by omega]; rfl
theorem rest_none {b : List Nat} {o a : Nat} (h : a < b.length) (hl : latest b a = none) : rest b o a = rest b o (a + 1) := by
  unfold rest
  obtain ⟨n, hn⟩ : ∃ n, b.length - a = n + 1 := ⟨b.length - a - 1, by omega⟩
  rw [hn]
  simp only [packF]
  rw [if_pos h, hl, show b.length - (a + 1) = n from by omega]
theorem rest_some {b : List Nat} {o a p : Nat} (h : a < b.length) (hl : latest b a = some p) : rest b o a = own (mid b o a) ++ (cp (a - p) (alike b p a) ++ rest b (a + alike b p a) (a + alike b p a)) := by
  unfold rest
  obtain ⟨n, hn⟩ : ∃ n, b.length - a = n + 1 := ⟨b.length - a - 1, by omega⟩
  obtain ⟨h4, h5, h6, _⟩ := latest_spec hl
  have h7 := alike_ge h6 h4
  rw [hn]
  simp only [packF]
  rw [if_pos h, hl]
  simp only []
  rw [packF_fuel b n _ (a + alike b p a) (by omega)]
theorem rest_len (b : List Nat) : ∀ (k o a : Nat), b.length - a = k → o ≤ a → a ≤ b.length → (rest b o a).length ≤ 2 * (b.length - o) := by
  intro k
  induction k using Nat.strongRecOn with
  | _ k ih =>
    intro o a hk h1 h2
    by_cases ha : a < b.length
    · cases hl : latest b a with
      | none => rw [rest_none ha hl]; exact ih (b.length - (a + 1)) (by omega) o (a + 1) rfl (by omega) (by omega)
      | some p =>
        obtain ⟨h4, h5, h6, _⟩ := latest_spec hl
        have h7 := alike_ge h6 h4
        have h8 := alike_le b p a
        have h9 := ih (b.length - (a + alike b p a)) (by omega) (a + alike b p a) (a + alike b p a) rfl (by omega) (by omega)
        have h10 := own_len (mid b o a)
        rw [mid_len (by omega)] at h10
        rw [rest_some ha hl]
        simp only [List.length_append, cp, List.length_cons, List.length_nil]
        omega
    · rw [rest_end (by omega)]
      have := own_len (b.drop o)
      rw [List.length_drop] at this
      exact this
theorem packs_len (b : List Nat) : (packs b).length ≤ 2 * b.length := by
  have := rest_len b b.length 0 0 rfl (Nat.le_refl _) (Nat.zero_le _)
  simpa [packs] using this
theorem rest_bytes {b : List Nat} (hb : ∀ x ∈ b, x < 256) : ∀ (k o a : Nat), b.length - a = k → ∀ x ∈ rest b o a, x < 256 := by
  intro k
  induction k using Nat.strongRecOn with
  | _ k ih =>
    intro o a hk
    by_cases ha : a < b.length
    · cases hl : latest b a with
      | none => rw [rest_none ha hl]; exact ih (b.length - (a + 1)) (by omega) o (a + 1) rfl
      | some p =>
        obtain ⟨h4, h5, h6, h66⟩ := latest_spec hl
        have h7 := alike_ge h6 h4
        have h8 := alike_le b p a
        rw [rest_some ha hl]
        intro x hx
        rcases List.mem_append.1 hx with hx | hx
        · exact own_bytes (fun y hy => hb y (List.mem_of_mem_drop (List.mem_of_mem_take hy))) x hx
        · rcases List.mem_append.1 hx with hx | hx
          · simp [cp] at hx; omega
          · exact ih (b.length - (a + alike b p a)) (by omega) _ (a + alike b p a) rfl x hx
    · rw [rest_end (by omega)]
      exact own_bytes (fun y hy => hb y (List.mem_of_mem_drop hy))
theorem packs_bytes {b : List Nat} (hb : ∀ x ∈ b, x < 256) : ∀ x ∈ packs b, x < 256 := rest_bytes hb _ 0 0 rfl
end Lm
end Go.Proofs.Ytbmdjmckgcjfcaa
