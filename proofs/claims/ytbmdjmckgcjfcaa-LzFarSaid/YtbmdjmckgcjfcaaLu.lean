/- What packed bytes stand for: plain mathematics. -/
import Derived.Test.YtbmdjmckgcjfcaaLm
namespace Go.Proofs.Ytbmdjmckgcjfcaa
namespace Lu
open Lm

/-- A copy's bytes behind those that are there. -/
def copyN (out : List Nat) (d : Nat) : Nat → List Nat
  | 0 => out
  | m + 1 => copyN (out ++ [g out (out.length - d)]) d m
theorem copyN_len (d : Nat) : ∀ (m : Nat) (out : List Nat), (copyN out d m).length = out.length + m := by
  intro m
  induction m with
  | zero => intro out; rfl
  | succ m ih => intro out; simp only [copyN]; rw [ih]; simp; omega
theorem copyN_snoc (d : Nat) : ∀ (m : Nat) (out : List Nat), copyN out d (m + 1) = copyN out d m ++ [g (copyN out d m) ((copyN out d m).length - d)] := by
  intro m
  induction m with
  | zero => intro out; rfl
  | succ m ih => intro out; rw [copyN, ih]; rfl
theorem copyN_bytes (d : Nat) : ∀ (m : Nat) (out : List Nat), (∀ x ∈ out, x < 256) → ∀ x ∈ copyN out d m, x < 256 := by
  intro m
  induction m with
  | zero => intro out h; exact h
  | succ m ih =>
    intro out h
    refine ih _ fun x hx => ?_
    rcases List.mem_append.1 hx with hx | hx
    · exact h x hx
    · simp at hx; subst hx; exact g_lt h _
/-- The bytes, or the number of the error. -/
def unpF (most : Int) : Nat → List Nat → List Nat → Except Nat (List Nat)
  | 0, out, _ => .ok out
  | f + 1, out, l => match l with
    | [] => .ok out
    | n :: r =>
      if n = 0 then .error 2
      else if n < 128 then
        if r.length < n then .error 2
        else if most < (out.length : Int) + n then .error 4
        else unpF most f (out ++ r.take n) (r.drop n)
      else if r.length < 2 then .error 2
      else if g r 0 * 256 + g r 1 = 0 ∨ out.length < g r 0 * 256 + g r 1 then .error 2
      else if most < (out.length : Int) + ((n - 124 : Nat) : Int) then .error 4
      else unpF most f (copyN out (g r 0 * 256 + g r 1) (n - 124)) (r.drop 2)
theorem unpF_fuel (most : Int) : ∀ (f : Nat) (out l : List Nat), l.length ≤ f → unpF most f out l = unpF most l.length out l := by
  intro f
  induction f using Nat.strongRecOn with
  | _ f ih =>
    intro out l hl
    cases l with
    | nil => cases f <;> rfl
    | cons n r =>
      cases f with
      | zero => simp at hl
      | succ f =>
        simp only [List.length_cons] at hl ⊢
        simp only [unpF]
        split
        · rfl
        · split
          · split
            · rfl
            · split
              · rfl
              · rw [ih f (by omega) _ _ (by rw [List.length_drop]; omega), ih r.length (by omega) _ (r.drop n) (by rw [List.length_drop]; omega)]
          · split
            · rfl
            · split
              · rfl
              · split
                · rfl
                · rw [ih f (by omega) _ _ (by rw [List.length_drop]; omega), ih r.length (by omega) _ (r.drop 2) (by rw [List.length_drop]; omega)]
/-- What is unpacked of l behind out. -/
def unp (most : Int) (out l : List Nat) : Except Nat (List Nat) := unpF most l.length out l
theorem unp_nil (most : Int) (out : List Nat) : unp most out [] = .ok out := rfl
theorem unp_cons (most : Int) (out : List Nat) (n : Nat) (r : List Nat) : unp most out (n :: r) =
      if n = 0 then .error 2
      else if n < 128 then
        if r.length < n then .error 2
        else if most < (out.length : Int) + n then .error 4
        else unp most (out ++ r.take n) (r.drop n)
      else if r.length < 2 then .error 2
      else if g r 0 * 256 + g r 1 = 0 ∨ out.length < g r 0 * 256 + g r 1 then .error 2
      else if most < (out.length : Int) + ((n - 124 : Nat) : Int) then .error 4
      else unp most (copyN out (g r 0 * 256 + g r 1) (n - 124)) (r.drop 2) := by
  unfold unp
  simp only [List.length_cons, unpF]
  rw [unpF_fuel most r.length _ (r.drop n) (by rw [List.length_drop]; omega), unpF_fuel most r.length _ (r.drop 2) (by rw [List.length_drop]; omega)]

/-! What was packed is unpacked. -/
theorem unp_own {most : Int} : ∀ {k : Nat} {l out r : List Nat}, l.length = k → (out.length : Int) + l.length ≤ most → unp most out (own l ++ r) = unp most (out ++ l) r := by
  intro k
  induction k using Nat.strongRecOn with
  | _ k ih =>
    intro l out r hk hm
    by_cases h0 : l.length = 0
    · obtain rfl := List.length_eq_zero_iff.1 h0
      rw [own_nil, List.nil_append, List.append_nil]
    · have e := List.take_append_drop 127 l
      have hl : (l.take 127).length = min 127 l.length := by rw [List.length_take]
      rw [own_cons (by omega), List.cons_append, unp_cons, if_neg (by omega), if_pos (by omega), if_neg (by simp only [List.length_append, hl]; omega), if_neg (by omega)]
      have ht : (l.take 127 ++ own (l.drop 127) ++ r).take (min 127 l.length) = l.take 127 := by rw [List.append_assoc, List.take_append_of_le_length (by omega), List.take_of_length_le (by omega)]
      have hd : (l.take 127 ++ own (l.drop 127) ++ r).drop (min 127 l.length) = own (l.drop 127) ++ r := by rw [List.append_assoc, List.drop_append_of_le_length (by omega), List.drop_of_length_le (by omega), List.nil_append]
      rw [ht, hd, ih (l.drop 127).length (by rw [List.length_drop]; omega) rfl (by rw [List.length_append, List.length_take, List.length_drop]; omega), List.append_assoc, e]
theorem copyN_take {b : List Nat} : ∀ {m p a : Nat}, p < a → a + m ≤ b.length → (∀ k, k < m → g b (p + k) = g b (a + k)) → copyN (b.take a) (a - p) m = b.take (a + m) := by
  intro m
  induction m with
  | zero => intro p a _ _ _; rfl
  | succ m ih =>
    intro p a hpa hl h
    simp only [copyN]
    have hlen : (b.take a).length = a := by rw [List.length_take]; omega
    have hg : g (b.take a) p = g b p := by unfold g; simp [List.getD_eq_getElem?_getD, hpa]
    rw [hlen, show a - (a - p) = p from by omega, hg]
    have e : b.take a ++ [g b p] = b.take (a + 1) := by
      rw [show g b p = g b a from by simpa using h 0 (by omega), List.take_add_one, List.getElem?_eq_getElem (by omega)]
      simp only [g, List.getD_eq_getElem?_getD]
      rw [List.getElem?_eq_getElem (by omega)]
      rfl
    rw [e, show a - p = (a + 1) - (p + 1) from by omega, ih (p := p + 1) (a := a + 1) (by omega) (by omega) (fun k hk => by have := h (k + 1) (by omega); rwa [show p + (k + 1) = p + 1 + k from by omega, show a + (k + 1) = a + 1 + k from by omega] at this), show a + 1 + m = a + (m + 1) from by omega]
theorem unp_rest {b : List Nat} {most : Int} (hm : (b.length : Int) ≤ most) : ∀ {k o a : Nat}, b.length - a = k → o ≤ a → a ≤ b.length → unp most (b.take o) (rest b o a) = .ok b := by
  intro k
  induction k using Nat.strongRecOn with
  | _ k ih =>
    intro o a hk h1 h2
    by_cases ha : a < b.length
    · cases hl : latest b a with
      | none => rw [rest_none ha hl]; exact ih (b.length - (a + 1)) (by omega) rfl (by omega) (by omega)
      | some p =>
        obtain ⟨h4, h5, h6, h66⟩ := latest_spec hl
        have h7 := alike_ge h6 h4
        have h8 := alike_le b p a
        have h9 := (al_spec (b := b) (m := min (b.length - a) 131) (p := p) (a := a)).2
        change ∀ k, k < alike b p a → _ at h9
        have hml := mid_len (b := b) (o := o) (a := a) (by omega)
        have hlen : (b.take a).length = a := by rw [List.length_take]; omega
        rw [rest_some ha hl, unp_own rfl (by rw [hml, List.length_take]; omega), take_mid h1]
        show unp most (b.take a) ((124 + alike b p a) :: ((a - p) / 256) :: ((a - p) % 256) :: rest b (a + alike b p a) (a + alike b p a)) = .ok b
        have g0 : g ((a - p) / 256 :: (a - p) % 256 :: rest b (a + alike b p a) (a + alike b p a)) 0 = (a - p) / 256 := rfl
        have g1 : g ((a - p) / 256 :: (a - p) % 256 :: rest b (a + alike b p a) (a + alike b p a)) 1 = (a - p) % 256 := rfl
        rw [unp_cons, g0, g1, show (a - p) / 256 * 256 + (a - p) % 256 = a - p from by omega, if_neg (by omega), if_neg (by omega), if_neg (by simp only [List.length_cons]; omega), if_neg (by rw [hlen]; omega), if_neg (by rw [hlen]; omega),
          show 124 + alike b p a - 124 = alike b p a from by omega, copyN_take h5 (by omega) h9]
        exact ih (b.length - (a + alike b p a)) (by omega) rfl (Nat.le_refl _) (by omega)
    · obtain rfl : a = b.length := by omega
      have hd : (b.drop o).length = b.length - o := List.length_drop
      have := unp_own (most := most) (l := b.drop o) (out := b.take o) (r := []) rfl (by rw [hd, List.length_take]; omega)
      rw [List.append_nil, List.take_append_drop] at this
      rw [rest_end (Nat.le_refl _), this, unp_nil]
theorem unp_packs {b : List Nat} {most : Int} (hm : (b.length : Int) ≤ most) : unp most [] (packs b) = .ok b := by
  have := unp_rest hm (k := b.length) (o := 0) (a := 0) rfl (Nat.le_refl _) (Nat.zero_le _)
  simpa [packs] using this
/-- So many bytes stand for no more than so many. -/
theorem unp_len {most : Int} : ∀ {k : Nat} {out l l' : List Nat}, l.length = k → unp most out l = .ok l' → l' = out ∨ (l'.length : Int) ≤ most := by
  intro k
  induction k using Nat.strongRecOn with
  | _ k ih =>
    intro out l l' hk h
    cases l with
    | nil => rw [unp_nil] at h; cases h; exact .inl rfl
    | cons n r =>
      simp only [List.length_cons] at hk
      rw [unp_cons] at h
      split at h
      · cases h
      · split at h
        · split at h
          · cases h
          · split at h
            · cases h
            · rename_i h1 h2 h3 h4
              rcases ih (r.drop n).length (by rw [List.length_drop]; omega) rfl h with h5 | h5
              · right; rw [h5, List.length_append, List.length_take]; omega
              · exact .inr h5
        · split at h
          · cases h
          · split at h
            · cases h
            · split at h
              · cases h
              · rename_i h1 h2 h3 h4 h5
                rcases ih (r.drop 2).length (by rw [List.length_drop]; omega) rfl h with h6 | h6
                · right; rw [h6, copyN_len]; omega
                · exact .inr h6
end Lu
end Go.Proofs.Ytbmdjmckgcjfcaa
