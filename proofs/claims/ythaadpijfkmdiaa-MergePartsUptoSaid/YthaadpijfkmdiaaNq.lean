/- What merging lists of columns comes to: plain mathematics. -/
import Derived.Test.YthaadpijfkmdiaaNn
namespace Go.Proofs.Ythaadpijfkmdiaa
namespace Nq
open Jb Ca Ga Nm Na Nj Nk Nn

/-- The points of the column κ of one list, and of all lists. -/
def colOf (pr : Value → List V4) (C : List C3) (κ : Ky) : List V4 := match lk nm C κ with
  | some c => pr c.2.2
  | none => []
def rowsOf (pr : Value → List V4) (CC : List (List C3)) (κ : Ky) : List V4 := (CC.map fun C => colOf pr C κ).flatten
/-- The parts of the column κ. -/
def gp (κ : Ky) : Nat → List (List C3) → List V4
  | _, [] => []
  | i, C :: r => (match lk nm C κ with
    | some c => [tp i c]
    | none => []) ++ gp κ (i + 1) r
theorem gp_rows (pr : Value → List V4) (κ : Ky) (i : Nat) (CC : List (List C3)) : (rows pr (gp κ i CC)).flatten = rowsOf pr CC κ := by
  induction CC generalizing i with
  | nil => rfl
  | cons C r ih =>
    unfold rowsOf rows at *
    simp only [gp, List.map_cons, List.flatten_cons, List.map_append, List.flatten_append]
    rw [ih (i + 1)]
    unfold colOf
    cases lk nm C κ with
    | none => simp
    | some c => simp [tp]
theorem kp_tp (i : Nat) (c : C3) : kp (tp i c) = (nm c, (i : Int)) := rfl
theorem lk_pl (i : Nat) (C : List C3) (κ : Ky) (j : Int) : lk kp (pl i C) (κ, j) = if j = i then (lk nm C κ).map (tp i) else none := by
  induction C with
  | nil => simp [pl, lk]
  | cons c r ih =>
    have e : pl i (c :: r) = tp i c :: pl i r := rfl
    rw [e, lk_cons, lk_cons, ih, kp_tp]
    by_cases hj : j = i
    · subst hj
      simp only [if_true]
      cases lk nm r κ with
      | some d => simp
      | none =>
        by_cases hk : nm c = κ
        · simp [hk]
        · have : ¬ ((nm c, (i : Int)) = (κ, (i : Int))) := fun h => hk (Prod.mk.inj h).1
          simp [hk, this]
    · have : ¬ ((nm c, (i : Int)) = (κ, j)) := fun h => hj (Prod.mk.inj h).2.symm
      simp [hj, this]
theorem gp_lk (κ : Ky) (i : Nat) (CC : List (List C3)) (κ' : Ky) (j : Int) : lk kp (gp κ i CC) (κ', j) = if κ' = κ then lk kp (parts i CC) (κ, j) else none := by
  induction CC generalizing i with
  | nil => simp [gp, parts, lk]
  | cons C r ih =>
    simp only [gp, parts, lk_app, ih (i + 1)]
    by_cases hk : κ' = κ
    · subst hk
      simp only [if_true]
      rw [lk_pl]
      congr 1
      cases h : lk nm C κ' with
      | none => simp [lk]
      | some c =>
        have hc := (lk_mem nm h).2
        simp only [lk, kp_tp, hc, Option.none_or, Option.map_some]
        by_cases hj : j = i
        · subst hj; simp
        · have : ¬ ((κ', (i : Int)) = (κ', j)) := fun h => hj (Prod.mk.inj h).2.symm
          simp [hj, this]
    · simp only [if_neg hk, Option.none_or]
      cases h : lk nm C κ with
      | none => simp [lk]
      | some c =>
        have hc := (lk_mem nm h).2
        have : ¬ ((κ, (i : Int)) = (κ', j)) := fun h => hk (Prod.mk.inj h).1.symm
        simp [lk, kp_tp, hc, this]
theorem gp_name (κ : Ky) (i : Nat) (CC : List (List C3)) : ∀ z ∈ gp κ i CC, (kp z).1 = κ ∧ (i : Int) ≤ (kp z).2 := by
  induction CC generalizing i with
  | nil => intro z hz; cases hz
  | cons C r ih =>
    intro z hz
    simp only [gp] at hz
    rcases List.mem_append.1 hz with hz | hz
    · cases h : lk nm C κ with
      | none => rw [h] at hz; cases hz
      | some c =>
        rw [h] at hz
        obtain rfl := List.mem_singleton.1 hz
        rw [kp_tp]
        exact ⟨(lk_mem nm h).2, Int.le_refl _⟩
    · obtain ⟨h1, h2⟩ := ih (i + 1) z hz
      exact ⟨h1, by omega⟩
theorem gp_sorted (κ : Ky) (i : Nat) (CC : List (List C3)) : Sorted kp ltp (gp κ i CC) := by
  induction CC generalizing i with
  | nil => exact List.Pairwise.nil
  | cons C r ih =>
    simp only [gp]
    cases h : lk nm C κ with
    | none => simpa using ih (i + 1)
    | some c =>
      refine List.pairwise_cons.2 ⟨fun z hz => ?_, ih (i + 1)⟩
      obtain ⟨h1, h2⟩ := gp_name κ (i + 1) r z hz
      rw [kp_tp, (lk_mem nm h).2]
      simp only [ltp, h1, decide_true, Bool.true_and, Bool.or_eq_true, decide_eq_true_eq]
      exact .inr (by omega)
/-- What of the rising parts bears one name. -/
theorem group_eq {CC : List (List C3)} {R : List V4} (hs : Sorted kp ltp R) (hl : ∀ k, lk kp R k = lk kp (parts 0 CC) k) (κ : Ky) : R.filter (fun z => decide (nameOf z = κ)) = gp κ 0 CC := by
  refine ext lin_p (hs.filter _) (gp_sorted κ 0 CC) fun ⟨κ', j⟩ => ?_
  rw [gp_lk]
  have key : ∀ L : List V4, lk kp (L.filter fun z => decide (nameOf z = κ)) (κ', j) = if κ' = κ then lk kp L (κ, j) else none := by
    intro L
    induction L with
    | nil => simp [lk]
    | cons x r ih =>
      by_cases hx : nameOf x = κ
      · rw [List.filter_cons_of_pos (by simp [hx]), lk_cons, ih, lk_cons]
        by_cases hk : κ' = κ
        · subst hk; simp
        · have : ¬ (kp x = (κ', j)) := fun h => hk (by have := congrArg Prod.fst h; exact this.symm.trans hx)
          simp [hk, this]
      · rw [List.filter_cons_of_neg (by simp [hx]), ih, lk_cons]
        by_cases hk : κ' = κ
        · have : ¬ (kp x = (κ, j)) := fun h => hx (congrArg Prod.fst h)
          simp [hk, this]
        · simp [hk]
  rw [key, hl]
/-- What the merged columns are: names and points. -/
structure MS (pr : Value → List V4) (CC : List (List C3)) (Z : List (Ky × List V4)) : Prop where
  up : Sorted (fun z : Ky × List V4 => z.1) klt Z
  pts : ∀ z ∈ Z, z.2 ≠ [] ∧ Sorted kt ltt z.2 ∧ ∀ t, lk kt z.2 t = lk kt (rowsOf pr CC z.1) t
  all : ∀ κ, rowsOf pr CC κ ≠ [] → ∃ z ∈ Z, z.1 = κ
theorem lin_k : Lin klt := ⟨klt_irrefl, fun _ _ _ => klt_trans, fun a b h k => Classical.byContradiction fun e => by
  rcases klt_total e with e | e
  · rw [h] at e; cases e
  · rw [k] at e; cases e⟩
theorem MS.one {pr pr' : Value → List V4} {CC CC' : List (List C3)} {Z Z' : List (Ky × List V4)} (h : MS pr CC Z) (h' : MS pr' CC' Z') (e : ∀ κ t, lk kt (rowsOf pr CC κ) t = lk kt (rowsOf pr' CC' κ) t) : Z = Z' := by
  have one : ∀ {pr pr' : Value → List V4} {CC CC' : List (List C3)} {Z Z' : List (Ky × List V4)}, MS pr CC Z → MS pr' CC' Z' → (∀ κ t, lk kt (rowsOf pr CC κ) t = lk kt (rowsOf pr' CC' κ) t) → ∀ z ∈ Z, z ∈ Z' := by
    intro pr pr' CC CC' Z Z' h h' e z hz
    obtain ⟨p1, p2, p3⟩ := h.pts z hz
    have hne : rowsOf pr' CC' z.1 ≠ [] := fun h0 => by
      cases hz2 : z.2 with
      | nil => exact p1 hz2
      | cons x r =>
        have := p3 (kt x)
        rw [e, h0] at this
        obtain ⟨y, hy⟩ := lk_isSome kt (L := z.2) (x := x) (by rw [hz2]; simp)
        rw [hy] at this
        simp [lk] at this
    obtain ⟨z', hz', hk⟩ := h'.all z.1 hne
    obtain ⟨q1, q2, q3⟩ := h'.pts z' hz'
    have : z.2 = z'.2 := Nm.ext lin_t p2 q2 fun t => by rw [p3, q3, e, hk]
    have ez : z = z' := Prod.ext hk.symm this
    rw [ez]; exact hz'
  refine Nm.ext lin_k h.up h'.up fun κ => ?_
  cases h1 : lk (fun z : Ky × List V4 => z.1) Z κ with
  | some z =>
    obtain ⟨m, hk⟩ := lk_mem _ h1
    have := lk_sorted lin_k h'.up (one h h' e z m)
    simp only [hk] at this
    exact this.symm
  | none =>
    cases h2 : lk (fun z : Ky × List V4 => z.1) Z' κ with
    | none => rfl
    | some z =>
      obtain ⟨m, hk⟩ := lk_mem _ h2
      have := lk_sorted lin_k h.up (one h' h (fun κ t => (e κ t).symm) z m)
      simp only [hk] at this
      rw [h1] at this; cases this
end Nq
end Go.Proofs.Ythaadpijfkmdiaa
