/- How tombs are sorted; a time within spans; a place among graves: plain mathematics. -/
import Derived.Test.YtmlbmiegfeadjaaGm
import Derived.Sort.Grow
namespace Go.Proofs.Ytmlbmiegfeadjaa
open Go.RowKit Go.Sort
namespace Gn
open Jb Ca Cz Ga Gm

def ci (a b : Int) : Int := if a < b then -1 else if b < a then 1 else 0
def or3 (a b c : Int) : Int := if a ≠ 0 then a else if b ≠ 0 then b else c
def cft (x y : Tmb) : Int := or3 (c3 x.1 y.1) (c3 x.2.1 y.2.1) (ci x.2.2.1 y.2.2.1)
theorem cft_eq (x y : Tmb) : cft x y = if cf (kyt x) (kyt y) ≠ 0 then cf (kyt x) (kyt y) else ci x.2.2.1 y.2.2.1 := by
  rw [cf_eq]
  unfold cft or3 kyt
  simp only
  by_cases h1 : c3 x.1 y.1 = 0
  · by_cases h2 : c3 x.2.1 y.2.1 = 0 <;> simp [h1, h2]
  · simp [h1]
theorem cf_zero (a b : Ky) : cf a b = 0 ↔ a = b := by
  unfold cf
  constructor
  · intro h
    by_cases e : a = b
    · exact e
    · rcases klt_total e with k | k
      · rw [if_pos k] at h; cases h
      · by_cases k2 : klt a b = true
        · rw [if_pos k2] at h; cases h
        · rw [if_neg k2, if_pos k] at h; cases h
  · rintro rfl
    rw [klt_irrefl]; rfl
theorem lt_cft (x y : Tmb) : decide (cft x y < 0) = ltT x y := by
  rw [cft_eq]
  unfold ltT
  by_cases h : kyt x = kyt y
  · have hz := (cf_zero _ _).2 h
    rw [if_neg (by rw [hz]; simp), h, klt_irrefl]
    unfold ci
    by_cases h1 : x.2.2.1 < y.2.2.1
    · simp [h1]
    · by_cases h2 : y.2.2.1 < x.2.2.1 <;> simp [h1, h2]
  · have hz : cf (kyt x) (kyt y) ≠ 0 := fun e => h ((cf_zero _ _).1 e)
    rw [if_pos hz, lt_cf, decide_eq_false h]
    simp
theorem ltT_irrefl (x : Tmb) : ltT x x = false := by unfold ltT; rw [klt_irrefl]; simp
theorem ltT_trans {x y z : Tmb} (h : ltT x y = true) (k : ltT y z = true) : ltT x z = true := by
  unfold ltT at h k ⊢
  simp only [Bool.or_eq_true, Bool.and_eq_true, decide_eq_true_eq] at h k ⊢
  rcases h with h | ⟨h, h'⟩
  · rcases k with k | ⟨k, k'⟩
    · exact .inl (klt_trans h k)
    · exact .inl (k ▸ h)
  · rcases k with k | ⟨k, k'⟩
    · exact .inl (h ▸ k)
    · exact .inr ⟨h.trans k, by omega⟩
/-- Not less: behind, or alike and not ahead. -/
theorem ltT_not (x y : Tmb) : ltT x y = false ↔ klt (kyt y) (kyt x) = true ∨ (kyt x = kyt y ∧ y.2.2.1 ≤ x.2.2.1) := by
  unfold ltT
  rw [Bool.or_eq_false_iff, Bool.and_eq_false_iff, decide_eq_false_iff_not, decide_eq_false_iff_not]
  constructor
  · rintro ⟨h1, h2⟩
    by_cases e : kyt x = kyt y
    · rcases h2 with h2 | h2
      · exact absurd e h2
      · exact .inr ⟨e, by omega⟩
    · rcases klt_total e with k | k
      · rw [h1] at k; cases k
      · exact .inl k
  · rintro (h | ⟨e, h⟩)
    · exact ⟨klt_asymm h, .inl (fun e => klt_ne h e.symm)⟩
    · rw [e, klt_irrefl]; exact ⟨rfl, .inr (by omega)⟩
/-- A time within spans. -/
theorem within_eq {S : List Spn} (h : Gd S) (t : Int) : (decide (0 < cnt S t) && decide (t ≤ (S.getD (cnt S t - 1) s0).2)) = inS S t := by
  have hm := fun a b h1 h2 => mono_get h t a b h1 h2
  have ct : ∀ i, i < S.length → (i < cnt S t ↔ (S.getD i s0).1 ≤ t) := fun i hi => by
    have := cnt_take (n := S.length) (fun i => decide ((S.getD i s0).1 > t)) (fun a b h1 h2 => hm a b h1 h2) i hi
    unfold cnt
    rw [this, decide_eq_false_iff_not]
    omega
  have cl := cnt_le S t
  rw [Bool.eq_iff_iff, inS_iff, Bool.and_eq_true, decide_eq_true_eq, decide_eq_true_eq]
  constructor
  · rintro ⟨h0, h1⟩
    have hl : cnt S t - 1 < S.length := by omega
    refine ⟨S.getD (cnt S t - 1) s0, ?_, (ct _ hl).1 (by omega), h1⟩
    rw [List.getD_eq_getElem?_getD, List.getElem?_eq_getElem hl]
    exact List.getElem_mem hl
  · rintro ⟨s, hs, h1, h2⟩
    obtain ⟨i, hi, rfl⟩ := List.getElem_of_mem hs
    have e : S.getD i s0 = S[i] := by rw [List.getD_eq_getElem?_getD, List.getElem?_eq_getElem hi]; rfl
    have hic := (ct i hi).2 (by rw [e]; exact h1)
    refine ⟨by omega, ?_⟩
    by_cases e2 : i = cnt S t - 1
    · rw [← e2, e]; exact h2
    · have := good_get h (show i < cnt S t - 1 by omega) (by omega)
      have h3 : cnt S t - 1 < cnt S t := by omega
      have := (ct (cnt S t - 1) (by omega)).1 h3
      rw [e] at *
      omega
/-- A place among graves. -/
def g0 : Gv := ((⟨#[]⟩, ⟨#[]⟩), [])
theorem look_found {G : List Gv} (h : G.Pairwise (fun a b => klt a.1 b.1 = true)) {i : Nat} (hi : i < G.length) {k : Ky} (e : (G.getD i g0).1 = k) : lk G k = (G.getD i g0).2 := by
  rw [← e]
  refine look_of h ?_
  rw [List.getD_eq_getElem?_getD, List.getElem?_eq_getElem hi]
  exact List.getElem_mem hi
theorem look_absent {G : List Gv} (h : G.Pairwise (fun a b => klt a.1 b.1 = true)) {i : Nat} (_ : i ≤ G.length) {k : Ky} (h1 : ∀ j, j < i → klt (G.getD j g0).1 k = true) (h2 : i < G.length → klt k (G.getD i g0).1 = true) : lk G k = [] := by
  refine look_none fun g hg e => ?_
  obtain ⟨j, hj, rfl⟩ := List.getElem_of_mem hg
  have ej : ∀ (j : Nat) (hj : j < G.length), G.getD j g0 = G[j] := fun j hj => by rw [List.getD_eq_getElem?_getD, List.getElem?_eq_getElem hj]; rfl
  by_cases c : j < i
  · have := h1 j c
    rw [ej j hj, e, klt_irrefl] at this; cases this
  · have h3 := h2 (by omega)
    rw [ej i (by omega)] at h3
    by_cases c2 : i = j
    · subst c2; rw [e, klt_irrefl] at h3; cases h3
    · have := klt_trans h3 (List.pairwise_iff_getElem.1 h i j (by omega) hj (by omega))
      rw [e, klt_irrefl] at this; cases this
theorem keys_mono {G : List Gv} (h : G.Pairwise (fun a b => klt a.1 b.1 = true)) {i j : Nat} (hij : i < j) (hj : j < G.length) : klt (G.getD i g0).1 (G.getD j g0).1 = true := by
  have ej : ∀ (j : Nat) (hj : j < G.length), G.getD j g0 = G[j] := fun j hj => by rw [List.getD_eq_getElem?_getD, List.getElem?_eq_getElem hj]; rfl
  rw [ej i (by omega), ej j hj]
  exact List.pairwise_iff_getElem.1 h i j (by omega) hj hij
end Gn
end Go.Proofs.Ytmlbmiegfeadjaa
