/- Points that rise, and tables of columns: plain mathematics. -/
import Derived.Test.YtloiclmngmnbdaaCk
import Derived.Sort.Walk0
namespace Go.Proofs.Ytloiclmngmnbdaa
open Go.RowKit
namespace Ct
open Jb Ca Ck

/-! Points by their times. -/
def Rise (L : List Pnt) : Prop := L.Pairwise (fun p q => p.1 < q.1)
/-- How many stand ahead of the time t. -/
def cnt (t : Int) (L : List Pnt) : Nat := L.countP (fun p => decide (p.1 < t))
def has (t : Int) (L : List Pnt) : Bool := L.any (fun p => p.1 == t)
def upto (t : Int) (L : List Pnt) : Nat := cnt t L + if has t L then 1 else 0
def ins (p : Pnt) : List Pnt → List Pnt
  | [] => [p]
  | q :: r => if q.1 < p.1 then q :: ins p r else if q.1 = p.1 then p :: r else p :: q :: r
def inr (a b : Int) (p : Pnt) : Bool := decide (a ≤ p.1) && decide (p.1 ≤ b)
def rng (a b : Int) (L : List Pnt) : List Pnt := L.filter (inr a b)
def cut (a b : Int) (L : List Pnt) : List Pnt := L.filter (fun p => !inr a b p)

theorem cnt_le (t : Int) (L : List Pnt) : cnt t L ≤ L.length := List.countP_le_length
theorem cnt_zero {t : Int} {L : List Pnt} (h : ∀ p ∈ L, t ≤ p.1) : cnt t L = 0 := by
  unfold cnt
  rw [List.countP_eq_zero]
  intro p hp
  have := h p hp
  simp; omega
theorem has_zero {t : Int} {L : List Pnt} (h : ∀ p ∈ L, t < p.1) : has t L = false := by
  unfold has
  rw [List.any_eq_false]
  intro p hp
  have := h p hp
  simp; omega
theorem cnt_cons (t : Int) (q : Pnt) (r : List Pnt) : cnt t (q :: r) = cnt t r + if q.1 < t then 1 else 0 := by
  unfold cnt; rw [List.countP_cons]; simp
theorem has_cons (t : Int) (q : Pnt) (r : List Pnt) : has t (q :: r) = ((q.1 == t) || has t r) := rfl
/-- Where the rising points part. -/
theorem cnt_spec {L : List Pnt} (h : Rise L) (t : Int) : (∀ i, i < cnt t L → (L.getD i p0).1 < t) ∧ (∀ i, cnt t L ≤ i → i < L.length → t ≤ (L.getD i p0).1) := by
  induction L with
  | nil => exact ⟨fun i hi => by simp [cnt] at hi, fun i _ hi => by simp at hi⟩
  | cons q r ih =>
    obtain ⟨h1, h2⟩ := List.pairwise_cons.1 h
    obtain ⟨i1, i2⟩ := ih h2
    rw [cnt_cons]
    by_cases hq : q.1 < t
    · rw [if_pos hq]
      refine ⟨fun i hi => ?_, fun i hi hl => ?_⟩
      · cases i with
        | zero => simpa using hq
        | succ i => simpa using i1 i (by omega)
      · cases i with
        | zero => omega
        | succ i => simpa using i2 i (by omega) (by simpa using hl)
    · have hr : cnt t r = 0 := cnt_zero fun p hp => by have := h1 p hp; omega
      rw [if_neg hq, hr]
      refine ⟨fun i hi => by omega, fun i _ hl => ?_⟩
      cases i with
      | zero => simp; omega
      | succ i => simpa using i2 i (by omega) (by simpa using hl)
/-- A place that parts them so is that one. -/
theorem cnt_of {L : List Pnt} (h : Rise L) {t : Int} {k : Nat} (hk : k ≤ L.length) (h1 : ∀ i, i < k → (L.getD i p0).1 < t) (h2 : ∀ i, k ≤ i → i < L.length → t ≤ (L.getD i p0).1) : cnt t L = k := by
  obtain ⟨c1, c2⟩ := cnt_spec h t
  have hl := cnt_le t L
  rcases Nat.lt_trichotomy (cnt t L) k with e | e | e
  · have := h1 _ e; have := c2 _ (Nat.le_refl _) (by omega); omega
  · exact e
  · have := c1 _ e; have := h2 _ (Nat.le_refl _) (by omega); omega
theorem rise_get {L : List Pnt} (h : Rise L) {i j : Nat} (hij : i < j) (hj : j < L.length) : (L.getD i p0).1 < (L.getD j p0).1 := by
  have := (List.pairwise_iff_getElem.1 h) i j (by omega) hj hij
  simpa [List.getD_eq_getElem?_getD, hj, show i < L.length by omega] using this
theorem has_iff {L : List Pnt} (h : Rise L) (t : Int) : has t L = true ↔ cnt t L < L.length ∧ (L.getD (cnt t L) p0).1 = t := by
  obtain ⟨c1, c2⟩ := cnt_spec h t
  constructor
  · intro hh
    unfold has at hh
    rw [List.any_eq_true] at hh
    obtain ⟨p, hp, he⟩ := hh
    have he : p.1 = t := by simpa using he
    obtain ⟨i, hi, rfl⟩ := List.getElem_of_mem hp
    have hg : (L.getD i p0) = L[i] := by simp [List.getD_eq_getElem?_getD, hi]
    have a : ¬ i < cnt t L := fun e => by have := c1 i e; rw [hg] at this; omega
    have hlt : cnt t L < L.length := by omega
    refine ⟨hlt, ?_⟩
    have b := c2 _ (Nat.le_refl _) hlt
    by_cases e : i = cnt t L
    · rw [← e, hg, he]
    · have := rise_get h (show cnt t L < i by omega) hi
      rw [hg] at this
      omega
  · rintro ⟨hl, he⟩
    unfold has
    rw [List.any_eq_true]
    refine ⟨L.getD (cnt t L) p0, ?_, by simpa using he⟩
    rw [List.getD_eq_getElem?_getD, List.getElem?_eq_getElem hl]
    exact List.getElem_mem hl
theorem take_cnt {L : List Pnt} (h : Rise L) (t : Int) : L.take (cnt t L) = L.filter (fun p => decide (p.1 < t)) := by
  induction L with
  | nil => rfl
  | cons q r ih =>
    obtain ⟨h1, h2⟩ := List.pairwise_cons.1 h
    rw [cnt_cons]
    by_cases hq : q.1 < t
    · rw [if_pos hq, List.take_succ_cons, ih h2, List.filter_cons_of_pos (by simpa using hq)]
    · have hr : ∀ p ∈ r, t ≤ p.1 := fun p hp => by have := h1 p hp; omega
      rw [if_neg hq, cnt_zero hr, List.filter_cons_of_neg (by simpa using hq)]
      symm
      rw [Nat.zero_add, List.take_zero, List.filter_eq_nil_iff]
      intro p hp
      have := hr p hp
      simp; omega
theorem drop_cnt {L : List Pnt} (h : Rise L) (t : Int) : L.drop (cnt t L) = L.filter (fun p => decide (t ≤ p.1)) := by
  induction L with
  | nil => rfl
  | cons q r ih =>
    obtain ⟨h1, h2⟩ := List.pairwise_cons.1 h
    rw [cnt_cons]
    by_cases hq : q.1 < t
    · rw [if_pos hq, List.drop_succ_cons, ih h2, List.filter_cons_of_neg (by simp; omega)]
    · have hr : ∀ p ∈ r, t ≤ p.1 := fun p hp => by have := h1 p hp; omega
      rw [if_neg hq, cnt_zero hr, Nat.zero_add, List.drop_zero]
      symm
      rw [List.filter_eq_self]
      intro p hp
      rcases List.mem_cons.1 hp with rfl | hp
      · simp; omega
      · simpa using hr p hp
/-- Up to t is ahead of t + 1. -/
theorem upto_eq {L : List Pnt} (h : Rise L) (t : Int) : upto t L = cnt (t + 1) L := by
  induction L with
  | nil => rfl
  | cons q r ih =>
    obtain ⟨h1, h2⟩ := List.pairwise_cons.1 h
    have ih := ih h2
    unfold upto at ih ⊢
    rw [cnt_cons, cnt_cons, has_cons]
    by_cases hq : q.1 < t
    · rw [show (q.1 == t) = false from by simp; omega, Bool.false_or, if_pos hq, if_pos (show q.1 < t + 1 by omega)]
      omega
    · have hr : ∀ p ∈ r, t + 1 ≤ p.1 := fun p hp => by have := h1 p hp; omega
      have hr' : ∀ p ∈ r, t ≤ p.1 := fun p hp => by have := hr p hp; omega
      rw [cnt_zero hr, cnt_zero hr', has_zero (fun p hp => by have := hr p hp; omega), if_neg hq]
      by_cases he : q.1 = t
      · rw [show (q.1 == t) = true from by simpa using he, if_pos (by simp), if_pos (by omega)]
      · rw [show (q.1 == t) = false from by simpa using he, if_neg (by simp), if_neg (by omega)]
theorem upto_le {L : List Pnt} (h : Rise L) (t : Int) : upto t L ≤ L.length := by rw [upto_eq h]; exact cnt_le _ _
theorem upto_spec {L : List Pnt} (h : Rise L) (t : Int) : L.drop (upto t L) = L.filter (fun p => decide (t < p.1)) ∧ L.take (upto t L) = L.filter (fun p => decide (p.1 ≤ t)) := by
  rw [upto_eq h, drop_cnt h, take_cnt h]
  have e1 : (fun p : Pnt => decide (t + 1 ≤ p.1)) = fun p => decide (t < p.1) := rfl
  have e2 : (fun p : Pnt => decide (p.1 < t + 1)) = fun p => decide (p.1 ≤ t) := by funext p; simp; omega
  rw [e1, e2]
  exact ⟨rfl, rfl⟩
theorem rise_filter {L : List Pnt} (h : Rise L) (f : Pnt → Bool) : Rise (L.filter f) := List.Pairwise.filter f h
theorem rise_take {L : List Pnt} (h : Rise L) (n : Nat) : Rise (L.take n) := List.Pairwise.sublist (List.take_sublist n L) h
theorem rise_drop {L : List Pnt} (h : Rise L) (n : Nat) : Rise (L.drop n) := List.Pairwise.sublist (List.drop_sublist n L) h
/-- A range is a piece of the row. -/
theorem rng_eq {L : List Pnt} (h : Rise L) (a b : Int) : (L.take (max (cnt a L) (upto b L))).drop (cnt a L) = rng a b L := by
  unfold rng
  by_cases hab : cnt a L ≤ upto b L
  · rw [Nat.max_eq_right hab, List.drop_take, drop_cnt h]
    have hd := h
    have e : (L.filter (fun p => decide (a ≤ p.1))).take (upto b L - cnt a L) = ((L.take (upto b L)).filter (fun p => decide (a ≤ p.1))) := by
      rw [← drop_cnt h, ← List.drop_take, (upto_spec h b).2]
      have h2 := rise_filter h (fun p => decide (p.1 ≤ b))
      rw [← drop_cnt h2]
      congr 1
      unfold cnt
      rw [List.countP_filter]
      rw [← (upto_spec h b).2] at *
      have : ∀ p ∈ L, decide (p.1 < a) = (decide (p.1 < a) && decide (p.1 ≤ b)) ∨ True := fun _ _ => .inr trivial
      unfold cnt at hab
      rw [upto_eq h] at hab
      unfold cnt at hab
      have hm : ∀ p ∈ L, p.1 < a → p.1 ≤ b := by
        intro p hp hpa
        obtain ⟨i, hi, rfl⟩ := List.getElem_of_mem hp
        have hg : (L.getD i p0) = L[i] := by simp [List.getD_eq_getElem?_getD, hi]
        have c1 := cnt_spec h a
        have c2 := cnt_spec h (b + 1)
        unfold cnt at c1 c2
        by_cases hia : i < L.countP (fun p => decide (p.1 < a))
        · have := c2.1 i (by omega); rw [hg] at this; omega
        · have := c1.2 i (by omega) hi; rw [hg] at this; omega
      refine List.countP_congr fun p hp => ?_
      simp only [decide_eq_true_eq, Bool.and_eq_true]
      exact ⟨fun e => ⟨e, hm p hp e⟩, fun e => e.1⟩
    rw [e, (upto_spec h b).2, List.filter_filter]
    rfl
  · rw [Nat.max_eq_left (by omega)]
    rw [List.drop_of_length_le (by rw [List.length_take]; omega)]
    symm
    rw [List.filter_eq_nil_iff]
    intro p hp hx
    unfold inr at hx
    simp only [Bool.and_eq_true, decide_eq_true_eq] at hx
    obtain ⟨i, hi, rfl⟩ := List.getElem_of_mem hp
    have hg : (L.getD i p0) = L[i] := by simp [List.getD_eq_getElem?_getD, hi]
    have c1 := cnt_spec h a
    have c2 := cnt_spec h (b + 1)
    rw [upto_eq h] at hab
    by_cases hia : i < cnt a L
    · have := c1.1 i hia; rw [hg] at this; omega
    · have := c2.2 i (by omega) hi; rw [hg] at this; omega
theorem cut_eq {L : List Pnt} (h : Rise L) (a b : Int) : L.take (cnt a L) ++ L.drop (max (cnt a L) (upto b L)) = cut a b L := by
  have hs := rng_eq h a b
  have e1 : L = L.take (cnt a L) ++ ((L.take (max (cnt a L) (upto b L))).drop (cnt a L) ++ L.drop (max (cnt a L) (upto b L))) := by
    conv => lhs; rw [← List.take_append_drop (max (cnt a L) (upto b L)) L]
    conv => lhs; lhs; rw [← List.take_append_drop (cnt a L) (L.take (max (cnt a L) (upto b L)))]
    rw [List.take_take, Nat.min_eq_left (Nat.le_max_left _ _), List.append_assoc]
  unfold cut
  conv => rhs; rw [e1]
  rw [List.filter_append, List.filter_append, hs]
  have e2 : (rng a b L).filter (fun p => !inr a b p) = [] := by
    rw [List.filter_eq_nil_iff]
    intro p hp
    unfold rng at hp
    have := (List.mem_filter.1 hp).2
    simp [this]
  have e3 : (L.take (cnt a L)).filter (fun p => !inr a b p) = L.take (cnt a L) := by
    rw [List.filter_eq_self]
    intro p hp
    rw [take_cnt h] at hp
    have := (List.mem_filter.1 hp).2
    unfold inr
    simp at this ⊢
    omega
  have e4 : (L.drop (max (cnt a L) (upto b L))).filter (fun p => !inr a b p) = L.drop (max (cnt a L) (upto b L)) := by
    rw [List.filter_eq_self]
    intro p hp
    have : p ∈ L.drop (upto b L) := by
      have e : max (cnt a L) (upto b L) = upto b L + (max (cnt a L) (upto b L) - upto b L) := by omega
      rw [e, ← List.drop_drop] at hp
      exact List.mem_of_mem_drop hp
    rw [(upto_spec h b).1] at this
    have := (List.mem_filter.1 this).2
    unfold inr
    simp at this ⊢
    omega
  rw [e2, e3, e4, List.nil_append]
theorem len_split (L : List Pnt) (a b : Int) : (cut a b L).length + (rng a b L).length = L.length := by
  unfold cut rng
  rw [Nat.add_comm]
  induction L with
  | nil => rfl
  | cons q r ih =>
    by_cases h : inr a b q = true
    · rw [List.filter_cons_of_pos h, List.filter_cons_of_neg (by simp [h])]
      simp only [List.length_cons]; omega
    · rw [List.filter_cons_of_neg h, List.filter_cons_of_pos (by simpa using h)]
      simp only [List.length_cons]; omega
theorem ins_new {L : List Pnt} (h : Rise L) (p : Pnt) (hn : has p.1 L = false) : ins p L = L.take (cnt p.1 L) ++ p :: L.drop (cnt p.1 L) := by
  induction L with
  | nil => rfl
  | cons q r ih =>
    obtain ⟨h1, h2⟩ := List.pairwise_cons.1 h
    rw [has_cons, Bool.or_eq_false_iff] at hn
    have hne : q.1 ≠ p.1 := by simpa using hn.1
    rw [cnt_cons]
    unfold ins
    by_cases hq : q.1 < p.1
    · rw [if_pos hq, if_pos hq, List.take_succ_cons, List.drop_succ_cons, ih h2 hn.2]; rfl
    · have hr : ∀ x ∈ r, p.1 ≤ x.1 := fun x hx => by have := h1 x hx; omega
      rw [if_neg hq, if_neg hne, if_neg hq, cnt_zero hr]
      rfl
theorem ins_old {L : List Pnt} (h : Rise L) (p : Pnt) (hn : has p.1 L = true) : ins p L = L.set (cnt p.1 L) p := by
  induction L with
  | nil => simp [has] at hn
  | cons q r ih =>
    obtain ⟨h1, h2⟩ := List.pairwise_cons.1 h
    rw [has_cons] at hn
    rw [cnt_cons]
    unfold ins
    by_cases hq : q.1 < p.1
    · have : has p.1 r = true := by
        rcases Bool.or_eq_true_iff.1 hn with e | e
        · have : q.1 = p.1 := by simpa using e
          omega
        · exact e
      rw [if_pos hq, if_pos hq, List.set_cons_succ, ih h2 this]
    · have hr : ∀ x ∈ r, p.1 ≤ x.1 := fun x hx => by have := h1 x hx; omega
      have he : q.1 = p.1 := by
        rcases Bool.or_eq_true_iff.1 hn with e | e
        · simpa using e
        · unfold has at e
          rw [List.any_eq_true] at e
          obtain ⟨x, hx, e⟩ := e
          have := h1 x hx
          have : x.1 = p.1 := by simpa using e
          omega
      rw [if_neg hq, if_pos he, if_neg hq, cnt_zero hr]
      rfl
theorem ins_mem {p x : Pnt} : ∀ {L : List Pnt}, x ∈ ins p L → x = p ∨ x ∈ L
  | [], h => by simp [ins] at h; exact .inl h
  | q :: r, h => by
    unfold ins at h
    split at h
    · rcases List.mem_cons.1 h with e | e
      · exact .inr (by simp [e])
      · exact (ins_mem e).imp id (fun e => by simp [e])
    · split at h
      · rcases List.mem_cons.1 h with e | e
        · exact .inl e
        · exact .inr (by simp [e])
      · rcases List.mem_cons.1 h with e | e
        · exact .inl e
        · exact .inr e
theorem ins_rise {p : Pnt} : ∀ {L : List Pnt}, Rise L → Rise (ins p L)
  | [], _ => by simp [ins, Rise]
  | q :: r, h => by
    obtain ⟨h1, h2⟩ := List.pairwise_cons.1 h
    unfold ins
    split
    · rename_i hq
      refine List.pairwise_cons.2 ⟨fun x hx => ?_, ins_rise h2⟩
      rcases ins_mem hx with rfl | hx
      · exact hq
      · exact h1 x hx
    · rename_i hq
      split
      · rename_i he
        exact List.pairwise_cons.2 ⟨fun x hx => by have := h1 x hx; omega, h2⟩
      · refine List.pairwise_cons.2 ⟨fun x hx => ?_, h⟩
        rcases List.mem_cons.1 hx with rfl | hx
        · omega
        · have := h1 x hx; omega
theorem ins_len {L : List Pnt} (h : Rise L) (p : Pnt) : (ins p L).length = L.length + if has p.1 L then 0 else 1 := by
  have hl := cnt_le p.1 L
  by_cases e : has p.1 L = true
  · rw [ins_old h p e, e]; simp
  · have e : has p.1 L = false := by simpa using e
    rw [ins_new h p e, e]; simp; omega
theorem ins_ne (p : Pnt) (L : List Pnt) : ins p L ≠ [] := by
  cases L with
  | nil => simp [ins]
  | cons q r =>
    unfold ins
    split
    · simp
    · split <;> simp
theorem rng_rise {L : List Pnt} (h : Rise L) (a b : Int) : Rise (rng a b L) := rise_filter h _
theorem cut_rise {L : List Pnt} (h : Rise L) (a b : Int) : Rise (cut a b L) := rise_filter h _
end Ct
end Go.Proofs.Ytloiclmngmnbdaa
