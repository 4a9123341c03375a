/- Tables of columns: plain mathematics. -/
import Derived.Test.YtloiclmngmnbdaaCe
import Derived.Sort.Walk0
namespace Go.Proofs.Ytloiclmngmnbdaa
open Go.RowKit
namespace Tb
open Jb Ca Ck Ct Ce

def bl (a b : ByteArray) : Bool := Op.bytesLess a.toList b.toList
theorem bl_iff (a b : ByteArray) : bl a b = true ↔ a.toList < b.toList := by
  unfold bl
  rw [Go.Proofs.bytesLess_eq]
  exact decide_eq_true_iff
theorem toList_inj {a b : ByteArray} (h : a.toList = b.toList) : a = b := by
  rw [ByteArray.toList_eq, ByteArray.toList_eq] at h
  exact ByteArray.ext (Array.toList_inj.1 h)
theorem bl_irrefl (a : ByteArray) : bl a a = false := by
  cases h : bl a a
  · rfl
  · rw [bl_iff] at h
    exact absurd h (List.lt_irrefl _)
theorem bl_trans {a b c : ByteArray} (h : bl a b = true) (k : bl b c = true) : bl a c = true := by
  rw [bl_iff] at h k ⊢
  exact List.lt_trans h k
theorem bl_total {a b : ByteArray} (h : a ≠ b) : bl a b = true ∨ bl b a = true := by
  rw [bl_iff, bl_iff]
  by_cases h1 : a.toList < b.toList
  · exact .inl h1
  · by_cases h2 : b.toList < a.toList
    · exact .inr h2
    · exact absurd (toList_inj (List.le_antisymm (List.not_lt.1 h2) (List.not_lt.1 h1))) h
/-- The order of places: by series, then by field. -/
def klt (a b : Ky) : Bool := bl a.1 b.1 || (decide (a.1 = b.1) && bl a.2 b.2)
theorem klt_irrefl (a : Ky) : klt a a = false := by unfold klt; rw [bl_irrefl, bl_irrefl]; simp
theorem klt_trans {a b c : Ky} (h : klt a b = true) (k : klt b c = true) : klt a c = true := by
  unfold klt at h k ⊢
  simp only [Bool.or_eq_true, Bool.and_eq_true, decide_eq_true_eq] at h k ⊢
  rcases h with h | ⟨h, h'⟩
  · rcases k with k | ⟨k, k'⟩
    · exact .inl (bl_trans h k)
    · exact .inl (k ▸ h)
  · rcases k with k | ⟨k, k'⟩
    · exact .inl (h ▸ k)
    · exact .inr ⟨h.trans k, bl_trans h' k'⟩
theorem klt_total {a b : Ky} (h : a ≠ b) : klt a b = true ∨ klt b a = true := by
  unfold klt
  simp only [Bool.or_eq_true, Bool.and_eq_true, decide_eq_true_eq]
  by_cases h1 : a.1 = b.1
  · have h2 : a.2 ≠ b.2 := fun e => h (Prod.ext h1 e)
    rcases bl_total h2 with e | e
    · exact .inl (.inr ⟨h1, e⟩)
    · exact .inr (.inr ⟨h1.symm, e⟩)
  · rcases bl_total h1 with e | e
    · exact .inl (.inl e)
    · exact .inr (.inl e)
theorem klt_ne {a b : Ky} (h : klt a b = true) : a ≠ b := fun e => by subst e; rw [klt_irrefl] at h; cases h
theorem klt_asymm {a b : Ky} (h : klt a b = true) : klt b a = false := by
  cases k : klt b a
  · rfl
  · have := klt_trans h k; rw [klt_irrefl] at this; cases this

abbrev Tab := List (Ky × List Pnt)
def Srt (T : Tab) : Prop := T.Pairwise (fun a b => klt a.1 b.1 = true)
def tget (T : Tab) (k : Ky) : List Pnt := match T with
  | [] => []
  | (a, M) :: r => if a = k then M else tget r k
def tsum (T : Tab) : Nat := (T.map (fun c => c.2.length)).sum
/-- The column k has these points now. -/
def tset (T : Tab) (k : Ky) (L : List Pnt) : Tab := match T with
  | [] => if L = [] then [] else [(k, L)]
  | (a, M) :: r => if a = k then (if L = [] then r else (k, L) :: r) else if klt k a = true then (if L = [] then (a, M) :: r else (k, L) :: (a, M) :: r) else (a, M) :: tset r k L
theorem tget_none {T : Tab} {k : Ky} (h : ∀ c ∈ T, c.1 ≠ k) : tget T k = [] := by
  induction T with
  | nil => rfl
  | cons c r ih =>
    obtain ⟨a, M⟩ := c
    unfold tget
    rw [if_neg (h (a, M) (by simp))]
    exact ih fun c hc => h c (by simp [hc])
theorem mem_tset {T : Tab} {k : Ky} {L : List Pnt} {c : Ky × List Pnt} (h : c ∈ tset T k L) : c = (k, L) ∧ L ≠ [] ∨ c ∈ T := by
  induction T with
  | nil =>
    unfold tset at h
    split at h
    · cases h
    · rename_i hl; exact .inl ⟨by simpa using h, hl⟩
  | cons x r ih =>
    obtain ⟨a, M⟩ := x
    unfold tset at h
    split at h
    · split at h
      · exact .inr (by simp [h])
      · rename_i hl
        rcases List.mem_cons.1 h with e | e
        · exact .inl ⟨e, hl⟩
        · exact .inr (by simp [e])
    · split at h
      · split at h
        · exact .inr h
        · rename_i hl
          rcases List.mem_cons.1 h with e | e
          · exact .inl ⟨e, hl⟩
          · exact .inr e
      · rcases List.mem_cons.1 h with e | e
        · exact .inr (by simp [e])
        · exact (ih e).imp id (fun e => by simp [e])
theorem tset_srt {T : Tab} (h : Srt T) (k : Ky) (L : List Pnt) : Srt (tset T k L) := by
  induction T with
  | nil => unfold tset; split <;> simp [Srt]
  | cons x r ih =>
    obtain ⟨a, M⟩ := x
    obtain ⟨h1, h2⟩ := List.pairwise_cons.1 h
    unfold tset
    split
    · rename_i e
      split
      · exact h2
      · exact List.pairwise_cons.2 ⟨fun c hc => by subst e; exact h1 c hc, h2⟩
    · rename_i hne
      split
      · rename_i hk
        split
        · exact h
        · refine List.pairwise_cons.2 ⟨fun c hc => ?_, h⟩
          rcases List.mem_cons.1 hc with rfl | hc
          · exact hk
          · exact klt_trans hk (h1 c hc)
      · rename_i hk
        refine List.pairwise_cons.2 ⟨fun c hc => ?_, ih h2⟩
        rcases mem_tset hc with ⟨rfl, _⟩ | hc
        · exact (klt_total hne).resolve_right hk
        · exact h1 c hc
theorem tget_tset {T : Tab} (h : Srt T) (k j : Ky) (L : List Pnt) : tget (tset T k L) j = if j = k then L else tget T j := by
  induction T with
  | nil =>
    unfold tset
    by_cases hl : L = []
    · subst hl; simp [tget]
    · rw [if_neg hl]
      unfold tget
      by_cases e : j = k
      · rw [if_pos e.symm, if_pos e]
      · rw [if_neg (fun x => e x.symm), if_neg e]; rfl
  | cons x r ih =>
    obtain ⟨a, M⟩ := x
    obtain ⟨h1, h2⟩ := List.pairwise_cons.1 h
    have ih := ih h2
    unfold tset
    by_cases e : a = k
    · subst e
      rw [if_pos rfl]
      by_cases hl : L = []
      · subst hl
        rw [if_pos rfl]
        by_cases ej : j = a
        · rw [if_pos ej, ej]; exact tget_none fun c hc => (klt_ne (h1 c hc)).symm
        · rw [if_neg ej]
          conv => rhs; unfold tget
          rw [if_neg (fun x => ej x.symm)]
      · rw [if_neg hl]
        unfold tget
        by_cases ej : j = a
        · rw [if_pos ej.symm, if_pos ej]
        · rw [if_neg (fun x => ej x.symm), if_neg ej, if_neg (fun x => ej x.symm)]
    · rw [if_neg e]
      by_cases hk : klt k a = true
      · rw [if_pos hk]
        by_cases hl : L = []
        · subst hl
          rw [if_pos rfl]
          by_cases ej : j = k
          · rw [if_pos ej, ej]
            refine tget_none fun c hc => ?_
            rcases List.mem_cons.1 hc with rfl | hc
            · exact e
            · exact (klt_ne (klt_trans hk (h1 c hc))).symm
          · rw [if_neg ej]
        · rw [if_neg hl]
          conv => lhs; unfold tget
          by_cases ej : j = k
          · rw [if_pos ej.symm, if_pos ej]
          · rw [if_neg (fun x => ej x.symm), if_neg ej]
      · rw [if_neg hk]
        unfold tget
        by_cases ej : a = j
        · subst ej
          rw [if_pos rfl, if_neg e, if_pos rfl]
        · rw [if_neg ej, if_neg ej]; exact ih
theorem tsum_tset {T : Tab} (h : Srt T) (k : Ky) (L : List Pnt) : tsum (tset T k L) + (tget T k).length = tsum T + L.length := by
  induction T with
  | nil =>
    unfold tset
    split
    · rename_i e; subst e; simp [tsum, tget]
    · simp [tsum, tget]
  | cons x r ih =>
    obtain ⟨a, M⟩ := x
    obtain ⟨h1, h2⟩ := List.pairwise_cons.1 h
    have ih := ih h2
    unfold tset
    by_cases e : a = k
    · subst e
      rw [if_pos rfl]
      unfold tget
      rw [if_pos rfl]
      split
      · rename_i e; subst e; simp [tsum]; omega
      · simp [tsum]; omega
    · rw [if_neg e]
      by_cases hk : klt k a = true
      · rw [if_pos hk]
        have hg : tget ((a, M) :: r) k = [] := tget_none fun c hc => by
          rcases List.mem_cons.1 hc with rfl | hc
          · exact e
          · exact (klt_ne (klt_trans hk (h1 c hc))).symm
        rw [hg]
        split
        · rename_i e; subst e; simp
        · simp [tsum]; omega
      · rw [if_neg hk]
        have hg : tget ((a, M) :: r) k = tget r k := by conv => lhs; unfold tget; rw [if_neg e]
        rw [hg]
        unfold tsum at *
        simp only [List.map_cons, List.sum_cons]
        omega
theorem tget_le {T : Tab} (k : Ky) : (tget T k).length ≤ tsum T := by
  induction T with
  | nil => simp [tget]
  | cons x r ih =>
    obtain ⟨a, M⟩ := x
    unfold tget tsum
    simp only [List.map_cons, List.sum_cons]
    split
    · omega
    · unfold tsum at ih; omega
/-- The table that a cache is. -/
structure Of (V : Vw) (T : Tab) : Prop where
  srt : Srt T
  get : ∀ y, V.P y = tget T y
  sum : V.size = tsum T
  ne : ∀ c ∈ T, c.2 ≠ []
theorem Of.put {V : Vw} {T : Tab} (h : Of V T) (s : Ky) (p : Pnt) (hr : Rise (V.P s)) : Of (putV V s p) (if putE V s p = 0 then tset T s (ins p (V.P s)) else T) := by
  unfold putV
  split
  · refine ⟨tset_srt h.srt _ _, fun y => ?_, ?_, fun c hc => ?_⟩
    · dsimp only
      rw [tget_tset h.srt]
      by_cases e : y = s
      · rw [if_pos e, if_pos e]
      · rw [if_neg e, if_neg e, h.get]
    · have h1 := tsum_tset h.srt s (ins p (V.P s))
      have h2 := ins_len hr p
      have h3 := h.get s
      have h4 := h.sum
      rw [← h3] at h1
      dsimp only
      split at h2 <;> rename_i e <;> simp [e] <;> omega
    · rcases mem_tset hc with ⟨rfl, e⟩ | hc
      · exact e
      · exact h.ne c hc
  · exact h
theorem Of.le {V : Vw} {T : Tab} (h : Of V T) (s : Ky) : (V.P s).length ≤ V.size := by rw [h.get, h.sum]; exact tget_le s
end Tb
end Go.Proofs.Ytloiclmngmnbdaa
