/- Places, how they compare; tombs. -/
import Derived.Test.YthaadpijfkmdiaaCa
import Derived.Sort.Walk0
namespace Go.Proofs.Ythaadpijfkmdiaa
open Go.RowKit
namespace Ga
open Jb Ca

/-- A place: series and field. -/
abbrev Ky := ByteArray × ByteArray
def bl (a b : ByteArray) : Bool := Op.bytesLess a.toList b.toList
theorem bl_iff (a b : ByteArray) : bl a b = true ↔ a.toList < b.toList := by
  unfold bl
  rw [Go.Proofs.bytesLess_eq]
  exact decide_eq_true_iff
theorem toList_inj {a b : ByteArray} (h : a.toList = b.toList) : a = b := by
  rw [ByteArray.toList_eq, ByteArray.toList_eq] at h
  exact ByteArray.ext (Array.toList_inj.1 h)
theorem bl_irrefl (a : ByteArray) : bl a a = false := by
  cases h : bl a a
  · rfl
  · rw [bl_iff] at h
    exact absurd h (List.lt_irrefl _)
theorem bl_trans {a b c : ByteArray} (h : bl a b = true) (k : bl b c = true) : bl a c = true := by
  rw [bl_iff] at h k ⊢
  exact List.lt_trans h k
theorem bl_total {a b : ByteArray} (h : a ≠ b) : bl a b = true ∨ bl b a = true := by
  rw [bl_iff, bl_iff]
  by_cases h1 : a.toList < b.toList
  · exact .inl h1
  · by_cases h2 : b.toList < a.toList
    · exact .inr h2
    · exact absurd (toList_inj (List.le_antisymm (List.not_lt.1 h2) (List.not_lt.1 h1))) h
/-- The order of places: by series, then by field. -/
def klt (a b : Ky) : Bool := bl a.1 b.1 || (decide (a.1 = b.1) && bl a.2 b.2)
theorem klt_irrefl (a : Ky) : klt a a = false := by unfold klt; rw [bl_irrefl, bl_irrefl]; simp
theorem klt_trans {a b c : Ky} (h : klt a b = true) (k : klt b c = true) : klt a c = true := by
  unfold klt at h k ⊢
  simp only [Bool.or_eq_true, Bool.and_eq_true, decide_eq_true_eq] at h k ⊢
  rcases h with h | ⟨h, h'⟩
  · rcases k with k | ⟨k, k'⟩
    · exact .inl (bl_trans h k)
    · exact .inl (k ▸ h)
  · rcases k with k | ⟨k, k'⟩
    · exact .inl (h ▸ k)
    · exact .inr ⟨h.trans k, bl_trans h' k'⟩
theorem klt_total {a b : Ky} (h : a ≠ b) : klt a b = true ∨ klt b a = true := by
  unfold klt
  simp only [Bool.or_eq_true, Bool.and_eq_true, decide_eq_true_eq]
  by_cases h1 : a.1 = b.1
  · have h2 : a.2 ≠ b.2 := fun e => h (Prod.ext h1 e)
    rcases bl_total h2 with e | e
    · exact .inl (.inr ⟨h1, e⟩)
    · exact .inr (.inr ⟨h1.symm, e⟩)
  · rcases bl_total h1 with e | e
    · exact .inl (.inl e)
    · exact .inr (.inl e)
theorem klt_ne {a b : Ky} (h : klt a b = true) : a ≠ b := fun e => by subst e; rw [klt_irrefl] at h; cases h
theorem klt_asymm {a b : Ky} (h : klt a b = true) : klt b a = false := by
  cases k : klt b a
  · rfl
  · have := klt_trans h k; rw [klt_irrefl] at this; cases this

def c3 (a b : ByteArray) : Int := if bl a b = true then -1 else if bl b a = true then 1 else 0
def cf (a b : Ky) : Int := if klt a b = true then -1 else if klt b a = true then 1 else 0
theorem cf_eq (a b : Ky) : cf a b = if c3 a.1 b.1 ≠ 0 then c3 a.1 b.1 else c3 a.2 b.2 := by
  unfold cf c3 klt
  by_cases e : a.1 = b.1
  · rw [← e, bl_irrefl]
    simp
  · rcases bl_total e with h | h
    · simp [h]
    · have h' : bl a.1 b.1 = false := by
        cases k : bl a.1 b.1 with
        | false => rfl
        | true => have := bl_trans k h; rw [bl_irrefl] at this; cases this
      have e' : ¬ (b.1 = a.1) := fun x => e x.symm
      simp [h, h', e]
theorem lt_cf (a b : Ky) : decide (cf a b < 0) = klt a b := by
  unfold cf
  cases h : klt a b with
  | true => simp
  | false =>
    cases k : klt b a <;> simp
end Ga
end Go.Proofs.Ythaadpijfkmdiaa
