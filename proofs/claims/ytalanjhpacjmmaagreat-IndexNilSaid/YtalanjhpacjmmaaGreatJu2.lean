/- Arguments of small bulk. -/
import Derived.Test.YtalanjhpacjmmaaGreatJt
namespace Go.Proofs.YtalanjhpacjmmaaGreat
open Go.RowKit
namespace Ju2
theorem one_le {H : Type} (d : DataW H) : 1 ≤ Rows.uptoBulk d := by
  cases d with
  | lit l => cases l <;> simp [Rows.uptoBulk]
  | nil => simp [Rows.uptoBulk]
  | ptr d => simp [Rows.uptoBulk]
  | slice elems spare => simp [Rows.uptoBulk]
  | agg parts => simp [Rows.uptoBulk]
  | iface t d => simp [Rows.uptoBulk]
  | map entries => simp [Rows.uptoBulk]
  | held h => simp [Rows.uptoBulk]
theorem length_le {H : Type} (l : List (DataW H)) : l.length ≤ Rows.uptoBulkAll l := by
  induction l with
  | nil => simp [Rows.uptoBulkAll]
  | cons x r ih => have := one_le x; simp only [Rows.uptoBulkAll, List.length_cons]; omega
theorem bulk_mem {H : Type} {l : List (DataW H)} {d : DataW H} (h : d ∈ l) : Rows.uptoBulk d ≤ Rows.uptoBulkAll l := by
  induction l with
  | nil => cases h
  | cons x r ih =>
    simp only [Rows.uptoBulkAll]
    rcases List.mem_cons.1 h with rfl | h
    · omega
    · have := ih h; omega
theorem short_of {H : Type} {ds : List (DataW H)} {l m : List (DataW H)} (hm : DataW.slice l m ∈ ds) (hk : Rows.uptoSmall H ds = true) : l.length ≤ 1048576 := by
  have h : Rows.uptoBulkAll ds ≤ 1048576 := of_decide_eq_true hk
  have h1 := bulk_mem hm
  have h2 := length_le l
  simp only [Rows.uptoBulk] at h1
  omega
theorem short_str {H : Type} {ds : List (DataW H)} {s : ByteArray} (hm : (DataW.lit (.string s.data.toList) : DataW H) ∈ ds) (hk : Rows.uptoSmall H ds = true) : s.size ≤ 1048576 := by
  have h : Rows.uptoBulkAll ds ≤ 1048576 := of_decide_eq_true hk
  have h1 := bulk_mem hm
  simp only [Rows.uptoBulk, Array.length_toList] at h1
  have e : s.size = s.data.size := rfl
  omega
end Ju2
end Go.Proofs.YtalanjhpacjmmaaGreat
