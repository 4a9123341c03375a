/- Tombs sorted: plain facts. -/
import Derived.Test.YtmlbmiegfeadjaaGn
import Derived.Sort.Grow
import Derived.Sort.Statements
import Derived.Shelf.SlSortCmp.WholeK
namespace Go.Proofs.Ytmlbmiegfeadjaa
open Go.RowKit Go.Sort
namespace Gr
open Jb Ca Cz Ga Gm Gn

theorem ltOf_cft (a b : Tmb) : ltOf cft a b = ltT a b := lt_cft a b
theorem swoT : SWO (ltOf cft) where
  irrefl x := by rw [ltOf_cft]; exact ltT_irrefl x
  trans x y z h1 h2 := by rw [ltOf_cft] at *; exact ltT_trans h1 h2
  ntrans x y z h1 h2 := by
    rw [ltOf_cft, ltT_not] at *
    rcases h1 with h1 | ⟨e1, h1⟩
    · rcases h2 with h2 | ⟨e2, h2⟩
      · exact .inl (klt_trans h2 h1)
      · exact .inl (e2 ▸ h1)
    · rcases h2 with h2 | ⟨e2, h2⟩
      · exact .inl (e1 ▸ h2)
      · exact .inr ⟨e1.trans e2, by omega⟩
theorem sortedT {xs : List Tmb} {d' : Array Tmb} (hp : PermIn 0 xs.toArray.size xs.toArray d') (hs : SortedIn (ltOf cft) 0 xs.toArray.size d') : d'.toList.Perm xs ∧ d'.toList.Pairwise (fun a b => ltT b a = false) := by
  obtain ⟨h1, _, h3⟩ := hp
  have hsz : d'.size = xs.length := by simpa using h1
  have hperm : d'.toList.Perm xs := by
    have e1 : d'.extract 0 xs.toArray.size = d' := by rw [show xs.toArray.size = d'.size from h1.symm]; exact Array.extract_size
    have e2 : xs.toArray.extract 0 xs.toArray.size = xs.toArray := Array.extract_size
    rw [e1, e2] at h3
    exact h3
  refine ⟨hperm, ?_⟩
  rw [List.pairwise_iff_getElem]
  intro i j hi hj hij
  have hi' : i < d'.size := by simpa using hi
  have hj' : j < d'.size := by simpa using hj
  have := hs i j (Nat.zero_le _) hij (by simp; omega)
  rw [ltOf_cft, getElem!_pos d' j hj', getElem!_pos d' i hi'] at this
  simpa using this

end Gr
end Go.Proofs.Ytmlbmiegfeadjaa
