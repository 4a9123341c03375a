/- A slice of places, sorted: plain facts. -/
import Derived.Test.YtloiclmngmnbdaaSl
import Derived.Test.YtloiclmngmnbdaaSc
import Derived.Sort.Grow
import Derived.Sort.Statements
import Derived.Shelf.SlSortCmp.WholeK
namespace Go.Proofs.Ytloiclmngmnbdaa
open Go.RowKit Go.Sort
namespace Sd
open Jb Ca Ck Ct Ce Tb Li Sk Sl Sc

theorem heap_sortedK {w : World} {g n : Nat} {os : Array Obj} {cur : Array Value} {e : TypeId} {fr : Nat × Nat} (d : Array Ky) (hb : w.heap[g]? = some (.cells cur e fr)) :
    (sortWorldK kc 2 w g 0 n d os).heap[g]? = some (.cells (putCells id 0 (flatK kc 2 d) cur) e fr) := by
  have hg : g < w.heap.size := (Array.getElem?_eq_some_iff.1 hb).1
  unfold sortWorldK putRowK
  rw [heap_grow_old _ _ (by simpa using hg)]
  simp [putRow, mapBlock, Sort.ahead, Array.getElem?_modify, hb, onCells]
theorem grownBy_sortedK {w : World} {g n : Nat} {os : Array Obj} (d : Array Ky) : w.grownBy (sortWorldK kc 2 w g 0 n d os) (some g) := by
  unfold sortWorldK putRowK
  refine ⟨rfl, rfl, rfl, by simp, fun k hk hne => ?_⟩
  rw [heap_grow_old _ _ (by simpa using hk)]
  have : g ≠ k := fun e => hne (by rw [e])
  simp [putRow, mapBlock, Sort.ahead, Array.getElem?_modify, this]
theorem take_put2 (cur F : Array Value) (h : F.size ≤ cur.size) : (putCells id 0 F cur).toList.take F.size = F.toList := by
  apply List.ext_getElem?
  intro j
  by_cases hj : j < F.size
  · rw [List.getElem?_take_of_lt hj, Array.getElem?_toList, Array.getElem?_toList]
    simp [putCells, hj, show j < cur.size by omega]
  · rw [List.getElem?_take_eq_none (by omega), List.getElem?_eq_none (by simp; omega)]
theorem kcs_get : ∀ (l : List Ky) (t : Nat), t < l.length * 2 → (kcs l)[t]? = (kc (l.toArray[t / 2]!))[t % 2]?
  | [], t, h => by simp at h
  | x :: r, 0, _ => by simp [kcs, kc]
  | x :: r, 1, _ => by simp [kcs, kc]
  | x :: r, t + 2, h => by
    have ih := kcs_get r t (by simp at h; omega)
    have e1 : (t + 2) / 2 = t / 2 + 1 := by omega
    have e2 : (t + 2) % 2 = t % 2 := by omega
    rw [e1, e2]
    have e3 : (kcs (x :: r))[t + 2]? = (kcs r)[t]? := by simp [kcs, kc]
    rw [e3, ih]
    congr 2
    simp
theorem len_kcs (l : List Ky) : (kcs l).length = l.length * 2 := by
  induction l with
  | nil => rfl
  | cons x r ih =>
    have : kcs (x :: r) = kc x ++ kcs r := by simp [kcs]
    rw [this, List.length_append, ih]; simp [kc]; omega
theorem flat_kcs (l : List Ky) : (flatK kc 2 l.toArray).toList = kcs l := by
  apply List.ext_getElem?
  intro t
  by_cases ht : t < l.length * 2
  · rw [kcs_get l t ht]
    simp only [flatK, Array.getElem?_toList]
    have hm : t % 2 < 2 := Nat.mod_lt _ (by decide)
    simp [ht]
    have : t % 2 = 0 ∨ t % 2 = 1 := by omega
    rcases this with e | e <;> rw [e] <;> rfl
  · rw [List.getElem?_eq_none (by simp; omega), List.getElem?_eq_none (by rw [len_kcs]; omega)]
theorem holds_of_blockK {w : World} {g : Nat} {cur : Array Value} {e : TypeId} {ss : List Ky} (hb : w.heap[g]? = some (.cells cur e (0, 0))) (ht : cur.toList.take (ss.length * 2) = kcs ss) : HoldsK kc 2 w g 0 ss.toArray := by
  intro j hj
  have hj' : j < ss.length * 2 := by simpa using hj
  refine ⟨?_, by simp [World.frozen?, hb]⟩
  have h1 : (cur.toList.take (ss.length * 2))[j]? = (flatK kc 2 ss.toArray).toList[j]? := by rw [ht, flat_kcs]
  rw [List.getElem?_take_of_lt hj'] at h1
  simp only [World.cell?, hb, Nat.zero_add]
  simp only [Option.isSome_none, Bool.false_eq_true, if_false]
  rw [← Array.getElem?_toList, h1, Array.getElem?_toList, Array.getElem?_eq_getElem hj]
  exact congrArg some (getElem!_pos _ j hj).symm
theorem ownsRow_sortedK {w : World} {base g cap n : Nat} {e : TypeId} {os : Array Obj} {cur : Array Value} {ss ts : List Ky} (hl : ts.length = ss.length) (hbase : base ≤ g) (hb : w.heap[g]? = some (.cells cur e (0, 0)))
    (h1 : ss.length ≤ cap) (h2 : cap ≤ maxLen) (h3 : cur.size = cap * 2) :
    (sortWorldK kc 2 w g 0 n ts.toArray os).ownsRow base e 2 (.slice (some ⟨g, 0, none⟩) ss.length cap) ss.length (kcs ts) := by
  refine ⟨by rw [len_kcs, hl], .inr ⟨g, cap, _, rfl, hbase, heap_sortedK _ hb, h1, h2, by simp [putCells, h3], ?_⟩⟩
  have hs : (flatK kc 2 ts.toArray).size = ss.length * 2 := by simp [hl]
  have := take_put2 cur (flatK kc 2 ts.toArray) (by rw [hs, h3]; omega)
  rw [hs, flat_kcs] at this
  exact this
theorem ltOf_cf (a b : Ky) : ltOf cf a b = klt a b := lt_cf a b
theorem swo : SWO (ltOf cf) where
  irrefl x := by rw [ltOf_cf]; exact klt_irrefl x
  trans x y z h1 h2 := by rw [ltOf_cf] at *; exact klt_trans h1 h2
  ntrans x y z h1 h2 := by
    rw [ltOf_cf] at *
    by_cases e : x = y
    · rw [e]; exact h2
    · rcases klt_total e with k | k
      · rw [h1] at k; cases k
      · by_cases e2 : y = z
        · rw [← e2]; exact h1
        · rcases klt_total e2 with k2 | k2
          · rw [h2] at k2; cases k2
          · exact klt_asymm (klt_trans k2 k)
/-- Sorted, with no place twice: each is less than what is behind it. -/
theorem sorted_of {xs : List Ky} {d' : Array Ky} (hn : xs.Nodup) (hp : PermIn 0 xs.toArray.size xs.toArray d') (hs : SortedIn (ltOf cf) 0 xs.toArray.size d') : d'.toList.Perm xs ∧ d'.toList.Pairwise (fun a b => klt a b = true) := by
  obtain ⟨h1, _, h3⟩ := hp
  have hsz : d'.size = xs.length := by simpa using h1
  have hperm : d'.toList.Perm xs := by
    have e1 : d'.extract 0 xs.toArray.size = d' := by rw [show xs.toArray.size = d'.size from h1.symm]; exact Array.extract_size
    have e2 : xs.toArray.extract 0 xs.toArray.size = xs.toArray := Array.extract_size
    rw [e1, e2] at h3
    exact h3
  refine ⟨hperm, ?_⟩
  have hnd : d'.toList.Nodup := hperm.nodup_iff.2 hn
  rw [List.pairwise_iff_getElem]
  intro i j hi hj hij
  have hne : d'.toList[i] ≠ d'.toList[j] := fun e => List.pairwise_iff_getElem.1 hnd i j hi hj hij e
  have hi' : i < d'.size := by simpa using hi
  have hj' : j < d'.size := by simpa using hj
  have := hs i j (Nat.zero_le _) hij (by simp; omega)
  rw [ltOf_cf, getElem!_pos d' j hj', getElem!_pos d' i hi'] at this
  rcases klt_total hne with k | k
  · exact k
  · simp only [Array.getElem_toList] at k
    rw [this] at k; cases k
end Sd
end Go.Proofs.Ytloiclmngmnbdaa
