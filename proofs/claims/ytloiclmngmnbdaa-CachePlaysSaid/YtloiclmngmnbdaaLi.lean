/- slices.Insert at points: one point, ahead of the end. -/
import Derived.Test.YtloiclmngmnbdaaLd
import Derived.Shelf.Spec.SlicesInsert
import Derived.Maps.AppendAt
import Derived.Lib.AppendZerosOnto
import Derived.Laws.CopyRow
import Derived.Laws.CopyOwn
namespace Go.Proofs.Ytloiclmngmnbdaa
open Go.RowKit Go.Maps Go.ChangeMaps Go.MapKept
namespace Li
open Jb Ca Ck Ct Cd Ls Lb Lc Ld

/-- A copy of elements of k cells into a row. -/
theorem run_copy_rowK {P : Program} (k : Nat) (w : World) (dT sT ty elem : TypeId) (g o dLen dCap : Nat) (a : Addr) (sLen sCap : Nat) (cur : Array Value) (t : TypeId) (cs : List Value) (m : Nat)
    (hu : P.underlying dT = some (.slice elem)) (hs : (P.info? elem).map (·.size) = some k)
    (hg : w.heap[g]? = some (.cells cur t (0, 0))) (hm : m = Nat.min sLen dLen) (hn : cs.length = m * k)
    (hsrc : ∀ j v, cs[j]? = some v → w.cell? (a.add j) = some v) (hfit : o + cs.length ≤ cur.size) (h1 : ∀ v ∈ cs, v.oneCell' = true) :
    (Builtin.copy_ #[dT, sT] ty #[.slice (some ⟨g, o, none⟩) dLen dCap, .slice (some a) sLen sCap]).run P w =
      .ok (goInt m) (w.setRow g (cur.toList.take o ++ cs ++ cur.toList.drop (o + cs.length)).toArray) := by
  have hl := run_loadCells_list (P := P) w a cs hsrc
  have hst := run_storeCells_at P g o t cs 0 cur w hg (by simpa using hfit) h1
  cases hq : P.info? elem with
  | none => simp [hq] at hs
  | some i =>
    have hi : i.size = k := by simpa [hq] using hs
    subst hm
    simp [Builtin.copy_, run_underlying hu, Builtin.lenOf, Builtin.firstCells, sizeOf, typeInfo, hq, hi, ← hn, hl, hst]
theorem pcs_app (A B : List Pnt) : pcs (A ++ B) = pcs A ++ pcs B := by simp [pcs]
theorem pcs_take (L : List Pnt) (i : Nat) : (pcs L).take (i * 4) = pcs (L.take i) := by
  induction L generalizing i with
  | nil => simp [pcs]
  | cons q r ih =>
    cases i with
    | zero => simp [pcs]
    | succ i =>
      have e : pcs (q :: r) = pc q ++ pcs r := rfl
      have hl : (pc q).length = 4 := rfl
      rw [e, List.take_succ_cons, show (i + 1) * 4 = 4 + i * 4 by omega, ← hl, List.take_length_add_append, hl, ih]
      rfl
theorem pcs_drop (L : List Pnt) (i : Nat) : (pcs L).drop (i * 4) = pcs (L.drop i) := by
  induction L generalizing i with
  | nil => simp [pcs]
  | cons q r ih =>
    cases i with
    | zero => simp
    | succ i =>
      have e : pcs (q :: r) = pc q ++ pcs r := rfl
      have hl : (pc q).length = 4 := rfl
      rw [e, List.drop_succ_cons, show (i + 1) * 4 = 4 + i * 4 by omega, ← hl, List.drop_length_add_append, hl, ih]
theorem pcs_one (L : List Pnt) : ∀ u ∈ pcs L, u.oneCell' = true := by
  intro u hu
  simp only [pcs, List.mem_flatMap] at hu
  obtain ⟨p, _, hp⟩ := hu
  exact pc_one p u hp
theorem pc_len (p : Pnt) : (pc p).length = 4 := rfl
theorem sizeP : (Try.prog.info? 32).map (·.size) = some 4 := by kernel_rfl
theorem overlaps_no (w : World) (vb sb n lb cb o : Nat) (cv cs : Array Value) (hne : vb ≠ sb) (hv : w.heap[vb]? = some (.cells cv 32 (0, 0))) (hs : w.heap[sb]? = some (.cells cs 32 (0, 0))) (hsz : cs.size ≠ 0) :
    (callFunc 70 #[.slice (some ⟨vb, 0, none⟩) 1 n, .slice (some ⟨sb, o, none⟩) lb cb]).run Try.prog w = .ok (.value (.bool false)) w := by
  rw [run_callFunc_extern Try.func70 (by kernel_rfl) (by kernel_rfl) (by kernel_rfl) (e := Extern.SlicesOverlaps.overlaps #[43, 43] #[4]) (by kernel_rfl),
    Lib.run_overlaps_apart w 43 4 32 Try.underlying43 4 (fun w => by kernel_rfl) ⟨vb, 0, none⟩ ⟨sb, o, none⟩ 1 n lb cb hne 32 32 cv.size cs.size (by simp [World.shape?, hv]) (by simp [World.shape?, hs]) hsz (by simp [World.frozen?, hv]) (by simp [World.frozen?, hv])]
  rfl
/-- Where the cells of a block lie. -/
theorem cell_at {w : World} {b : Nat} {cs : Array Value} {t : TypeId} {z : Nat × Nat} (h : w.heap[b]? = some (.cells cs t z)) (i : Nat) : w.cell? ⟨b, i, none⟩ = cs[i]? := by simp [World.cell?, h]
theorem list_shift (cur : List Value) (i n : Nat) (X V : List Value) (hV : V.length = 4) (hin : i < n) (hX : X.length = (n - i) * 4) (hl : (n + 1) * 4 ≤ cur.length) :
    let c1 := cur.take ((i + 1) * 4) ++ X ++ cur.drop ((i + 1) * 4 + X.length)
    (c1.take (i * 4) ++ V ++ c1.drop (i * 4 + V.length)).take ((n + 1) * 4) = cur.take (i * 4) ++ V ++ X ∧ (c1.take (i * 4) ++ V ++ c1.drop (i * 4 + V.length)).length = cur.length ∧ c1.length = cur.length := by
  intro c1
  have hc1 : c1.length = cur.length := by simp [c1]; omega
  have t1 : c1.take (i * 4) = cur.take (i * 4) := by
    simp only [c1]
    rw [List.append_assoc, List.take_append_of_le_length (by simp; omega), List.take_take, Nat.min_eq_left (by omega)]
  have d1 : c1.drop (i * 4 + 4) = X ++ cur.drop ((i + 1) * 4 + X.length) := by
    simp only [c1]
    rw [List.append_assoc, List.drop_append, List.length_take, List.drop_of_length_le (by simp; omega), List.nil_append, show i * 4 + 4 - min ((i + 1) * 4) cur.length = 0 by omega, List.drop_zero]
  rw [hV, t1, d1]
  refine ⟨?_, ?_, hc1⟩
  · rw [← List.append_assoc, List.take_append_of_le_length (by simp; omega), List.take_of_length_le (by simp; omega)]
  · simp; omega
end Li
end Go.Proofs.Ytloiclmngmnbdaa
