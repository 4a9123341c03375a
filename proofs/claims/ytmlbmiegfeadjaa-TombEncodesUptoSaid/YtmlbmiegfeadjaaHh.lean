/- Columns in memory; Apply. -/
import Derived.Test.YtmlbmiegfeadjaaHg
namespace Go.Proofs.Ytmlbmiegfeadjaa
open Go.RowKit
namespace Hh
open Jb Ca Cz Ga Gm Gn Gt Gw Gy Gz Hb Hc He Hf Hg

abbrev Kp := Ky × List Pnt
def c0 : Kp := ((⟨#[]⟩, ⟨#[]⟩), [])
/-- What stays of columns. -/
def apl (f : Ky → Int → Bool) (C : List Kp) : List Kp := (C.map fun c => (c.1, keep (f c.1) c.2)).filter fun c => !c.2.isEmpty
theorem apl_take (f : Ky → Int → Bool) (C : List Kp) {k : Nat} (hk : k < C.length) : apl f (C.take (k + 1)) = apl f (C.take k) ++ (if keep (f (C.getD k c0).1) (C.getD k c0).2 = [] then [] else [((C.getD k c0).1, keep (f (C.getD k c0).1) (C.getD k c0).2)]) := by
  unfold apl
  rw [List.take_add_one, List.getElem?_eq_getElem hk, List.getD_eq_getElem?_getD, List.getElem?_eq_getElem hk, List.map_append, List.filter_append]
  simp only [Option.toList_some, Option.getD_some, List.map_cons, List.map_nil]
  congr 1
  cases h : keep (f C[k].1) C[k].2 with
  | nil => simp
  | cons a r => simp
/-- Columns that came in. -/
def Ci (w : World) (v : Value) (C : List Kp) : Prop :=
  ∃ a c, v = .slice a C.length c ∧ ∀ i, i < C.length → ∃ b off ra rc, a = some ⟨b, off, none⟩ ∧ C.length ≤ c ∧ b < w.heap.size ∧ (C.getD i c0).2.length * 40 ≤ 140737488355328 ∧ w.cell? ⟨b, off + i * 3, none⟩ = some (.string (C.getD i c0).1.1) ∧ w.cell? ⟨b, off + i * 3 + 1, none⟩ = some (.string (C.getD i c0).1.2) ∧ w.cell? ⟨b, off + i * 3 + 2, none⟩ = some (.slice ra (C.getD i c0).2.length rc) ∧ Pi w (.slice ra (C.getD i c0).2.length rc) (C.getD i c0).2
theorem Ci.below {w w' : World} {v : Value} {C : List Kp} (h : Ci w v C) (b : Below w.heap.size w w') : Ci w' v C := by
  obtain ⟨a, c, rfl, h⟩ := h
  refine ⟨a, c, rfl, fun i hi => ?_⟩
  obtain ⟨q, off, ra, rc, rfl, h1, h2, h3, h4, h5, h6, h7⟩ := h i hi
  exact ⟨q, off, ra, rc, rfl, h1, Nat.lt_of_lt_of_le h2 b.size, h3, (b.cell h2).trans h4, (b.cell h2).trans h5, (b.cell h2).trans h6, h7.below b⟩
/-- A column: its place, its points, the points' slice. -/
abbrev Col := Ky × List Pnt × Value
def cz : Col := ((⟨#[]⟩, ⟨#[]⟩), [], .slice none 0 0)
def ccl (R : List Col) : List Value := R.flatMap fun c => [.string c.1.1, .string c.1.2, c.2.2]
def tab (R : List Col) : List Kp := R.map fun c => (c.1, c.2.1)
theorem ccl_cons (c : Col) (R : List Col) : ccl (c :: R) = [.string c.1.1, .string c.1.2, c.2.2] ++ ccl R := rfl
theorem ccl_app (R T : List Col) : ccl (R ++ T) = ccl R ++ ccl T := by unfold ccl; rw [List.flatMap_append]
theorem ccl_len (R : List Col) : (ccl R).length = R.length * 3 := by
  induction R with
  | nil => rfl
  | cons c r ih => rw [ccl_cons, List.length_append, ih]; simp; omega
theorem ccl_get (R : List Col) (i j : Nat) (hj : j < 3) (hi : i < R.length) : (ccl R)[i * 3 + j]? = [Value.string (R.getD i cz).1.1, .string (R.getD i cz).1.2, (R.getD i cz).2.2][j]? := by
  induction R generalizing i with
  | nil => simp at hi
  | cons c r ih =>
    rw [ccl_cons]
    cases i with
    | zero => rw [List.getElem?_append_left (by simp; omega)]; simp
    | succ i =>
      rw [List.getElem?_append_right (by simp; omega)]
      have := ih i (by simpa using hi)
      simp only [List.length_cons, List.length_nil]
      rw [show (i + 1) * 3 + j - (0 + 1 + 1 + 1) = i * 3 + j by omega, this]
      simp
theorem tab_len (R : List Col) : (tab R).length = R.length := by simp [tab]
theorem tab_get (R : List Col) (i : Nat) : (tab R).getD i c0 = ((R.getD i cz).1, (R.getD i cz).2.1) := by
  unfold tab
  rw [List.getD_eq_getElem?_getD, List.getD_eq_getElem?_getD, List.getElem?_map]
  cases R[i]? <;> rfl
theorem col_in {R : List Col} {i : Nat} (h : i < R.length) : R.getD i cz ∈ R := by
  rw [List.getD_eq_getElem?_getD, List.getElem?_eq_getElem h]; exact List.getElem_mem _
theorem tab_snoc (R : List Col) (c : Col) : tab (R ++ [c]) = tab R ++ [(c.1, c.2.1)] := by simp [tab]
/-- Columns of one's own. -/
structure Ot (w : World) (B : Nat) (v : Value) (R : List Col) : Prop where
  own : w.ownsRow B 53 3 v R.length (ccl R)
  rows : ∀ c ∈ R, w.ownsRow B 50 4 c.2.2 c.2.1.length (pcs c.2.1) ∧ (∀ x ∈ c.2.1, Wp x) ∧ c.2.1.length * 40 ≤ 140737488355328
  ap : R.Pairwise fun a c => ∀ j, a.2.2.ownBlock = some j → c.2.2.ownBlock ≠ some j
theorem Ot.nil (w : World) (B : Nat) : Ot w B (.slice none 0 0) [] := ⟨World.ownsRow_nil _ _ _ _, (fun c hc => by cases hc), List.Pairwise.nil⟩
theorem Ot.move {w w' : World} {B : Nat} {v : Value} {R : List Col} (H : Ot w B v R) (h : ∀ k, B ≤ k → k < w.heap.size → w'.heap[k]? = w.heap[k]?) : Ot w' B v R :=
  ⟨Hc.own_of_block H.own fun j hj => h j (Gt.own_lt H.own hj).1 (Gt.own_lt H.own hj).2, fun c hc => ⟨Hc.own_of_block (H.rows c hc).1 fun j hj => h j (Gt.own_lt (H.rows c hc).1 hj).1 (Gt.own_lt (H.rows c hc).1 hj).2, (H.rows c hc).2⟩, H.ap⟩
theorem Ot.below {w w' : World} {B : Nat} {v : Value} {R : List Col} (H : Ot w B v R) (b : Below w.heap.size w w') : Ot w' B v R := H.move fun k _ hk => b.block k hk
theorem Ot.base {w : World} {B B' : Nat} {v : Value} {R : List Col} (H : Ot w B v R) (h : B' ≤ B) : Ot w B' v R := ⟨Hc.own_base H.own h, fun c hc => ⟨Hc.own_base (H.rows c hc).1 h, (H.rows c hc).2⟩, H.ap⟩
/-- A column more: its points' block is new. -/
theorem Ot.snoc {w w' : World} {B m : Nat} {v v' r : Value} {R : List Col} (H : Ot w B v R) (k : Ky) (P : List Pnt) (hm : ∀ c ∈ R, ∀ j, c.2.2.ownBlock = some j → j < m) (hr : w.ownsRow B 50 4 r P.length (pcs P)) (hrm : ∀ j, r.ownBlock = some j → m ≤ j) (hw : ∀ x ∈ P, Wp x) (hl : P.length * 40 ≤ 140737488355328)
    (o : w'.ownsRow B 53 3 v' (R.length + 1) (ccl R ++ [.string k.1, .string k.2, r])) (g : w.grownBy w' v.ownBlock) : Ot w' B v' (R ++ [(k, P, r)]) := by
  have keepr : ∀ {u : Value} {n : Nat} {xs : List Value}, w.ownsRow B 50 4 u n xs → w'.ownsRow B 50 4 u n xs := fun {u n xs} hu => Hc.own_of_block hu fun j hj => g.block j (Gt.own_lt hu hj).2 fun e => apart H.own hu (by decide) e.symm hj
  refine ⟨by rw [List.length_append, ccl_app]; exact o, fun c hc => ?_, ?_⟩
  · rcases List.mem_append.1 hc with hc | hc
    · exact ⟨keepr (H.rows c hc).1, (H.rows c hc).2⟩
    · obtain rfl := List.mem_singleton.1 hc
      exact ⟨keepr hr, hw, hl⟩
  · rw [List.pairwise_append]
    refine ⟨H.ap, by simp, fun a ha c hc j hj e => ?_⟩
    obtain rfl := List.mem_singleton.1 hc
    have h1 := hm a ha j hj
    have h2 := hrm j e
    omega
/-- One's own columns, for reading. -/
theorem ot_ci {w : World} {B : Nat} {v : Value} {R : List Col} (H : Ot w B v R) : Ci w v (tab R) := by
  obtain ⟨a, c, hv⟩ := own_forms H.own
  refine ⟨a, c, by rw [tab_len]; exact hv, fun i hi => ?_⟩
  rw [tab_len] at hi
  have o := H.own
  obtain ⟨b, c2, e⟩ := Go.Joins.ownsRow_form o (by omega)
  rw [hv] at e
  cases e
  rw [hv] at o
  have hc : R.length ≤ c := by
    rcases o.2 with ⟨e, _⟩ | ⟨_, _, _, e, _, _, hc, _⟩
    · cases e
    · cases e; exact hc
  obtain ⟨r1, r2, r3⟩ := H.rows _ (col_in hi)
  obtain ⟨ra, rc, hr⟩ := own_forms r1
  have hpi := pi_own r1 r2
  rw [tab_get, tab_len]
  rw [hr] at hpi
  refine ⟨b, 0, ra, rc, rfl, hc, (Gt.own_lt o rfl).2, r3, ?_, ?_, ?_, hpi⟩
  · rw [Nat.zero_add]; exact (o.cellAt (i * 3) (by omega)).trans (ccl_get R i 0 (by decide) hi)
  · rw [Nat.zero_add]; exact (o.cellAt (i * 3 + 1) (by omega)).trans (ccl_get R i 1 (by decide) hi)
  · rw [Nat.zero_add, ← hr]; exact (o.cellAt (i * 3 + 2) (by omega)).trans (ccl_get R i 2 (by decide) hi)
theorem info53 : (Try.prog.info? 53).map (fun i => (i.zero, i.size, i.bytes)) = some (some (.agg #[.string ⟨#[]⟩, .string ⟨#[]⟩, .slice none 0 0]), 3, 56) := by kernel_rfl
end Hh
end Go.Proofs.Ytmlbmiegfeadjaa
