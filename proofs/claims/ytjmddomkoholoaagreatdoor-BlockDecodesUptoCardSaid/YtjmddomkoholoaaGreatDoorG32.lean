import Derived.Test.YtjmddomkoholoaaGreatDoorG31
import Derived.Test.YtjmddomkoholoaaGreatDoorG10
import Derived.Test.YtjmddomkoholoaaGreatDoorG24

/- Points in memory. -/
namespace Go.Proofs.YtjmddomkoholoaaGreatDoor
open Go.RowKit
namespace Kp
open Cm Wr Cv Vs Kd

/-- A point's cells, and the point as one. -/
def pc (p : Pnt) : List Value := .int .i64 p.1 :: vc p.2
def pa (p : Pnt) : Value := .agg #[.int .i64 p.1, .int .i64 p.2.1, .int .u64 (p.2.2.1 : Nat), .string (str p.2.2.2)]
def pcs (P : List Pnt) : List Value := P.flatMap pc
theorem pcs_snoc (P : List Pnt) (p : Pnt) : pcs (P ++ [p]) = pcs P ++ pc p := by simp [pcs]
theorem pcs_len (P : List Pnt) : (pcs P).length = P.length * 4 := by
  induction P with
  | nil => rfl
  | cons v r ih => simp only [pcs, List.flatMap_cons, List.length_append, List.length_cons] at *; rw [ih]; simp [pc, vc]; omega
theorem pcs_get (P : List Pnt) (i j : Nat) (hi : i < P.length) (hj : j < 4) : (pcs P)[i * 4 + j]? = (pc (P.getD i p0))[j]? := by
  induction P generalizing i with
  | nil => simp at hi
  | cons v r ih =>
    have e : pcs (v :: r) = pc v ++ pcs r := rfl
    have hl : (pc v).length = 4 := rfl
    rw [e]
    cases i with
    | zero => rw [List.getElem?_append_left (by omega)]; simp
    | succ i =>
      rw [List.getElem?_append_right (by omega), hl, show (i + 1) * 4 + j - 4 = i * 4 + j from by omega, ih i (by simpa using hi)]
      simp [List.getD_eq_getElem?_getD]
theorem pc_one (p : Pnt) : ∀ u ∈ pc p, u.oneCell' = true := by
  intro u hu
  simp only [pc, vc, List.mem_cons, List.not_mem_nil, or_false] at hu
  rcases hu with rfl | rfl | rfl | rfl <;> rfl

/-- The four cells of the point at the place o. -/
def PAt (w : World) (b o : Nat) (p : Pnt) : Prop := w.cell? ⟨b, o, none⟩ = some (.int .i64 p.1) ∧ w.cell? ⟨b, o + 1, none⟩ = some (.int .i64 p.2.1) ∧ w.cell? ⟨b, o + 2, none⟩ = some (.int .u64 (p.2.2.1 : Nat)) ∧ w.cell? ⟨b, o + 3, none⟩ = some (.string (str p.2.2.2))
/-- A slice of these points. -/
def Pi (w : World) (v : Value) (P : List Pnt) : Prop :=
  (∀ x ∈ P, Wp x) ∧ ((∃ a c, v = .slice a 0 c ∧ P = []) ∨
    ∃ b off c, v = .slice (some ⟨b, off, none⟩) P.length c ∧ P.length ≤ c ∧ b < w.heap.size ∧ ∀ i, i < P.length → PAt w b (off + i * 4) (P.getD i p0))
theorem PAt.of_block {w w' : World} {b o : Nat} {v : Pnt} (h : PAt w b o v) (e : w'.heap[b]? = w.heap[b]?) : PAt w' b o v :=
  ⟨(World.cell?_of_block e).trans h.1, (World.cell?_of_block e).trans h.2.1, (World.cell?_of_block e).trans h.2.2.1, (World.cell?_of_block e).trans h.2.2.2⟩
theorem Pi.forms {w : World} {v : Value} {P : List Pnt} (h : Pi w v P) : ∃ a c, v = .slice a P.length c := by
  rcases h.2 with ⟨a, c, rfl, rfl⟩ | ⟨b, off, c, rfl, _⟩
  · exact ⟨a, c, rfl⟩
  · exact ⟨_, _, rfl⟩
theorem Pi.below {w w' : World} {v : Value} {P : List Pnt} (h : Pi w v P) (b : Below w.heap.size w w') : Pi w' v P := by
  obtain ⟨h0, h⟩ := h
  refine ⟨h0, ?_⟩
  rcases h with h | ⟨q, off, c, h1, h2, h3, h4⟩
  · exact .inl h
  · exact .inr ⟨q, off, c, h1, h2, Nat.lt_of_lt_of_le h3 b.size, fun i hi => (h4 i hi).of_block (b.block q h3)⟩
theorem Pi.drewN {w : World} {v : Value} {P : List Pnt} (h : Pi w v P) (n : Nat) : Pi (w.drewN n) v P := h
theorem Pi.cases {w : World} {v : Value} {P : List Pnt} (h : Pi w v P) : (∃ a c, v = .slice a 0 c ∧ P = []) ∨
    (0 < P.length ∧ ∃ b off c, v = .slice (some ⟨b, off, none⟩) P.length c ∧ P.length ≤ c ∧ b < w.heap.size ∧ ∀ i, i < P.length → PAt w b (off + i * 4) (P.getD i p0)) := by
  rcases h.2 with h1 | ⟨b, off, c, h1, h2, h3, h4⟩
  · exact .inl h1
  · by_cases h0 : P.length = 0
    · obtain rfl := List.length_eq_zero_iff.1 h0
      exact .inl ⟨_, _, h1, rfl⟩
    · exact .inr ⟨by omega, b, off, c, h1, h2, h3, h4⟩
theorem infoP : (Tryz.prog.info? 37).map (fun i => (i.zero, i.size, i.bytes)) = some (some (.agg #[.int .i64 0, .int .i64 0, .int .u64 0, .string ⟨#[]⟩]), 4, 40) := by kernel_rfl
/-- A slice of its own. -/
theorem pi_own {w : World} {B : Nat} {v : Value} {P : List Pnt} (h : w.ownsRow B 37 4 v P.length (pcs P)) (hw : ∀ x ∈ P, Wp x) : Pi w v P := by
  refine ⟨hw, ?_⟩
  obtain ⟨hl, ⟨rfl, h0⟩ | ⟨g, c, cur, rfl, hg, hh, hnc, hcm, hsz, htk⟩⟩ := h
  · exact .inl ⟨none, 0, rfl, List.length_eq_zero_iff.1 h0⟩
  · have hgl : g < w.heap.size := by rw [Array.getElem?_eq_some_iff] at hh; exact hh.1
    have key : ∀ i j u, i < P.length → j < 4 → (pc (P.getD i p0))[j]? = some u → w.cell? ⟨g, 0 + i * 4 + j, none⟩ = some u := by
      intro i j u hi hj hu
      have ho : w.ownsRow B 37 4 (.slice (some ⟨g, 0, none⟩) P.length c) P.length (pcs P) := ⟨hl, .inr ⟨g, c, cur, rfl, hg, hh, hnc, hcm, hsz, htk⟩⟩
      have := ho.cells rfl (i * 4 + j) u (by rw [pcs_get P i j hi hj]; exact hu)
      rw [show 0 + i * 4 + j = 0 + (i * 4 + j) from by omega]
      unfold Addr.add at this
      split at this
      · rename_i e; rw [e] at *; exact this
      · exact this
    exact .inr ⟨g, 0, c, rfl, hnc, hgl, fun i hi => ⟨key i 0 _ hi (by decide) rfl, key i 1 _ hi (by decide) rfl, key i 2 _ hi (by decide) rfl, key i 3 _ hi (by decide) rfl⟩⟩
theorem take_succ_map {α β : Type} (f : α → β) (l : List α) (z : α) (k : Nat) (hk : k < l.length) : (l.take (k + 1)).map f = (l.take k).map f ++ [f (l.getD k z)] := by
  rw [List.take_add_one, List.map_append, List.getElem?_eq_getElem hk, List.getD_eq_getElem?_getD, List.getElem?_eq_getElem hk]
  rfl
theorem tms_take (P : List Pnt) (k : Nat) (hk : k < P.length) : tms (P.take (k + 1)) = tms (P.take k) ++ [(P.getD k p0).1] := take_succ_map _ _ _ _ hk
theorem vls_take (P : List Pnt) (k : Nat) (hk : k < P.length) : vls (P.take (k + 1)) = vls (P.take k) ++ [(P.getD k p0).2] := take_succ_map _ _ _ _ hk
end Kp
end Go.Proofs.YtjmddomkoholoaaGreatDoor
