/- Points in memory, and what they are. -/
import Derived.Test.YthaadpijfkmdiaaJb
namespace Go.Proofs.Ythaadpijfkmdiaa
open Go.RowKit
namespace Ca
open Jb

/-- A value: its kind, its number, its text. -/
abbrev Vl := Int × Nat × List Nat
def fin (n : Nat) : Bool := decide (n / 4503599627370496 % 2048 ≠ 2047)
def formed (v : Vl) : Bool :=
  if v.1 = 1 then decide (v.2.2 = []) && fin v.2.1
  else if v.1 = 2 then decide (v.2.2 = [])
  else if v.1 = 3 then decide (v.2.2 = []) && decide (v.2.1 ≤ 1)
  else if v.1 = 4 then decide (v.2.1 = 0) && decide (v.2.2.length ≤ 65536)
  else false
/-- A value as it may lie in memory. -/
def Wv (v : Vl) : Prop := -9223372036854775808 ≤ v.1 ∧ v.1 ≤ 9223372036854775807 ∧ v.2.1 < 18446744073709551616 ∧ ∀ x ∈ v.2.2, x < 256
def z0 : Vl := (0, 0, [])
theorem z0_wv : Wv z0 := by refine ⟨by decide, by decide, by decide, fun x hx => by simp [z0] at hx⟩
theorem getD_wv {T : List Vl} (h : ∀ v ∈ T, Wv v) (i : Nat) : Wv (T.getD i z0) := by
  rw [List.getD_eq_getElem?_getD]
  by_cases hi : i < T.length
  · rw [List.getElem?_eq_getElem hi]; exact h _ (List.getElem_mem hi)
  · rw [List.getElem?_eq_none (by omega)]; exact z0_wv


abbrev Pnt := Int × Vl
def p0 : Pnt := (0, z0)
def Wp (p : Pnt) : Prop := (-9223372036854775808 ≤ p.1 ∧ p.1 ≤ 9223372036854775807) ∧ Wv p.2
def tms (P : List Pnt) : List Int := P.map (·.1)
def vls (P : List Pnt) : List Vl := P.map (·.2)
theorem tms_len (P : List Pnt) : (tms P).length = P.length := by simp [tms]
theorem vls_len (P : List Pnt) : (vls P).length = P.length := by simp [vls]
theorem p0_wp : Wp p0 := ⟨by decide, z0_wv⟩
theorem getD_wp {P : List Pnt} (h : ∀ p ∈ P, Wp p) (i : Nat) : Wp (P.getD i p0) := by
  rw [List.getD_eq_getElem?_getD]
  by_cases hi : i < P.length
  · rw [List.getElem?_eq_getElem hi]; exact h _ (List.getElem_mem hi)
  · rw [List.getElem?_eq_none (by omega)]; exact p0_wp
/-- A value's cells, and the value as one. -/
def vc (v : Vl) : List Value := [.int .i64 v.1, .int .u64 (v.2.1 : Nat), .string (str v.2.2)]
def va (v : Vl) : Value := .agg #[.int .i64 v.1, .int .u64 (v.2.1 : Nat), .string (str v.2.2)]
def vcs (T : List Vl) : List Value := T.flatMap vc
theorem vcs_snoc (T : List Vl) (v : Vl) : vcs (T ++ [v]) = vcs T ++ vc v := by simp [vcs]
theorem vcs_len (T : List Vl) : (vcs T).length = T.length * 3 := by
  induction T with
  | nil => rfl
  | cons v r ih => simp only [vcs, List.flatMap_cons, List.length_append, List.length_cons] at *; rw [ih]; simp [vc]; omega
theorem vcs_get (T : List Vl) (i j : Nat) (hi : i < T.length) (hj : j < 3) : (vcs T)[i * 3 + j]? = (vc (T.getD i z0))[j]? := by
  induction T generalizing i with
  | nil => simp at hi
  | cons v r ih =>
    have e : vcs (v :: r) = vc v ++ vcs r := rfl
    have hl : (vc v).length = 3 := rfl
    rw [e]
    cases i with
    | zero => rw [List.getElem?_append_left (by omega)]; simp
    | succ i =>
      rw [List.getElem?_append_right (by omega), hl, show (i + 1) * 3 + j - 3 = i * 3 + j from by omega, ih i (by simpa using hi)]
      simp [List.getD_eq_getElem?_getD]
theorem vcs_one (T : List Vl) : ∀ u ∈ vcs T, u.oneCell' = true := by
  intro u hu
  simp only [vcs, List.mem_flatMap] at hu
  obtain ⟨v, _, hv⟩ := hu
  simp only [vc, List.mem_cons, List.not_mem_nil, or_false] at hv
  rcases hv with rfl | rfl | rfl <;> rfl
theorem str_nil : str [] = ⟨#[]⟩ := by simp [str, strOfNums]
theorem str_size (t : List Nat) : (str t).size = t.length := by
  show (str t).data.size = _
  rw [← Array.length_toList]
  unfold str
  rw [strOfNums_data]
  simp


/-- A point's cells, and the point as one. -/
def pc (p : Pnt) : List Value := .int .i64 p.1 :: vc p.2
def pa (p : Pnt) : Value := .agg #[.int .i64 p.1, .int .i64 p.2.1, .int .u64 (p.2.2.1 : Nat), .string (str p.2.2.2)]
def pcs (P : List Pnt) : List Value := P.flatMap pc
theorem pcs_snoc (P : List Pnt) (p : Pnt) : pcs (P ++ [p]) = pcs P ++ pc p := by simp [pcs]
theorem pcs_len (P : List Pnt) : (pcs P).length = P.length * 4 := by
  induction P with
  | nil => rfl
  | cons v r ih => simp only [pcs, List.flatMap_cons, List.length_append, List.length_cons] at *; rw [ih]; simp [pc, vc]; omega
theorem pcs_get (P : List Pnt) (i j : Nat) (hi : i < P.length) (hj : j < 4) : (pcs P)[i * 4 + j]? = (pc (P.getD i p0))[j]? := by
  induction P generalizing i with
  | nil => simp at hi
  | cons v r ih =>
    have e : pcs (v :: r) = pc v ++ pcs r := rfl
    have hl : (pc v).length = 4 := rfl
    rw [e]
    cases i with
    | zero => rw [List.getElem?_append_left (by omega)]; simp
    | succ i =>
      rw [List.getElem?_append_right (by omega), hl, show (i + 1) * 4 + j - 4 = i * 4 + j from by omega, ih i (by simpa using hi)]
      simp [List.getD_eq_getElem?_getD]
theorem pc_one (p : Pnt) : ∀ u ∈ pc p, u.oneCell' = true := by
  intro u hu
  simp only [pc, vc, List.mem_cons, List.not_mem_nil, or_false] at hu
  rcases hu with rfl | rfl | rfl | rfl <;> rfl

/-- The four cells of the point at the place o. -/
def PAt (w : World) (b o : Nat) (p : Pnt) : Prop := w.cell? ⟨b, o, none⟩ = some (.int .i64 p.1) ∧ w.cell? ⟨b, o + 1, none⟩ = some (.int .i64 p.2.1) ∧ w.cell? ⟨b, o + 2, none⟩ = some (.int .u64 (p.2.2.1 : Nat)) ∧ w.cell? ⟨b, o + 3, none⟩ = some (.string (str p.2.2.2))
/-- A slice of these points. -/
def Pi (w : World) (v : Value) (P : List Pnt) : Prop :=
  (∀ x ∈ P, Wp x) ∧ ((∃ a c, v = .slice a 0 c ∧ P = []) ∨
    ∃ b off c, v = .slice (some ⟨b, off, none⟩) P.length c ∧ P.length ≤ c ∧ b < w.heap.size ∧ ∀ i, i < P.length → PAt w b (off + i * 4) (P.getD i p0))
theorem PAt.of_block {w w' : World} {b o : Nat} {v : Pnt} (h : PAt w b o v) (e : w'.heap[b]? = w.heap[b]?) : PAt w' b o v :=
  ⟨(World.cell?_of_block e).trans h.1, (World.cell?_of_block e).trans h.2.1, (World.cell?_of_block e).trans h.2.2.1, (World.cell?_of_block e).trans h.2.2.2⟩
theorem Pi.forms {w : World} {v : Value} {P : List Pnt} (h : Pi w v P) : ∃ a c, v = .slice a P.length c := by
  rcases h.2 with ⟨a, c, rfl, rfl⟩ | ⟨b, off, c, rfl, _⟩
  · exact ⟨a, c, rfl⟩
  · exact ⟨_, _, rfl⟩
theorem Pi.below {w w' : World} {v : Value} {P : List Pnt} (h : Pi w v P) (b : Below w.heap.size w w') : Pi w' v P := by
  obtain ⟨h0, h⟩ := h
  refine ⟨h0, ?_⟩
  rcases h with h | ⟨q, off, c, h1, h2, h3, h4⟩
  · exact .inl h
  · exact .inr ⟨q, off, c, h1, h2, Nat.lt_of_lt_of_le h3 b.size, fun i hi => (h4 i hi).of_block (b.block q h3)⟩
theorem Pi.drewN {w : World} {v : Value} {P : List Pnt} (h : Pi w v P) (n : Nat) : Pi (w.drewN n) v P := h
theorem Pi.cases {w : World} {v : Value} {P : List Pnt} (h : Pi w v P) : (∃ a c, v = .slice a 0 c ∧ P = []) ∨
    (0 < P.length ∧ ∃ b off c, v = .slice (some ⟨b, off, none⟩) P.length c ∧ P.length ≤ c ∧ b < w.heap.size ∧ ∀ i, i < P.length → PAt w b (off + i * 4) (P.getD i p0)) := by
  rcases h.2 with h1 | ⟨b, off, c, h1, h2, h3, h4⟩
  · exact .inl h1
  · by_cases h0 : P.length = 0
    · obtain rfl := List.length_eq_zero_iff.1 h0
      exact .inl ⟨_, _, h1, rfl⟩
    · exact .inr ⟨by omega, b, off, c, h1, h2, h3, h4⟩
theorem infoP : (Try.prog.info? 65).map (fun i => (i.zero, i.size, i.bytes)) = some (some (.agg #[.int .i64 0, .int .i64 0, .int .u64 0, .string ⟨#[]⟩]), 4, 40) := by kernel_rfl
/-- A slice of its own. -/
theorem pi_own {w : World} {B : Nat} {v : Value} {P : List Pnt} (h : w.ownsRow B 65 4 v P.length (pcs P)) (hw : ∀ x ∈ P, Wp x) : Pi w v P := by
  refine ⟨hw, ?_⟩
  obtain ⟨hl, ⟨rfl, h0⟩ | ⟨g, c, cur, rfl, hg, hh, hnc, hcm, hsz, htk⟩⟩ := h
  · exact .inl ⟨none, 0, rfl, List.length_eq_zero_iff.1 h0⟩
  · have hgl : g < w.heap.size := by rw [Array.getElem?_eq_some_iff] at hh; exact hh.1
    have key : ∀ i j u, i < P.length → j < 4 → (pc (P.getD i p0))[j]? = some u → w.cell? ⟨g, 0 + i * 4 + j, none⟩ = some u := by
      intro i j u hi hj hu
      have ho : w.ownsRow B 65 4 (.slice (some ⟨g, 0, none⟩) P.length c) P.length (pcs P) := ⟨hl, .inr ⟨g, c, cur, rfl, hg, hh, hnc, hcm, hsz, htk⟩⟩
      have := ho.cells rfl (i * 4 + j) u (by rw [pcs_get P i j hi hj]; exact hu)
      rw [show 0 + i * 4 + j = 0 + (i * 4 + j) from by omega]
      unfold Addr.add at this
      split at this
      · rename_i e; rw [e] at *; exact this
      · exact this
    exact .inr ⟨g, 0, c, rfl, hnc, hgl, fun i hi => ⟨key i 0 _ hi (by decide) rfl, key i 1 _ hi (by decide) rfl, key i 2 _ hi (by decide) rfl, key i 3 _ hi (by decide) rfl⟩⟩
end Ca
end Go.Proofs.Ythaadpijfkmdiaa
