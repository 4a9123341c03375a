/- Rows of four cells, and rows of rows, in memory. -/
import Derived.Test.YthaadpijfkmdiaaNm
import Derived.Test.YthaadpijfkmdiaaLa
namespace Go.Proofs.Ythaadpijfkmdiaa
open Go.RowKit
namespace Na
open Jb Nm

def d4 : V4 := (.bool false, .bool false, .bool false, .bool false)
def c4 (x : V4) : List Value := [x.1, x.2.1, x.2.2.1, x.2.2.2]
def a4 (x : V4) : Value := .agg #[x.1, x.2.1, x.2.2.1, x.2.2.2]
def One (x : V4) : Prop := ∀ u ∈ c4 x, u.oneCell' = true
def c4s (L : List V4) : List Value := L.flatMap c4
theorem c4s_snoc (L : List V4) (x : V4) : c4s (L ++ [x]) = c4s L ++ c4 x := by simp [c4s]
theorem c4s_app (L M : List V4) : c4s (L ++ M) = c4s L ++ c4s M := by simp [c4s]
theorem c4s_len (L : List V4) : (c4s L).length = L.length * 4 := by
  induction L with
  | nil => rfl
  | cons v r ih => simp only [c4s, List.flatMap_cons, List.length_append, List.length_cons] at *; rw [ih]; simp [c4]; omega
theorem c4s_get (L : List V4) (i j : Nat) (hi : i < L.length) (hj : j < 4) : (c4s L)[i * 4 + j]? = (c4 (L.getD i d4))[j]? := by
  induction L generalizing i with
  | nil => simp at hi
  | cons v r ih =>
    have e : c4s (v :: r) = c4 v ++ c4s r := rfl
    have hl : (c4 v).length = 4 := rfl
    rw [e]
    cases i with
    | zero => rw [List.getElem?_append_left (by omega)]; simp
    | succ i =>
      rw [List.getElem?_append_right (by omega), hl, show (i + 1) * 4 + j - 4 = i * 4 + j from by omega, ih i (by simpa using hi)]
      simp [List.getD_eq_getElem?_getD]
theorem c4s_one {L : List V4} (h : ∀ x ∈ L, One x) : ∀ u ∈ c4s L, u.oneCell' = true := by
  intro u hu
  simp only [c4s, List.mem_flatMap] at hu
  obtain ⟨x, h1, hx⟩ := hu
  exact h x h1 u hx
/-- The four cells at the place o. -/
def At4 (w : World) (b o : Nat) (x : V4) : Prop := w.cell? ⟨b, o, none⟩ = some x.1 ∧ w.cell? ⟨b, o + 1, none⟩ = some x.2.1 ∧ w.cell? ⟨b, o + 2, none⟩ = some x.2.2.1 ∧ w.cell? ⟨b, o + 3, none⟩ = some x.2.2.2
theorem At4.of_block {w w' : World} {b o : Nat} {v : V4} (h : At4 w b o v) (e : w'.heap[b]? = w.heap[b]?) : At4 w' b o v :=
  ⟨(World.cell?_of_block e).trans h.1, (World.cell?_of_block e).trans h.2.1, (World.cell?_of_block e).trans h.2.2.1, (World.cell?_of_block e).trans h.2.2.2⟩
/-- A slice of these, for reading. -/
def Sl (w : World) (v : Value) (L : List V4) : Prop :=
  (∃ a c, v = .slice a 0 c ∧ L = [] ∧ (a = none → c = 0)) ∨
    ∃ b off c, v = .slice (some ⟨b, off, none⟩) L.length c ∧ L.length ≤ c ∧ b < w.heap.size ∧ ∀ i, i < L.length → At4 w b (off + i * 4) (L.getD i d4)
theorem Sl.forms {w : World} {v : Value} {L : List V4} (h : Sl w v L) : ∃ a c, v = .slice a L.length c := by
  rcases h with ⟨a, c, rfl, rfl, _⟩ | ⟨b, off, c, rfl, _⟩
  · exact ⟨a, c, rfl⟩
  · exact ⟨_, _, rfl⟩
theorem Sl.below {w w' : World} {v : Value} {L : List V4} {B : Nat} (h : Sl w v L) (b : Below B w w') (hB : w.heap.size ≤ B) : Sl w' v L := by
  rcases h with h | ⟨q, off, c, h1, h2, h3, h4⟩
  · exact .inl h
  · exact .inr ⟨q, off, c, h1, h2, Nat.lt_of_lt_of_le h3 b.size, fun i hi => (h4 i hi).of_block (b.block q (by omega))⟩
/-- What is read of it in worlds behind. -/
theorem Sl.get {w : World} {v : Value} {L : List V4} (h : Sl w v L) : ∃ a c, v = .slice a L.length c ∧ ∀ i, i < L.length → ∃ b off, a = some ⟨b, off, none⟩ ∧ L.length ≤ c ∧ b < w.heap.size ∧ ∀ y, Below w.heap.size w y → At4 y b (off + i * 4) (L.getD i d4) := by
  rcases h with ⟨a, c, rfl, rfl, _⟩ | ⟨b, off, c, rfl, h1, h2, h3⟩
  · exact ⟨a, c, rfl, fun i hi => by simp at hi⟩
  · exact ⟨_, c, rfl, fun i hi => ⟨b, off, rfl, h1, h2, fun y hy => (h3 i hi).of_block (hy.block b h2)⟩⟩
theorem sl_own {w : World} {B t : Nat} {v : Value} {L : List V4} (h : w.ownsRow B t 4 v L.length (c4s L)) : Sl w v L := by
  obtain ⟨hl, ⟨rfl, h0⟩ | ⟨g, c, cur, rfl, hg, hh, hnc, hcm, hsz, htk⟩⟩ := h
  · exact .inl ⟨none, 0, rfl, List.length_eq_zero_iff.1 h0, fun _ => rfl⟩
  · have hgl : g < w.heap.size := by rw [Array.getElem?_eq_some_iff] at hh; exact hh.1
    have key : ∀ i j u, i < L.length → j < 4 → (c4 (L.getD i d4))[j]? = some u → w.cell? ⟨g, 0 + i * 4 + j, none⟩ = some u := by
      intro i j u hi hj hu
      have ho : w.ownsRow B t 4 (.slice (some ⟨g, 0, none⟩) L.length c) L.length (c4s L) := ⟨hl, .inr ⟨g, c, cur, rfl, hg, hh, hnc, hcm, hsz, htk⟩⟩
      have := ho.cells rfl (i * 4 + j) u (by rw [c4s_get L i j hi hj]; exact hu)
      rw [show 0 + i * 4 + j = 0 + (i * 4 + j) from by omega]
      unfold Addr.add at this
      split at this
      · rename_i e; rw [e] at *; exact this
      · exact this
    exact .inr ⟨g, 0, c, rfl, hnc, hgl, fun i hi => ⟨key i 0 _ hi (by decide) rfl, key i 1 _ hi (by decide) rfl, key i 2 _ hi (by decide) rfl, key i 3 _ hi (by decide) rfl⟩⟩
theorem sl_cells {w : World} {ad : Addr} {n c : Nat} {L : List V4} (h : Sl w (.slice (some ad) n c) L) : ∀ j u, (c4s L)[j]? = some u → w.cell? (ad.add j) = some u := by
  intro j u hj
  rcases h with ⟨_, _, e, rfl, _⟩ | ⟨b, off, c', e, h1, h2, h3⟩
  · simp [c4s] at hj
  · cases e
    have hjl : j < L.length * 4 := by rw [← c4s_len]; exact (List.getElem?_eq_some_iff.1 hj).1
    obtain ⟨i, r, rfl, hr⟩ : ∃ i r, j = i * 4 + r ∧ r < 4 := ⟨j / 4, j % 4, by omega, by omega⟩
    rw [c4s_get L i r (by omega) hr] at hj
    obtain ⟨x0, x1, x2, x3⟩ := h3 i (by omega)
    have e2 : (⟨b, off, none⟩ : Addr).add (i * 4 + r) = ⟨b, off + i * 4 + r, none⟩ := by
      unfold Addr.add; split
      · rename_i e; rw [show i * 4 = 0 by omega, show r = 0 by omega]; rfl
      · simp; omega
    rw [e2]
    match r, hj with
    | 0, hj => cases hj; exact x0
    | 1, hj => cases hj; exact x1
    | 2, hj => cases hj; exact x2
    | 3, hj => cases hj; exact x3
theorem sl_len {w : World} {a : Option Addr} {n c : Nat} {L : List V4} (h : Sl w (.slice a n c) L) : n = L.length := by
  obtain ⟨_, _, e⟩ := h.forms
  cases e; rfl
/-- A piece of it. -/
theorem sl_piece {w : World} {b off n c k m c' : Nat} {L : List V4} (h : Sl w (.slice (some ⟨b, off, none⟩) n c) L) (hk : k ≤ m) (hm : m ≤ L.length) (hc : m - k ≤ c') : Sl w (.slice (some ⟨b, off + k * 4, none⟩) (m - k) c') ((L.take m).drop k) := by
  have hl : ((L.take m).drop k).length = m - k := by rw [List.length_drop, List.length_take]; omega
  rcases h with ⟨a', c', e, rfl, _⟩ | ⟨b', off', c'', e, h1, h2, h3⟩
  · cases e
    simp only [List.length_nil, Nat.le_zero] at hm
    subst hm
    exact .inl ⟨_, _, by rw [Nat.zero_sub], by simp, fun h => by cases h⟩
  · cases e
    refine .inr ⟨b, off + k * 4, c', by rw [hl], by omega, h2, fun i hi => ?_⟩
    rw [hl] at hi
    have := h3 (k + i) (by omega)
    rw [List.getD_eq_getElem?_getD, List.getElem?_drop, List.getElem?_take_of_lt (by omega), ← List.getD_eq_getElem?_getD, show off + k * 4 + i * 4 = off + (k + i) * 4 by omega]
    exact this
/-- Values that are slices of these rows. -/
def Vs (w : World) (vals : List Value) (LL : List (List V4)) : Prop := vals.length = LL.length ∧ ∀ i, i < LL.length → Sl w (vals.getD i (.bool false)) (LL.getD i [])
theorem Vs.below {w w' : World} {vals : List Value} {LL : List (List V4)} {B : Nat} (h : Vs w vals LL) (b : Below B w w') (hB : w.heap.size ≤ B) : Vs w' vals LL := ⟨h.1, fun i hi => (h.2 i hi).below b hB⟩
theorem vs_nil (w : World) : Vs w [] [] := ⟨rfl, fun i hi => by simp at hi⟩
theorem Vs.snoc {w : World} {vals : List Value} {LL : List (List V4)} (h : Vs w vals LL) {v : Value} {L : List V4} (g : Sl w v L) : Vs w (vals ++ [v]) (LL ++ [L]) := by
  obtain ⟨h1, h2⟩ := h
  refine ⟨by simp [h1], fun i hi => ?_⟩
  rw [List.getD_eq_getElem?_getD, List.getD_eq_getElem?_getD]
  by_cases hl : i < LL.length
  · rw [List.getElem?_append_left (by omega), List.getElem?_append_left hl, ← List.getD_eq_getElem?_getD, ← List.getD_eq_getElem?_getD]
    exact h2 i hl
  · simp only [List.length_append, List.length_cons, List.length_nil] at hi
    obtain rfl : i = LL.length := by omega
    rw [List.getElem?_append_right (by omega), List.getElem?_append_right (Nat.le_refl _), h1]
    simpa using g
theorem Vs.one {w : World} {vals : List Value} {LL : List (List V4)} (h : Vs w vals LL) : ∀ u ∈ vals, u.oneCell' = true := by
  intro u hu
  obtain ⟨i, hi, rfl⟩ := List.getElem_of_mem hu
  have := h.2 i (by rw [← h.1]; exact hi)
  rw [List.getD_eq_getElem?_getD, List.getElem?_eq_getElem hi] at this
  obtain ⟨a, c, e⟩ := this.forms
  simp only [Option.getD_some] at e
  rw [e]; rfl
/-- A slice of slices of these rows, for reading. -/
def Rr (w : World) (v : Value) (LL : List (List V4)) : Prop :=
  ∃ a c, v = .slice a LL.length c ∧ ∀ i, i < LL.length → ∃ b off u, a = some ⟨b, off, none⟩ ∧ LL.length ≤ c ∧ b < w.heap.size ∧ w.cell? ⟨b, off + i, none⟩ = some u ∧ Sl w u (LL.getD i [])
theorem Rr.below {w w' : World} {v : Value} {LL : List (List V4)} {B : Nat} (h : Rr w v LL) (b : Below B w w') (hB : w.heap.size ≤ B) : Rr w' v LL := by
  obtain ⟨a, c, e, h⟩ := h
  refine ⟨a, c, e, fun i hi => ?_⟩
  obtain ⟨q, off, u, h1, h2, h3, h4, h5⟩ := h i hi
  exact ⟨q, off, u, h1, h2, Nat.lt_of_lt_of_le h3 b.size, (World.cell?_of_block (b.block q (by omega))).trans h4, h5.below b hB⟩
theorem rr_own {w : World} {B t : Nat} {v : Value} {vals : List Value} {LL : List (List V4)} (h : w.ownsRow B t 1 v vals.length vals) (g : Vs w vals LL) : Rr w v LL := by
  obtain ⟨hl, ⟨rfl, h0⟩ | ⟨q, c, cur, rfl, hg, hh, hnc, hcm, hsz, htk⟩⟩ := h
  · refine ⟨none, 0, by rw [← g.1, h0], fun i hi => ?_⟩
    rw [← g.1] at hi; omega
  · have hgl : q < w.heap.size := by rw [Array.getElem?_eq_some_iff] at hh; exact hh.1
    refine ⟨_, c, by rw [← g.1], fun i hi => ⟨q, 0, _, rfl, by rw [← g.1]; exact hnc, hgl, ?_, g.2 i hi⟩⟩
    have ho : w.ownsRow B t 1 (.slice (some ⟨q, 0, none⟩) vals.length c) vals.length vals := ⟨hl, .inr ⟨q, c, cur, rfl, hg, hh, hnc, hcm, hsz, htk⟩⟩
    have hi' : i < vals.length := by rw [g.1]; exact hi
    rw [Nat.zero_add]
    exact (ho.cellAt i (by omega)).trans (by rw [List.getD_eq_getElem?_getD, List.getElem?_eq_getElem hi']; rfl)
theorem sl_nil (w : World) : Sl w (.slice none 0 0) [] := .inl ⟨none, 0, rfl, rfl, fun _ => rfl⟩
/-- Behind the first element. -/
theorem sl_tail {w : World} {b off n c : Nat} {x : V4} {L : List V4} (h : Sl w (.slice (some ⟨b, off, none⟩) n c) (x :: L)) : n = L.length + 1 ∧ n ≤ c ∧ b < w.heap.size ∧ At4 w b off x ∧ Sl w (.slice (some ⟨b, off + 4, none⟩) (n - 1) (c - 1)) L := by
  have hn := sl_len h
  have hp := sl_piece (k := 1) (m := n) (c' := c - 1) h (by simp at hn; omega) (by omega)
  rcases h with ⟨_, _, e, h, _⟩ | ⟨b', off', c', e, h1, h2, h3⟩
  · cases h
  · cases e
    have h0 := h3 0 (by simp)
    simp only [Nat.zero_mul, Nat.add_zero, List.getD_cons_zero] at h0
    refine ⟨by simp, h1, h2, h0, ?_⟩
    have := hp (by omega)
    rw [List.take_length] at this
    simpa using this
/-- append of a slice of such rows to one's own. -/
theorem wpList_append_sl {P : Program} {w : World} {ops : Array Oper} {rest : List Oper} {o : Oper} {a : Act} {Q : Exit → Act → World → Prop} (hgd : o.guard = none) (s x : Operand) (t : TypeId)
    (ho : o.op = .call { callee := .builtin .append, args := #[s, x], argTypes := #[t, t] })
    (base : Nat) (e : TypeId) (i : TypeInfo) (z : Value) (bytes : Nat) (ht : P.underlying t = some (.slice e)) (hi : P.info? e = some i) (h3 : i.zero = some z) (h4 : i.size = 4) (h5 : i.bytes = bytes) (h6 : z.cells.size = 4)
    (v : Value) (n : Nat) (xs : List Value) (hs : a.eval s = v) (hown : w.ownsRow base e 4 v n xs) (u : Value) (L : List V4) (hx : a.eval x = u) (hS : Sl w u L) (h1 : ∀ x ∈ L, One x)
    (b1 : n + L.length ≤ maxLen) (b2 : (n + L.length) * bytes ≤ 140737488355328) (hb : base ≤ w.heap.size)
    (hK : ∀ v' w', w'.ownsRow base e 4 v' (n + L.length) (xs ++ c4s L) → w.grownBy w' v.ownBlock → wpList P ops Q rest (a.put o.dst v') w') : wpList P ops Q (o :: rest) a w := by
  obtain ⟨ad, c, rfl⟩ := hS.forms
  cases ad with
  | none =>
    rcases hS with ⟨_, _, e, rfl, h0⟩ | ⟨_, _, _, e, _⟩
    · cases e
      obtain rfl := h0 rfl
      refine wpList_append_own_none hgd s x t ho base e i 4 ht hi v n xs hs hown hx (hK v w ?_ (World.grownBy.refl _ _))
      simpa [c4s] using hown
    · cases e
  | some ad =>
    exact wpList_append_own w hgd s x t ho base e i z 4 bytes ht hi h3 h4 h5 h6 (by decide) v n xs hs hown ad L.length c (c4s L) hx (c4s_len L) (sl_cells hS) (c4s_one h1) b1 b2 hb (fun v' w' h1 h2 _ => hK v' w' h1 h2)
end Na
end Go.Proofs.Ythaadpijfkmdiaa
