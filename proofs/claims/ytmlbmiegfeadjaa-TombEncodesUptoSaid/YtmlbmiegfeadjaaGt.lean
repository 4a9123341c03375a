/- Tombs in memory. -/
import Derived.Test.YtmlbmiegfeadjaaGn
namespace Go.Proofs.Ytmlbmiegfeadjaa
open Go.RowKit
namespace Gt
open Jb Ca Cz Ga Gm Gn

/-- A tomb as it may lie in memory. -/
def Wt (x : Tmb) : Prop := (-9223372036854775808 ≤ x.2.2.1 ∧ x.2.2.1 ≤ 9223372036854775807) ∧ (-9223372036854775808 ≤ x.2.2.2 ∧ x.2.2.2 ≤ 9223372036854775807)
theorem t0_wt : Wt t0 := by unfold Wt t0; decide
theorem getD_wt {L : List Tmb} (h : ∀ x ∈ L, Wt x) (i : Nat) : Wt (L.getD i t0) := by
  rw [List.getD_eq_getElem?_getD]
  by_cases hi : i < L.length
  · rw [List.getElem?_eq_getElem hi]; exact h _ (List.getElem_mem hi)
  · rw [List.getElem?_eq_none (by omega)]; exact t0_wt
def tc (x : Tmb) : List Value := [.string x.1, .string x.2.1, .int .i64 x.2.2.1, .int .i64 x.2.2.2]
def ta (x : Tmb) : Value := .agg #[.string x.1, .string x.2.1, .int .i64 x.2.2.1, .int .i64 x.2.2.2]
def tcs (L : List Tmb) : List Value := L.flatMap tc
theorem tcs_snoc (L : List Tmb) (x : Tmb) : tcs (L ++ [x]) = tcs L ++ tc x := by simp [tcs]
theorem tcs_len (L : List Tmb) : (tcs L).length = L.length * 4 := by
  induction L with
  | nil => rfl
  | cons v r ih => simp only [tcs, List.flatMap_cons, List.length_append, List.length_cons] at *; rw [ih]; simp [tc]; omega
theorem tcs_get (L : List Tmb) (i j : Nat) (hi : i < L.length) (hj : j < 4) : (tcs L)[i * 4 + j]? = (tc (L.getD i t0))[j]? := by
  induction L generalizing i with
  | nil => simp at hi
  | cons v r ih =>
    have e : tcs (v :: r) = tc v ++ tcs r := rfl
    have hl : (tc v).length = 4 := rfl
    rw [e]
    cases i with
    | zero => rw [List.getElem?_append_left (by omega)]; simp
    | succ i =>
      rw [List.getElem?_append_right (by omega), hl, show (i + 1) * 4 + j - 4 = i * 4 + j from by omega, ih i (by simpa using hi)]
      simp [List.getD_eq_getElem?_getD]
theorem tc_one (x : Tmb) : ∀ u ∈ tc x, u.oneCell' = true := by
  intro u hu
  simp only [tc, List.mem_cons, List.not_mem_nil, or_false] at hu
  rcases hu with rfl | rfl | rfl | rfl <;> rfl
theorem tcs_one (L : List Tmb) : ∀ u ∈ tcs L, u.oneCell' = true := by
  intro u hu
  simp only [tcs, List.mem_flatMap] at hu
  obtain ⟨x, _, hx⟩ := hu
  exact tc_one x u hx
/-- The four cells of the tomb at the place o. -/
def TAt (w : World) (b o : Nat) (x : Tmb) : Prop := w.cell? ⟨b, o, none⟩ = some (.string x.1) ∧ w.cell? ⟨b, o + 1, none⟩ = some (.string x.2.1) ∧ w.cell? ⟨b, o + 2, none⟩ = some (.int .i64 x.2.2.1) ∧ w.cell? ⟨b, o + 3, none⟩ = some (.int .i64 x.2.2.2)
theorem TAt.of_block {w w' : World} {b o : Nat} {v : Tmb} (h : TAt w b o v) (e : w'.heap[b]? = w.heap[b]?) : TAt w' b o v :=
  ⟨(World.cell?_of_block e).trans h.1, (World.cell?_of_block e).trans h.2.1, (World.cell?_of_block e).trans h.2.2.1, (World.cell?_of_block e).trans h.2.2.2⟩
/-- A slice of these tombs. -/
def Ti (w : World) (v : Value) (L : List Tmb) : Prop :=
  (∀ x ∈ L, Wt x) ∧ ((∃ a c, v = .slice a 0 c ∧ L = []) ∨
    ∃ b off c, v = .slice (some ⟨b, off, none⟩) L.length c ∧ L.length ≤ c ∧ b < w.heap.size ∧ ∀ i, i < L.length → TAt w b (off + i * 4) (L.getD i t0))
theorem Ti.forms {w : World} {v : Value} {L : List Tmb} (h : Ti w v L) : ∃ a c, v = .slice a L.length c := by
  rcases h.2 with ⟨a, c, rfl, rfl⟩ | ⟨b, off, c, rfl, _⟩
  · exact ⟨a, c, rfl⟩
  · exact ⟨_, _, rfl⟩
theorem Ti.below {w w' : World} {v : Value} {L : List Tmb} (h : Ti w v L) (b : Below w.heap.size w w') : Ti w' v L := by
  obtain ⟨h0, h⟩ := h
  refine ⟨h0, ?_⟩
  rcases h with h | ⟨q, off, c, h1, h2, h3, h4⟩
  · exact .inl h
  · exact .inr ⟨q, off, c, h1, h2, Nat.lt_of_lt_of_le h3 b.size, fun i hi => (h4 i hi).of_block (b.block q h3)⟩
theorem Ti.drewN {w : World} {v : Value} {L : List Tmb} (h : Ti w v L) (n : Nat) : Ti (w.drewN n) v L := h
/-- Its elements, in every world behind. -/
theorem Ti.get {w : World} {v : Value} {L : List Tmb} (h : Ti w v L) : ∃ a c, v = .slice a L.length c ∧ ∀ i, i < L.length → ∃ b off, a = some ⟨b, off, none⟩ ∧ L.length ≤ c ∧ b < w.heap.size ∧ ∀ y, Below w.heap.size w y → TAt y b (off + i * 4) (L.getD i t0) := by
  rcases h.2 with ⟨a, c, rfl, rfl⟩ | ⟨b, off, c, rfl, h1, h2, h3⟩
  · exact ⟨a, c, rfl, fun i hi => by simp at hi⟩
  · exact ⟨_, c, rfl, fun i hi => ⟨b, off, rfl, h1, h2, fun y hy => (h3 i hi).of_block (hy.block b h2)⟩⟩
theorem ti_own {w : World} {B t : Nat} {v : Value} {L : List Tmb} (h : w.ownsRow B t 4 v L.length (tcs L)) (hw : ∀ x ∈ L, Wt x) : Ti w v L := by
  refine ⟨hw, ?_⟩
  obtain ⟨hl, ⟨rfl, h0⟩ | ⟨g, c, cur, rfl, hg, hh, hnc, hcm, hsz, htk⟩⟩ := h
  · exact .inl ⟨none, 0, rfl, List.length_eq_zero_iff.1 h0⟩
  · have hgl : g < w.heap.size := by rw [Array.getElem?_eq_some_iff] at hh; exact hh.1
    have key : ∀ i j u, i < L.length → j < 4 → (tc (L.getD i t0))[j]? = some u → w.cell? ⟨g, 0 + i * 4 + j, none⟩ = some u := by
      intro i j u hi hj hu
      have ho : w.ownsRow B t 4 (.slice (some ⟨g, 0, none⟩) L.length c) L.length (tcs L) := ⟨hl, .inr ⟨g, c, cur, rfl, hg, hh, hnc, hcm, hsz, htk⟩⟩
      have := ho.cells rfl (i * 4 + j) u (by rw [tcs_get L i j hi hj]; exact hu)
      rw [show 0 + i * 4 + j = 0 + (i * 4 + j) from by omega]
      unfold Addr.add at this
      split at this
      · rename_i e; rw [e] at *; exact this
      · exact this
    exact .inr ⟨g, 0, c, rfl, hnc, hgl, fun i hi => ⟨key i 0 _ hi (by decide) rfl, key i 1 _ hi (by decide) rfl, key i 2 _ hi (by decide) rfl, key i 3 _ hi (by decide) rfl⟩⟩
theorem info44 : (Try.prog.info? 44).map (fun i => (i.zero, i.size, i.bytes)) = some (some (.agg #[.string ⟨#[]⟩, .string ⟨#[]⟩, .int .i64 0, .int .i64 0]), 4, 48) := by kernel_rfl
theorem info57 : (Try.prog.info? 57).map (fun i => (i.zero, i.size, i.bytes)) = some (some (.agg #[.string ⟨#[]⟩, .string ⟨#[]⟩, .int .i64 0, .int .i64 0]), 4, 48) := by kernel_rfl
theorem own_formsN {w : World} {B t k n : Nat} {v : Value} {xs : List Value} (h : w.ownsRow B t k v n xs) : ∃ a m c, v = .slice a m c := by
  rcases h.2 with ⟨rfl, rfl⟩ | ⟨g, cap, _, rfl, _⟩
  · exact ⟨_, _, _, rfl⟩
  · exact ⟨_, _, _, rfl⟩
theorem own_forms {w : World} {B t k n : Nat} {v : Value} {xs : List Value} (h : w.ownsRow B t k v n xs) : ∃ a c, v = .slice a n c := by
  rcases h.2 with ⟨rfl, rfl⟩ | ⟨g, cap, _, rfl, _⟩
  · exact ⟨_, _, rfl⟩
  · exact ⟨_, _, rfl⟩
theorem own_lt {w : World} {B t k n : Nat} {v : Value} {xs : List Value} (h : w.ownsRow B t k v n xs) {j : Nat} (hj : v.ownBlock = some j) : B ≤ j ∧ j < w.heap.size := h.lt j hj
theorem step_append_own {P : Program} {ops : Array Oper} {o : Oper} {a : Act} {w : World} {K : Act → World → Prop} {Q : Exit → Act → World → Prop} {E : Prop}
    (hg : o.guard = none) (s x : Operand) (t : TypeId) (hop : o.op = Op.call { callee := Callee.builtin Builtin.append, args := #[s, x], argTypes := #[t, t] })
    (base : Nat) (e : TypeId) (i : TypeInfo) (z : Value) (size bytes : Nat) (h1 : P.underlying t = some (.slice e)) (h2 : P.info? e = some i) (h3 : i.zero = some z) (h4 : i.size = size) (h5 : i.bytes = bytes) (h6 : z.cells.size = size) (h7 : 0 < size)
    (v : Value) (n : Nat) (xs : List Value) (hs : a.eval s = v) (hown : w.ownsRow base e size v n xs)
    (ad : Addr) (m c : Nat) (news : List Value) (hx : a.eval x = .slice (some ad) m c) (hn : news.length = m * size) (hc : ∀ j u, news[j]? = some u → w.cell? (ad.add j) = some u) (h1c : ∀ u ∈ news, u.oneCell' = true)
    (b1 : n + m ≤ maxLen) (b2 : (n + m) * bytes ≤ 140737488355328) (hb : base ≤ w.heap.size)
    (hK : ∀ v' w', w'.ownsRow base e size v' (n + m) (xs ++ news) → w.grownBy w' v.ownBlock → K (a.put o.dst v') w') :
    if Region.wanted o (yielded ops a.tmps) = true then Oper.wp P o a w K Q else E := by
  have hw : Region.wanted o (yielded ops a.tmps) = true := by simp [Region.wanted, hg]
  rw [if_pos hw]
  obtain ⟨v', w', hrun, r1, r2, _⟩ := run_append_own (P := P) w base t o.type e i z size bytes h1 h2 h3 h4 h5 h6 h7 v n xs hown ad m c news hn hc h1c b1 b2 hb
  unfold Oper.wp
  simp [execOp, hop, resolve, invoke, builtin, hs, hx, hrun, Result.andThen]
  exact hK v' w' r1 r2
theorem cell_at {w : World} {b : Nat} {cs : Array Value} {t : TypeId} {z : Nat × Nat} (h : w.heap[b]? = some (.cells cs t z)) (i : Nat) : w.cell? ⟨b, i, none⟩ = cs[i]? := by simp [World.cell?, h]
theorem take_snoc (L : List Tmb) {k : Nat} (hk : k < L.length) : L.take (k + 1) = L.take k ++ [L.getD k t0] := by
  rw [List.take_add_one, List.getElem?_eq_getElem hk, List.getD_eq_getElem?_getD, List.getElem?_eq_getElem hk]; rfl
theorem take_len (L : List Tmb) {k : Nat} (hk : k ≤ L.length) : (L.take k).length = k := by rw [List.length_take]; omega
end Gt
end Go.Proofs.Ytmlbmiegfeadjaa
