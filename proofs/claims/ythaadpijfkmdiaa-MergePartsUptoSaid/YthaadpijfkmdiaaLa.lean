/- Levels and tombs of files: plain mathematics, and memory. -/
import Derived.Test.YthaadpijfkmdiaaJb
namespace Go.Proofs.Ythaadpijfkmdiaa
open Go.RowKit
namespace La
open Jb

abbrev Inf := Int × Bool
def n0 : Inf := (0, false)
def lv (L : List Inf) (i : Nat) : Int := (L.getD i n0).1
def tm (L : List Inf) (i : Nat) : Bool := (L.getD i n0).2
/-- Four files side by side of one level below 4. -/
def Q (L : List Inf) (j : Nat) : Prop := j + 4 ≤ L.length ∧ lv L j < 4 ∧ lv L (j + 1) = lv L j ∧ lv L (j + 2) = lv L j ∧ lv L (j + 3) = lv L j
/-- The plan. -/
def Pl (L : List Inf) (a n l : Int) : Prop :=
  (∃ j : Nat, Q L j ∧ (∀ k, k < j → ¬ Q L k) ∧ a = j ∧ n = 4 ∧ l = lv L j + 1) ∨
  ((∀ k, ¬ Q L k) ∧ 2 ≤ L.length ∧ a = 0 ∧ n = L.length ∧ l = 4) ∨
  ((∀ k, ¬ Q L k) ∧ L.length = 1 ∧ tm L 0 = true ∧ a = 0 ∧ n = 1 ∧ l = lv L 0) ∨
  ((∀ k, ¬ Q L k) ∧ (L.length = 0 ∨ L.length = 1 ∧ tm L 0 = false) ∧ a = 0 ∧ n = 0 ∧ l = 0)
theorem Pl.one {L : List Inf} {a n l a' n' l' : Int} (h : Pl L a n l) (g : Pl L a' n' l') : a = a' ∧ n = n' ∧ l = l' := by
  rcases h with ⟨j, h1, h2, rfl, rfl, rfl⟩ | ⟨h1, h2, rfl, rfl, rfl⟩ | ⟨h1, h2, h3, rfl, rfl, rfl⟩ | ⟨h1, h2, rfl, rfl, rfl⟩ <;>
  rcases g with ⟨j', g1, g2, rfl, rfl, rfl⟩ | ⟨g1, g2, rfl, rfl, rfl⟩ | ⟨g1, g2, g3, rfl, rfl, rfl⟩ | ⟨g1, g2, rfl, rfl, rfl⟩
  · have h3 := h2 j'
    have g3 := g2 j
    rcases Nat.lt_trichotomy j j' with e | rfl | e
    · exact absurd h1 (g3 e)
    · exact ⟨rfl, rfl, rfl⟩
    · exact absurd g1 (h3 e)
  all_goals first
    | exact absurd h1 (g1 _)
    | exact absurd g1 (h1 _)
    | exact ⟨rfl, rfl, rfl⟩
    | (exfalso; omega)
    | (exfalso; rcases g2 with g2 | ⟨g2, g3⟩ <;> simp_all)
    | (exfalso; rcases h2 with h2 | ⟨h2, h4⟩ <;> simp_all)
/-- What the program's search has seen ahead of the file i. -/
def Seen (L : List Inf) (i b : Nat) : Prop := (∀ k, k + 4 ≤ i → ¬ Q L k) ∧ (i = 0 ∧ b = 0 ∨ b < i) ∧ (∀ k, b ≤ k → k < i → lv L k = lv L b) ∧ (b = 0 ∨ lv L (b - 1) ≠ lv L b)
theorem Seen.zero (L : List Inf) : Seen L 0 0 := ⟨fun k h => by omega, .inl ⟨rfl, rfl⟩, fun k h1 h2 => by omega, .inl rfl⟩
def nb (L : List Inf) (i b : Nat) : Nat := if lv L i ≠ lv L b then i else b
theorem nb_le {L : List Inf} {i b : Nat} (h : Seen L i b) : nb L i b ≤ i := by
  unfold nb
  rcases h.2.1 with ⟨rfl, rfl⟩ | h <;> split <;> omega
/-- Behind it: the place where what is like the file i begins. -/
theorem Seen.like {L : List Inf} {i b : Nat} (h : Seen L i b) : (∀ k, nb L i b ≤ k → k ≤ i → lv L k = lv L (nb L i b)) ∧ (nb L i b = 0 ∨ lv L (nb L i b - 1) ≠ lv L (nb L i b)) := by
  obtain ⟨_, h1, h2, h3⟩ := h
  unfold nb
  split
  case isTrue e =>
    refine ⟨fun k a c => by rw [show k = i by omega], ?_⟩
    rcases h1 with ⟨rfl, rfl⟩ | h1
    · exact .inl rfl
    · right
      by_cases hb : i - 1 = b
      · rw [hb]; exact fun h => e h.symm
      · rw [h2 (i - 1) (by omega) (by omega)]; exact fun h => e h.symm
  case isFalse e =>
    have e' : lv L i = lv L b := Classical.byContradiction e
    refine ⟨fun k a c => ?_, h3⟩
    by_cases hk : k = i
    · rw [hk, e']
    · exact h2 k a (by omega)
theorem Seen.found {L : List Inf} {i b : Nat} (h : Seen L i b) (hi : i < L.length) (h4 : i - nb L i b + 1 = 4) (hl : lv L i < 4) : Q L (nb L i b) ∧ (∀ k, k < nb L i b → ¬ Q L k) ∧ lv L (nb L i b) = lv L i := by
  obtain ⟨l1, l2⟩ := h.like
  have hle := nb_le h
  have e := l1 i hle (Nat.le_refl _)
  generalize nb L i b = c at *
  refine ⟨⟨by omega, by omega, l1 _ (by omega) (by omega), l1 _ (by omega) (by omega), l1 _ (by omega) (by omega)⟩, fun k hk => h.1 k (by omega), e.symm⟩
theorem Seen.next {L : List Inf} {i b : Nat} (h : Seen L i b) (hn : ¬ (i - nb L i b + 1 = 4 ∧ lv L i < 4)) : Seen L (i + 1) (nb L i b) := by
  obtain ⟨l1, l2⟩ := h.like
  have hle := nb_le h
  generalize nb L i b = c at *
  refine ⟨fun k hk hq => ?_, .inr (by omega), fun k a d => l1 k a (by omega), l2⟩
  by_cases hk4 : k + 4 ≤ i
  · exact h.1 k hk4 hq
  obtain ⟨q1, q2, q3, q4, q5⟩ := hq
  obtain rfl : i = k + 3 := by omega
  have ec : c ≤ k := by
    rcases l2 with rfl | l2
    · omega
    · refine Classical.byContradiction fun hc => l2 ?_
      have hc3 : c = k + 1 ∨ c = k + 2 ∨ c = k + 3 := by omega
      rcases hc3 with rfl | rfl | rfl
      · simp only [Nat.add_sub_cancel]; omega
      · rw [show k + 2 - 1 = k + 1 by omega]; omega
      · rw [show k + 3 - 1 = k + 2 by omega]; omega
  by_cases he : c = k
  · subst he; exact hn ⟨by omega, by omega⟩
  · have e0 := l1 k ec (by omega)
    have e1 := l1 (k + 3) (by omega) (by omega)
    have e9 : ∀ m, c ≤ m → m ≤ k + 3 → lv L m = lv L k := fun m a d => by rw [l1 m a d, ← e0]
    exact h.1 (k - 1) (by omega) ⟨by omega, by rw [e9 (k - 1) (by omega) (by omega)]; exact q2, by rw [e9 (k - 1) (by omega) (by omega), e9 (k - 1 + 1) (by omega) (by omega)], by rw [e9 (k - 1) (by omega) (by omega), e9 (k - 1 + 2) (by omega) (by omega)], by rw [e9 (k - 1) (by omega) (by omega), e9 (k - 1 + 3) (by omega) (by omega)]⟩
theorem Seen.none {L : List Inf} {b : Nat} (h : Seen L L.length b) : ∀ k, ¬ Q L k := fun k hk => h.1 k hk.1 hk

/-- A file's cells. -/
def Wi (x : Inf) : Prop := -9223372036854775808 ≤ x.1 ∧ x.1 ≤ 9223372036854775807
theorem n0_wi : Wi n0 := by unfold Wi n0; decide
theorem getD_wi {L : List Inf} (h : ∀ x ∈ L, Wi x) (i : Nat) : Wi (L.getD i n0) := by
  rw [List.getD_eq_getElem?_getD]
  by_cases hi : i < L.length
  · rw [List.getElem?_eq_getElem hi]; exact h _ (List.getElem_mem hi)
  · rw [List.getElem?_eq_none (by omega)]; exact n0_wi
def fc (x : Inf) : List Value := [.int .i64 x.1, .bool x.2]
def fcs (L : List Inf) : List Value := L.flatMap fc
theorem fcs_snoc (L : List Inf) (x : Inf) : fcs (L ++ [x]) = fcs L ++ fc x := by simp [fcs]
theorem fcs_app (L M : List Inf) : fcs (L ++ M) = fcs L ++ fcs M := by simp [fcs]
theorem fcs_len (L : List Inf) : (fcs L).length = L.length * 2 := by
  induction L with
  | nil => rfl
  | cons v r ih => simp only [fcs, List.flatMap_cons, List.length_append, List.length_cons] at *; rw [ih]; simp [fc]; omega
theorem fcs_get (L : List Inf) (i j : Nat) (hi : i < L.length) (hj : j < 2) : (fcs L)[i * 2 + j]? = (fc (L.getD i n0))[j]? := by
  induction L generalizing i with
  | nil => simp at hi
  | cons v r ih =>
    have e : fcs (v :: r) = fc v ++ fcs r := rfl
    have hl : (fc v).length = 2 := rfl
    rw [e]
    cases i with
    | zero => rw [List.getElem?_append_left (by omega)]; simp
    | succ i =>
      rw [List.getElem?_append_right (by omega), hl, show (i + 1) * 2 + j - 2 = i * 2 + j from by omega, ih i (by simpa using hi)]
      simp [List.getD_eq_getElem?_getD]
theorem fc_one (x : Inf) : ∀ u ∈ fc x, u.oneCell' = true := by
  intro u hu
  simp only [fc, List.mem_cons, List.not_mem_nil, or_false] at hu
  rcases hu with rfl | rfl <;> rfl
theorem fcs_one (L : List Inf) : ∀ u ∈ fcs L, u.oneCell' = true := by
  intro u hu
  simp only [fcs, List.mem_flatMap] at hu
  obtain ⟨x, _, hx⟩ := hu
  exact fc_one x u hx
def FAt (w : World) (b o : Nat) (x : Inf) : Prop := w.cell? ⟨b, o, none⟩ = some (.int .i64 x.1) ∧ w.cell? ⟨b, o + 1, none⟩ = some (.bool x.2)
theorem FAt.of_block {w w' : World} {b o : Nat} {v : Inf} (h : FAt w b o v) (e : w'.heap[b]? = w.heap[b]?) : FAt w' b o v :=
  ⟨(World.cell?_of_block e).trans h.1, (World.cell?_of_block e).trans h.2⟩
/-- A slice of these files. -/
def Fi (w : World) (v : Value) (L : List Inf) : Prop :=
  (∀ x ∈ L, Wi x) ∧ ((∃ a c, v = .slice a 0 c ∧ L = []) ∨
    ∃ b off c, v = .slice (some ⟨b, off, none⟩) L.length c ∧ L.length ≤ c ∧ b < w.heap.size ∧ ∀ i, i < L.length → FAt w b (off + i * 2) (L.getD i n0))
theorem Fi.below {w w' : World} {v : Value} {L : List Inf} (h : Fi w v L) (b : Below w.heap.size w w') : Fi w' v L := by
  obtain ⟨h0, h⟩ := h
  refine ⟨h0, ?_⟩
  rcases h with h | ⟨q, off, c, h1, h2, h3, h4⟩
  · exact .inl h
  · exact .inr ⟨q, off, c, h1, h2, Nat.lt_of_lt_of_le h3 b.size, fun i hi => (h4 i hi).of_block (b.block q h3)⟩
theorem Fi.get {w : World} {v : Value} {L : List Inf} (h : Fi w v L) : ∃ a c, v = .slice a L.length c ∧ ∀ i, i < L.length → ∃ b off, a = some ⟨b, off, none⟩ ∧ L.length ≤ c ∧ b < w.heap.size ∧ ∀ y, Below w.heap.size w y → FAt y b (off + i * 2) (L.getD i n0) := by
  rcases h.2 with ⟨a, c, rfl, rfl⟩ | ⟨b, off, c, rfl, h1, h2, h3⟩
  · exact ⟨a, c, rfl, fun i hi => by simp at hi⟩
  · exact ⟨_, c, rfl, fun i hi => ⟨b, off, rfl, h1, h2, fun y hy => (h3 i hi).of_block (hy.block b h2)⟩⟩
theorem fi_own {w : World} {B t : Nat} {v : Value} {L : List Inf} (h : w.ownsRow B t 2 v L.length (fcs L)) (hw : ∀ x ∈ L, Wi x) : Fi w v L := by
  refine ⟨hw, ?_⟩
  obtain ⟨hl, ⟨rfl, h0⟩ | ⟨g, c, cur, rfl, hg, hh, hnc, hcm, hsz, htk⟩⟩ := h
  · exact .inl ⟨none, 0, rfl, List.length_eq_zero_iff.1 h0⟩
  · have hgl : g < w.heap.size := by rw [Array.getElem?_eq_some_iff] at hh; exact hh.1
    have key : ∀ i j u, i < L.length → j < 2 → (fc (L.getD i n0))[j]? = some u → w.cell? ⟨g, 0 + i * 2 + j, none⟩ = some u := by
      intro i j u hi hj hu
      have ho : w.ownsRow B t 2 (.slice (some ⟨g, 0, none⟩) L.length c) L.length (fcs L) := ⟨hl, .inr ⟨g, c, cur, rfl, hg, hh, hnc, hcm, hsz, htk⟩⟩
      have := ho.cells rfl (i * 2 + j) u (by rw [fcs_get L i j hi hj]; exact hu)
      rw [show 0 + i * 2 + j = 0 + (i * 2 + j) from by omega]
      unfold Addr.add at this
      split at this
      · rename_i e; rw [e] at *; exact this
      · exact this
    exact .inr ⟨g, 0, c, rfl, hnc, hgl, fun i hi => ⟨key i 0 _ hi (by decide) rfl, key i 1 _ hi (by decide) rfl⟩⟩
theorem info37 : (Try.prog.info? 37).map (fun i => (i.zero, i.size, i.bytes)) = some (some (.agg #[.int .i64 0, .bool false]), 2, 16) := by kernel_rfl
theorem take_snoc (L : List Inf) {k : Nat} (hk : k < L.length) : L.take (k + 1) = L.take k ++ [L.getD k n0] := by
  rw [List.take_add_one, List.getElem?_eq_getElem hk, List.getD_eq_getElem?_getD, List.getElem?_eq_getElem hk]; rfl
theorem own_formsN {w : World} {B t k n : Nat} {v : Value} {xs : List Value} (h : w.ownsRow B t k v n xs) : ∃ a m c, v = .slice a m c := by
  rcases h.2 with ⟨rfl, rfl⟩ | ⟨g, cap, _, rfl, _⟩
  · exact ⟨_, _, _, rfl⟩
  · exact ⟨_, _, _, rfl⟩
theorem own_forms {w : World} {B t k n : Nat} {v : Value} {xs : List Value} (h : w.ownsRow B t k v n xs) : ∃ a c, v = .slice a n c := by
  rcases h.2 with ⟨rfl, rfl⟩ | ⟨g, cap, _, rfl, _⟩
  · exact ⟨_, _, rfl⟩
  · exact ⟨_, _, rfl⟩
theorem own_lt {w : World} {B t k n : Nat} {v : Value} {xs : List Value} (h : w.ownsRow B t k v n xs) {j : Nat} (hj : v.ownBlock = some j) : B ≤ j ∧ j < w.heap.size := h.lt j hj
theorem step_append_own {P : Program} {ops : Array Oper} {o : Oper} {a : Act} {w : World} {K : Act → World → Prop} {Q : Exit → Act → World → Prop} {E : Prop}
    (hg : o.guard = none) (s x : Operand) (t : TypeId) (hop : o.op = Op.call { callee := Callee.builtin Builtin.append, args := #[s, x], argTypes := #[t, t] })
    (base : Nat) (e : TypeId) (i : TypeInfo) (z : Value) (size bytes : Nat) (h1 : P.underlying t = some (.slice e)) (h2 : P.info? e = some i) (h3 : i.zero = some z) (h4 : i.size = size) (h5 : i.bytes = bytes) (h6 : z.cells.size = size) (h7 : 0 < size)
    (v : Value) (n : Nat) (xs : List Value) (hs : a.eval s = v) (hown : w.ownsRow base e size v n xs)
    (ad : Addr) (m c : Nat) (news : List Value) (hx : a.eval x = .slice (some ad) m c) (hn : news.length = m * size) (hc : ∀ j u, news[j]? = some u → w.cell? (ad.add j) = some u) (h1c : ∀ u ∈ news, u.oneCell' = true)
    (b1 : n + m ≤ maxLen) (b2 : (n + m) * bytes ≤ 140737488355328) (hb : base ≤ w.heap.size)
    (hK : ∀ v' w', w'.ownsRow base e size v' (n + m) (xs ++ news) → w.grownBy w' v.ownBlock → K (a.put o.dst v') w') :
    if Region.wanted o (yielded ops a.tmps) = true then Oper.wp P o a w K Q else E := by
  have hw : Region.wanted o (yielded ops a.tmps) = true := by simp [Region.wanted, hg]
  rw [if_pos hw]
  obtain ⟨v', w', hrun, r1, r2, _⟩ := run_append_own (P := P) w base t o.type e i z size bytes h1 h2 h3 h4 h5 h6 h7 v n xs hown ad m c news hn hc h1c b1 b2 hb
  unfold Oper.wp
  simp [execOp, hop, resolve, invoke, builtin, hs, hx, hrun, Result.andThen]
  exact hK v' w' r1 r2
theorem cell_at {w : World} {b : Nat} {cs : Array Value} {t : TypeId} {z : Nat × Nat} (h : w.heap[b]? = some (.cells cs t z)) (i : Nat) : w.cell? ⟨b, i, none⟩ = cs[i]? := by simp [World.cell?, h]
theorem bdn {B : Nat} {a w : World} (h : Below B a w) (n : Nat) : Below B a (w.drewN n) := ⟨h.os, h.tape, h.output, h.size, h.block⟩
end La
end Go.Proofs.Ythaadpijfkmdiaa
