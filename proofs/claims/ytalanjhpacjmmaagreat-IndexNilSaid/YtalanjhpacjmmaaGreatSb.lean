/- Series in memory. -/
import Derived.Test.YtalanjhpacjmmaaGreatJb
import Derived.Test.YtalanjhpacjmmaaGreatSa
namespace Go.Proofs.YtalanjhpacjmmaaGreat
set_option maxRecDepth 100000
open Go.RowKit
namespace Sb
open Jb Sa

def t0 : Tg := (⟨#[]⟩, ⟨#[]⟩)
def tc (x : Tg) : List Value := [.string x.1, .string x.2]
def ta (x : Tg) : Value := .agg #[.string x.1, .string x.2]
def tcs (L : List Tg) : List Value := L.flatMap tc
theorem tcs_snoc (L : List Tg) (x : Tg) : tcs (L ++ [x]) = tcs L ++ tc x := by simp [tcs]
theorem tcs_len (L : List Tg) : (tcs L).length = L.length * 2 := by
  induction L with
  | nil => rfl
  | cons v r ih => simp only [tcs, List.flatMap_cons, List.length_append, List.length_cons] at *; rw [ih]; simp [tc]; omega
theorem tcs_get (L : List Tg) (i j : Nat) (hi : i < L.length) (hj : j < 2) : (tcs L)[i * 2 + j]? = (tc (L.getD i t0))[j]? := by
  induction L generalizing i with
  | nil => simp at hi
  | cons v r ih =>
    have e : tcs (v :: r) = tc v ++ tcs r := rfl
    have hl : (tc v).length = 2 := rfl
    rw [e]
    cases i with
    | zero => rw [List.getElem?_append_left (by omega)]; simp
    | succ i =>
      rw [List.getElem?_append_right (by omega), hl, show (i + 1) * 2 + j - 2 = i * 2 + j from by omega, ih i (by simpa using hi)]
      simp [List.getD_eq_getElem?_getD]
theorem tc_one (x : Tg) : ∀ u ∈ tc x, u.oneCell' = true := by
  intro u hu
  simp only [tc, List.mem_cons, List.not_mem_nil, or_false] at hu
  rcases hu with rfl | rfl <;> rfl
/-- The two cells of the tag at the place o. -/
def TAt (w : World) (b o : Nat) (x : Tg) : Prop := w.cell? ⟨b, o, none⟩ = some (.string x.1) ∧ w.cell? ⟨b, o + 1, none⟩ = some (.string x.2)
theorem TAt.of_block {w w' : World} {b o : Nat} {v : Tg} (h : TAt w b o v) (e : w'.heap[b]? = w.heap[b]?) : TAt w' b o v :=
  ⟨(World.cell?_of_block e).trans h.1, (World.cell?_of_block e).trans h.2⟩
/-- A slice of these tags. -/
def Ti (w : World) (v : Value) (L : List Tg) : Prop :=
  (∃ a c, v = .slice a 0 c ∧ L = []) ∨
    ∃ b off c, v = .slice (some ⟨b, off, none⟩) L.length c ∧ L.length ≤ c ∧ b < w.heap.size ∧ ∀ i, i < L.length → TAt w b (off + i * 2) (L.getD i t0)
theorem Ti.forms {w : World} {v : Value} {L : List Tg} (h : Ti w v L) : ∃ a c, v = .slice a L.length c := by
  rcases h with ⟨a, c, rfl, rfl⟩ | ⟨b, off, c, rfl, _⟩
  · exact ⟨a, c, rfl⟩
  · exact ⟨_, _, rfl⟩
theorem Ti.below {w w' : World} {v : Value} {L : List Tg} (h : Ti w v L) (b : Below w.heap.size w w') : Ti w' v L := by
  rcases h with h | ⟨q, off, c, h1, h2, h3, h4⟩
  · exact .inl h
  · exact .inr ⟨q, off, c, h1, h2, Nat.lt_of_lt_of_le h3 b.size, fun i hi => (h4 i hi).of_block (b.block q h3)⟩
theorem Ti.drewN {w : World} {v : Value} {L : List Tg} (h : Ti w v L) (n : Nat) : Ti (w.drewN n) v L := h
/-- Its elements, in every world behind. -/
theorem Ti.get {w : World} {v : Value} {L : List Tg} (h : Ti w v L) : ∃ a c, v = .slice a L.length c ∧ ∀ i, i < L.length → ∃ b off, a = some ⟨b, off, none⟩ ∧ L.length ≤ c ∧ b < w.heap.size ∧ ∀ y, Below w.heap.size w y → TAt y b (off + i * 2) (L.getD i t0) := by
  rcases h with ⟨a, c, rfl, rfl⟩ | ⟨b, off, c, rfl, h1, h2, h3⟩
  · exact ⟨a, c, rfl, fun i hi => by simp at hi⟩
  · exact ⟨_, c, rfl, fun i hi => ⟨b, off, rfl, h1, h2, fun y hy => (h3 i hi).of_block (hy.block b h2)⟩⟩
theorem ti_own {w : World} {B t : Nat} {v : Value} {L : List Tg} (h : w.ownsRow B t 2 v L.length (tcs L)) : Ti w v L := by
  obtain ⟨hl, ⟨rfl, h0⟩ | ⟨g, c, cur, rfl, hg, hh, hnc, hcm, hsz, htk⟩⟩ := h
  · exact .inl ⟨none, 0, rfl, List.length_eq_zero_iff.1 h0⟩
  · have hgl : g < w.heap.size := by rw [Array.getElem?_eq_some_iff] at hh; exact hh.1
    have key : ∀ i j u, i < L.length → j < 2 → (tc (L.getD i t0))[j]? = some u → w.cell? ⟨g, 0 + i * 2 + j, none⟩ = some u := by
      intro i j u hi hj hu
      have ho : w.ownsRow B t 2 (.slice (some ⟨g, 0, none⟩) L.length c) L.length (tcs L) := ⟨hl, .inr ⟨g, c, cur, rfl, hg, hh, hnc, hcm, hsz, htk⟩⟩
      have := ho.cells rfl (i * 2 + j) u (by rw [tcs_get L i j hi hj]; exact hu)
      rw [show 0 + i * 2 + j = 0 + (i * 2 + j) from by omega]
      unfold Addr.add at this
      split at this
      · rename_i e; rw [e] at *; exact this
      · exact this
    exact .inr ⟨g, 0, c, rfl, hnc, hgl, fun i hi => ⟨key i 0 _ hi (by decide) rfl, key i 1 _ hi (by decide) rfl⟩⟩
theorem info37 : (Tryz.prog.info? 36).map (fun i => (i.zero, i.size, i.bytes)) = some (some (.agg #[.string ⟨#[]⟩, .string ⟨#[]⟩]), 2, 32) := by kernel_rfl
theorem own_forms {w : World} {B t k n : Nat} {v : Value} {xs : List Value} (h : w.ownsRow B t k v n xs) : ∃ a c, v = .slice a n c := by
  rcases h.2 with ⟨rfl, rfl⟩ | ⟨g, cap, _, rfl, _⟩
  · exact ⟨_, _, rfl⟩
  · exact ⟨_, _, rfl⟩
theorem own_lt {w : World} {B t k n : Nat} {v : Value} {xs : List Value} (h : w.ownsRow B t k v n xs) {j : Nat} (hj : v.ownBlock = some j) : B ≤ j ∧ j < w.heap.size := h.lt j hj
theorem step_append_own {P : Program} {ops : Array Oper} {o : Oper} {a : Act} {w : World} {K : Act → World → Prop} {Q : Exit → Act → World → Prop} {E : Prop}
    (hg : o.guard = none) (s x : Operand) (t : TypeId) (hop : o.op = Op.call { callee := Callee.builtin Builtin.append, args := #[s, x], argTypes := #[t, t] })
    (base : Nat) (e : TypeId) (i : TypeInfo) (z : Value) (size bytes : Nat) (h1 : P.underlying t = some (.slice e)) (h2 : P.info? e = some i) (h3 : i.zero = some z) (h4 : i.size = size) (h5 : i.bytes = bytes) (h6 : z.cells.size = size) (h7 : 0 < size)
    (v : Value) (n : Nat) (xs : List Value) (hs : a.eval s = v) (hown : w.ownsRow base e size v n xs)
    (ad : Addr) (m c : Nat) (news : List Value) (hx : a.eval x = .slice (some ad) m c) (hn : news.length = m * size) (hc : ∀ j u, news[j]? = some u → w.cell? (ad.add j) = some u) (h1c : ∀ u ∈ news, u.oneCell' = true)
    (b1 : n + m ≤ maxLen) (b2 : (n + m) * bytes ≤ 140737488355328) (hb : base ≤ w.heap.size)
    (hK : ∀ v' w', w'.ownsRow base e size v' (n + m) (xs ++ news) → w.grownBy w' v.ownBlock → K (a.put o.dst v') w') :
    if Region.wanted o (yielded ops a.tmps) = true then Oper.wp P o a w K Q else E := by
  have hw : Region.wanted o (yielded ops a.tmps) = true := by simp [Region.wanted, hg]
  rw [if_pos hw]
  obtain ⟨v', w', hrun, r1, r2, _⟩ := run_append_own (P := P) w base t o.type e i z size bytes h1 h2 h3 h4 h5 h6 h7 v n xs hown ad m c news hn hc h1c b1 b2 hb
  unfold Oper.wp
  simp [execOp, hop, resolve, invoke, builtin, hs, hx, hrun, Result.andThen]
  exact hK v' w' r1 r2
theorem cell_at {w : World} {b : Nat} {cs : Array Value} {t : TypeId} {z : Nat × Nat} (h : w.heap[b]? = some (.cells cs t z)) (i : Nat) : w.cell? ⟨b, i, none⟩ = cs[i]? := by simp [World.cell?, h]
theorem take_snoc (L : List Tg) {k : Nat} (hk : k < L.length) : L.take (k + 1) = L.take k ++ [L.getD k t0] := by
  rw [List.take_add_one, List.getElem?_eq_getElem hk, List.getD_eq_getElem?_getD, List.getElem?_eq_getElem hk]; rfl
theorem take_len (L : List Tg) {k : Nat} (hk : k ≤ L.length) : (L.take k).length = k := by rw [List.length_take]; omega

/-! Strings. -/
def by8 (s : ByteArray) (k : Nat) : Nat := (s.data.toList.getD k 0).toNat
theorem by8_lt (s : ByteArray) (k : Nat) : by8 s k < 256 := UInt8.toNat_lt _
def good (s : ByteArray) (k : Nat) : Bool := decide (32 ≤ by8 s k) && decide (by8 s k ≠ 127)
/-- A name. -/
def isNm (s : ByteArray) : Bool := decide (1 ≤ s.size ∧ s.size ≤ 64 ∧ ∀ k, k < s.size → good s k = true)
theorem isNm_size {s : ByteArray} (h : isNm s = true) : s.size ≤ 64 := (of_decide_eq_true h).2.1
theorem idx (w : World) (s : ByteArray) (k : Nat) (hk : k < s.size) : (Instr.index 9 (.string s) (.int .i64 (k : Nat))).run Tryz.prog w = .ok (.int .u8 (by8 s k : Nat)) w := by
  rw [run_index_string w 9 s .i64 k Tryz.underlying9, dif_pos ⟨by omega, by omega⟩]
  have h1 : k < s.data.toList.length := by simpa using hk
  have e : by8 s k = (s[k]'hk).toNat := by
    unfold by8
    rw [List.getD_eq_getElem?_getD, List.getElem?_eq_getElem h1]
    simp
    rfl
  rw [e]
  rfl
theorem drop_cons (s : ByteArray) (k : Nat) (hk : k < s.size) : ∃ c, (bl s).drop k = c :: (bl s).drop (k + 1) ∧ c.toNat = by8 s k ∧ (bl s).take (k + 1) = (bl s).take k ++ [c] := by
  have h1 : k < (bl s).length := by rw [bl_len]; exact hk
  refine ⟨(bl s)[k], List.drop_eq_getElem_cons h1, ?_, ?_⟩
  · unfold by8
    have : k < s.data.toList.length := h1
    rw [List.getD_eq_getElem?_getD, List.getElem?_eq_getElem this]
    rfl
  · rw [List.take_add_one, List.getElem?_eq_getElem h1]; rfl

theorem toList_ne {S T : ByteArray} (h : S ≠ T) : (S.toList == T.toList) = false := by
  cases e : (S.toList == T.toList)
  · rfl
  · exfalso
    have e2 : S.toList = T.toList := by simpa using e
    rw [ByteArray.toList_eq, ByteArray.toList_eq] at e2
    exact h (ByteArray.ext (Array.toList_inj.1 e2))
theorem nil_no {f : ByteArray} (h : f ≠ ⟨#[]⟩) : f.toList.isEmpty = false ∧ (f.toList = []) = False := by
  have h2 : ¬ f.toList = [] := fun e => by
    have := toList_ne h
    rw [e] at this
    simp at this
  refine ⟨?_, eq_false h2⟩
  cases hl : f.toList with
  | nil => exact absurd hl h2
  | cons _ _ => rfl
theorem nil_of {f : ByteArray} (h : f.size = 0) : f = ⟨#[]⟩ := by
  have : bl f = bl (ByteArray.mk #[]) := by
    have e : (bl f).length = 0 := by rw [bl_len]; exact h
    rw [List.length_eq_zero_iff.1 e]; rfl
  exact bl_inj this
theorem beq_eq (a b : ByteArray) : (a.toList == b.toList) = decide (a = b) := by
  by_cases h : a = b
  · subst h; simp
  · rw [toList_ne h, decide_eq_false h]
/-! Formed series. -/
/-- Is this Key below that one? -/
def lt (a b : ByteArray) : Bool := Op.bytesLess a.toList b.toList
def tagOk (L : List Tg) (i : Nat) : Bool := isNm (L.getD i t0).1 && isNm (L.getD i t0).2 && (decide (i = 0) || lt (L.getD (i - 1) t0).1 (L.getD i t0).1)
def fm (s : Sr) : Bool := isNm s.1 && decide (s.2.length ≤ 8) && decide (∀ i, i < s.2.length → tagOk s.2 i = true)
theorem fm_len {s : Sr} (h : fm s = true) : (txt s).length ≤ 2192 := by
  unfold fm at h
  simp only [Bool.and_eq_true, decide_eq_true_eq] at h
  obtain ⟨⟨h1, h2⟩, h3⟩ := h
  refine txt_len s (isNm_size h1) h2 fun x hx => ?_
  obtain ⟨i, hi, rfl⟩ := List.getElem_of_mem hx
  have := h3 i hi
  unfold tagOk at this
  simp only [Bool.and_eq_true] at this
  obtain ⟨⟨a, b⟩, _⟩ := this
  rw [List.getD_eq_getElem?_getD, List.getElem?_eq_getElem hi] at a b
  exact ⟨isNm_size a, isNm_size b⟩
end Sb
end Go.Proofs.YtalanjhpacjmmaaGreat
