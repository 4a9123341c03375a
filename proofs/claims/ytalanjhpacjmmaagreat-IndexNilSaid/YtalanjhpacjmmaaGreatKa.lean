/- A map with texts as keys, by what it has: whatever its values are. -/
import Derived.Test.YtalanjhpacjmmaaGreatJb
import Derived.Sort.KeysCollected
namespace Go.Proofs.YtalanjhpacjmmaaGreat
set_option maxRecDepth 100000
open Go.RowKit Go.Maps Go.ChangeMaps Go.MapKept Go.Sort
namespace Ka
open Jb

theorem law : Keyed Tryz.prog 9 := string_keyed Tryz.underlying9
/-- Any value is read as itself. -/
def R : Value → Option (DataW Value × List MemPlace) := fun v => some (.held v, [])
theorem R_inv {v x : Value} {ps : List MemPlace} (h : R v = some (.held x, ps)) : v = x := by
  unfold R at h
  simp at h
  exact h.1
/-- A map's type t, its element's type and zero value. -/
structure Mt (t e : TypeId) (z : Value) : Prop where
  ht : Tryz.prog.underlying t = some (.map 9 e)
  hz : ∀ w : World, (zeroValue e).run Tryz.prog w = .ok z w
def key (s : ByteArray) : Lit := .string s.data.toList
theorem keyOf_s {s : ByteArray} (h : s.size ≤ maxLen) : keyOf Tryz.prog 9 (.string s) = some (key s) := WideMaps.keyOf_string_mk Tryz.underlying9 h
theorem key_inj {s s' : ByteArray} (h : key s = key s') : s = s' := by
  unfold key at h
  injection h with h
  have h2 : s.data = s'.data := Array.toList_inj.1 h
  exact ByteArray.ext h2
abbrev Fun := ByteArray → Option Value
def upd (F : Fun) (s : ByteArray) (v : Option Value) : Fun := fun x => if x = s then v else F x
theorem upd_same (F : Fun) (s : ByteArray) (v : Option Value) : upd F s v s = v := if_pos rfl
theorem upd_other {F : Fun} {s x : ByteArray} {v : Option Value} (h : x ≠ s) : upd F s v x = F x := if_neg h
/-- Block m is a map of at most n entries: at s it has F s. -/
def Is (w : World) (m n : Nat) (F : Fun) : Prop :=
  ∃ D : DataW Value, w.ownsMap Tryz.prog 9 R m n D ∧ (∀ s, F s ≠ none → s.size ≤ maxLen) ∧ (∀ l, Maps.has D l = true → ∃ s, F s ≠ none ∧ l = key s) ∧
    ∀ s, (F s = none → Maps.has D (key s) = false) ∧ (∀ q, F s = some q → Maps.has D (key s) = true ∧ ∀ zd, D.atKey (key s) zd = .held q)

theorem Is.lt {w : World} {m n : Nat} {F : Fun} (h : Is w m n F) : m < w.heap.size := by obtain ⟨D, h, _⟩ := h; exact h.lt
theorem Is.of_block {w w' : World} {m n : Nat} {F : Fun} (h : Is w m n F) (e : w'.heap[m]? = w.heap[m]?) : Is w' m n F := by
  obtain ⟨D, ⟨es, clock, hb, r⟩, h2⟩ := h
  exact ⟨D, ⟨es, clock, e.trans hb, r⟩, h2⟩
theorem Is.mono {w : World} {m n n' : Nat} {F : Fun} (h : Is w m n F) (hn : n ≤ n') : Is w m n' F := by
  obtain ⟨D, h1, h2⟩ := h
  exact ⟨D, h1.mono hn, h2⟩
theorem Is.ext {w : World} {m n : Nat} {F F' : Fun} (h : Is w m n F) (e : ∀ k, F k = F' k) : Is w m n F' := by
  obtain rfl : F = F' := funext e
  exact h
theorem made (w : World) : Is (w.alloc (.map #[] 0)) w.heap.size 0 (fun _ => none) :=
  ⟨.map [], World.ownsMap_made _ _ _ _, fun s h => absurd rfl h, fun l h => by simp [Maps.has] at h, fun k => ⟨fun _ => rfl, fun q h => by cases h⟩⟩
/-- What a look-up answers. -/
theorem Is.look {t e : TypeId} {z : Value} (M : Mt t e z) {w : World} {m n : Nat} {F : Fun} (h : Is w m n F) {s : ByteArray} (hs : s.size ≤ maxLen) :
    (Instr.lookup t (.map (some m)) (.string s) false).run Tryz.prog w = .ok ((F s).getD z) w := by
  obtain ⟨D, h1, _, _, h2⟩ := h
  obtain ⟨v, ps, hrun, hv⟩ := h1.lookup law M.ht (M.hz w) (zd := .held z) (zp := []) rfl (keyOf_s hs)
  obtain ⟨h3, h4⟩ := h2 s
  cases hF : F s with
  | none =>
    have h6 := Maps.atKey_of_not_has (h3 hF) (.held z)
    rw [h6] at hv
    rw [R_inv hv] at hrun
    exact hrun
  | some q =>
    obtain ⟨h5, h6⟩ := h4 q hF
    rw [h6] at hv
    rw [R_inv hv] at hrun
    exact hrun
theorem Is.look_ok {t e : TypeId} {z : Value} (M : Mt t e z) {w : World} {m n : Nat} {F : Fun} (h : Is w m n F) {s : ByteArray} (hs : s.size ≤ maxLen) :
    (Instr.lookup t (.map (some m)) (.string s) true).run Tryz.prog w = .ok (.tuple #[(F s).getD z, .bool (F s).isSome]) w := by
  obtain ⟨D, h1, _, _, h2⟩ := h
  obtain ⟨v, ps, hrun, hv⟩ := h1.look_ok law M.ht (M.hz w) (zd := .held z) (zp := []) rfl (keyOf_s hs)
  obtain ⟨h3, h4⟩ := h2 s
  cases hF : F s with
  | none =>
    have h6 := Maps.atKey_of_not_has (h3 hF) (.held z)
    rw [h6] at hv
    rw [R_inv hv, h3 hF] at hrun
    exact hrun
  | some q =>
    obtain ⟨h5, h6⟩ := h4 q hF
    rw [h6] at hv
    rw [R_inv hv, h5] at hrun
    exact hrun
theorem look_nil {t e : TypeId} {z : Value} (M : Mt t e z) (w : World) {s : ByteArray} (hs : s.size ≤ maxLen) : (Instr.lookup t (.map none) (.string s) false).run Tryz.prog w = .ok z w := by
  have := Maps.look_nil (P := Tryz.prog) (t := t) (w := w) false law M.ht (M.hz w) (keyOf_s hs)
  simpa using this
theorem look_nil_ok {t e : TypeId} {z : Value} (M : Mt t e z) (w : World) {s : ByteArray} (hs : s.size ≤ maxLen) : (Instr.lookup t (.map none) (.string s) true).run Tryz.prog w = .ok (.tuple #[z, .bool false]) w := by
  have := Maps.look_nil (P := Tryz.prog) (t := t) (w := w) true law M.ht (M.hz w) (keyOf_s hs)
  simpa using this
/-- What a store leaves. -/
theorem Is.put {t e : TypeId} {z : Value} (M : Mt t e z) {w : World} {m n : Nat} {F : Fun} (h : Is w m n F) {s : ByteArray} (v : Value) (hs : s.size ≤ maxLen) (hn : n < maxLen) :
    ∃ w', (Instr.mapUpdate t (.map (some m)) (.string s) v).run Tryz.prog w = .ok () w' ∧ Is w' m (n + 1) (upd F s (some v)) ∧ w.mapTurned w' m := by
  obtain ⟨D, h1, h64, hk, h2⟩ := h
  obtain ⟨w', hrun, ho, ht⟩ := h1.store law M.ht hn (keyOf_s hs) (val := v) (d := .held v) (ps := []) rfl
  have hm := h1.isMap
  have hkl : WideAt.IsKeyLit (key s) := law.key (keyOf_s hs)
  refine ⟨w', hrun, ⟨_, ho, fun x hx => ?_, fun l hl => ?_, fun x => ⟨fun hF => ?_, fun q hF => ?_⟩⟩, ht⟩
  · by_cases e : x = s
    · rw [e]; exact hs
    · rw [upd_other e] at hx; exact h64 x hx
  · by_cases e : l = key s
    · exact ⟨s, by rw [upd_same]; simp, e⟩
    · rw [Maps.has_put_other e] at hl
      obtain ⟨x, hx, rfl⟩ := hk l hl
      have hxs : x ≠ s := fun e' => e (by rw [e'])
      exact ⟨x, by rw [upd_other hxs]; exact hx, rfl⟩
  · by_cases e : x = s
    · rw [e, upd_same] at hF; cases hF
    · rw [upd_other e] at hF
      rw [Maps.has_put_other (fun e' => e (key_inj e'))]
      exact (h2 x).1 hF
  · by_cases e : x = s
    · rw [e, upd_same] at hF
      cases hF
      subst e
      exact ⟨Maps.has_put_same hm hkl _, fun zd => Maps.atKey_put_same hm hkl _ _⟩
    · rw [upd_other e] at hF
      refine ⟨?_, fun zd => ?_⟩
      · rw [Maps.has_put_other (fun e' => e (key_inj e'))]
        exact ((h2 x).2 q hF).1
      · rw [Maps.atKey_put_other (fun e' => e (key_inj e'))]
        exact ((h2 x).2 q hF).2 zd
/-- What a delete leaves. -/
theorem Is.del {t e : TypeId} {z : Value} (M : Mt t e z) {w : World} {m n : Nat} {F : Fun} (h : Is w m n F) {s : ByteArray} (hs : s.size ≤ maxLen) :
    ∃ w', (∀ ty, (Builtin.delete_ #[t, 9] ty #[.map (some m), .string s]).run Tryz.prog w = .ok (.tuple #[]) w') ∧ Is w' m n (upd F s none) ∧ w.mapTurned w' m := by
  obtain ⟨D, h1, h64, hk, h2⟩ := h
  obtain ⟨w', hrun, ho, ht⟩ := h1.drop law M.ht (keyOf_s hs) 0
  refine ⟨w', fun ty => ?_, ⟨_, ho, fun x hx => ?_, fun l hl => ?_, fun x => ⟨fun hF => ?_, fun q hF => ?_⟩⟩, ht⟩
  · rw [← hrun]; rfl
  · by_cases e : x = s
    · rw [e, upd_same] at hx; exact absurd rfl hx
    · rw [upd_other e] at hx; exact h64 x hx
  · by_cases e : l = key s
    · subst e; rw [Maps.has_del_same] at hl; cases hl
    · rw [Maps.has_del_other e] at hl
      obtain ⟨x, hx, rfl⟩ := hk l hl
      have hxs : x ≠ s := fun e' => e (by rw [e'])
      exact ⟨x, by rw [upd_other hxs]; exact hx, rfl⟩
  · by_cases e : x = s
    · subst e; exact Maps.has_del_same
    · rw [upd_other e] at hF
      rw [Maps.has_del_other (fun e' => e (key_inj e'))]
      exact (h2 x).1 hF
  · by_cases e : x = s
    · rw [e, upd_same] at hF; cases hF
    · rw [upd_other e] at hF
      refine ⟨?_, fun zd => ?_⟩
      · rw [Maps.has_del_other (fun e' => e (key_inj e'))]
        exact ((h2 x).2 q hF).1
      · rw [Maps.atKey_del_other (fun e' => e (key_inj e'))]
        exact ((h2 x).2 q hF).2 zd
theorem drop_nil {t e : TypeId} {z : Value} (M : Mt t e z) (w : World) {s : ByteArray} (hs : s.size ≤ maxLen) (ty : TypeId) : (Builtin.delete_ #[t, 9] ty #[.map none, .string s]).run Tryz.prog w = .ok (.tuple #[]) w :=
  Maps.drop_nil (P := Tryz.prog) (w := w) law M.ht (keyOf_s hs) ty
/-- 'delete(m, k)' at the operation. -/
theorem wpList_del {w w' : World} {ops : Array Oper} {rest : List Oper} {o : Oper} {a : Act} {Q : Exit → Act → World → Prop} {t : TypeId} (hg : o.guard = none) (m x : Operand) (hop : o.op = Op.call { callee := Callee.builtin Builtin.delete, args := #[m, x], argTypes := #[t, 9] })
    (mv kv : Value) (hm : a.eval m = mv) (hk : a.eval x = kv) (hrun : ∀ ty, (Builtin.delete_ #[t, 9] ty #[mv, kv]).run Tryz.prog w = .ok (.tuple #[]) w')
    (hK : wpList Tryz.prog ops Q rest (a.put o.dst (.tuple #[])) w') : wpList Tryz.prog ops Q (o :: rest) a w := by
  refine wpList_plain hg fun K' hK' => ?_
  unfold Oper.wp
  simp [execOp, hop, resolve, invoke, builtin, hm, hk, hrun, Result.andThen]
  exact hK' _ _ hK
/-! The keys, rising. -/
def bl (s : ByteArray) : List UInt8 := s.data.toList
/-- All keys, rising. -/
def Rw (F : Fun) (ns : List (List UInt8)) : Prop := ns.Pairwise (· < ·) ∧ ∀ x, x ∈ ns ↔ ∃ s, F s ≠ none ∧ bl s = x
theorem rows_ext : ∀ {a b : List (List UInt8)}, a.Pairwise (· < ·) → b.Pairwise (· < ·) → (∀ x, x ∈ a ↔ x ∈ b) → a = b
  | [], [], _, _, _ => rfl
  | [], y :: r, _, _, h => by have := (h y).2 (by simp); simp at this
  | x :: r, [], _, _, h => by have := (h x).1 (by simp); simp at this
  | x :: r, y :: q, ha, hb, h => by
    obtain ⟨a1, a2⟩ := List.pairwise_cons.1 ha
    obtain ⟨b1, b2⟩ := List.pairwise_cons.1 hb
    have e : x = y := by
      rcases List.mem_cons.1 ((h x).1 (by simp)) with e | e
      · exact e
      · rcases List.mem_cons.1 ((h y).2 (by simp)) with e' | e'
        · exact e'.symm
        · exact absurd (List.lt_trans (a1 y e') (b1 x e)) (List.lt_irrefl x)
    subst e
    rw [rows_ext a2 b2 fun z => ?_]
    have hz := h z
    simp only [List.mem_cons] at hz
    constructor
    · intro m
      rcases hz.1 (.inr m) with e | e
      · subst e; exact absurd (a1 z m) (List.lt_irrefl z)
      · exact e
    · intro m
      rcases hz.2 (.inr m) with e | e
      · subst e; exact absurd (b1 z m) (List.lt_irrefl z)
      · exact e
theorem Rw.one {F : Fun} {a b : List (List UInt8)} (ha : Rw F a) (hb : Rw F b) : a = b := rows_ext ha.1 hb.1 fun x => (ha.2 x).trans (hb.2 x).symm
theorem Rw.nil : Rw (fun _ => none) [] := ⟨List.Pairwise.nil, fun x => ⟨fun h => by simp at h, fun ⟨s, h, _⟩ => absurd rfl h⟩⟩
theorem Rw.emp {F : Fun} (h : ∀ s, F s = none) : Rw F [] := ⟨List.Pairwise.nil, fun x => ⟨fun h => by simp at h, fun ⟨s, h', _⟩ => absurd (h s) h'⟩⟩
theorem Rw.emp_iff {F : Fun} {ns : List (List UInt8)} (h : Rw F ns) : ns.length = 0 ↔ ∀ s, F s = none := by
  constructor
  · intro e s
    rw [List.length_eq_zero_iff] at e
    by_cases hs : F s = none
    · exact hs
    · have := (h.2 (bl s)).2 ⟨s, hs, rfl⟩
      rw [e] at this; simp at this
  · intro e
    rw [h.one (Rw.emp e)]; rfl
theorem mergeSort_sorted {xs : List (List UInt8)} : (xs.mergeSort (fun x y => decide (x ≤ y))).Pairwise (· ≤ ·) := by
  have h := List.pairwise_mergeSort (le := fun x y : List UInt8 => decide (x ≤ y)) (fun a b c h1 h2 => decide_eq_true (List.le_trans (of_decide_eq_true h1) (of_decide_eq_true h2))) (fun a b => by
    rcases List.le_total a b with h | h
    · simp [h]
    · simp [h]) xs
  exact h.imp fun h => of_decide_eq_true h
theorem strict_of {xs : List (List UInt8)} (h : xs.Pairwise (· ≤ ·)) (n : xs.Nodup) : xs.Pairwise (· < ·) := by
  induction xs with
  | nil => exact List.Pairwise.nil
  | cons a r ih =>
    obtain ⟨h1, h2⟩ := List.pairwise_cons.1 h
    obtain ⟨n1, n2⟩ := List.nodup_cons.1 n
    refine List.pairwise_cons.2 ⟨fun b hb => ?_, ih h2 n2⟩
    have := h1 b hb
    by_cases e : a < b
    · exact e
    · obtain rfl : a = b := List.le_antisymm this (List.not_lt.1 e)
      exact absurd hb n1
/-- The map's keys, sorted; and how many they are. -/
theorem sorted_keys {w : World} {m n : Nat} {F : Fun} {D : DataW Value} (h1 : w.ownsMap Tryz.prog 9 R m n D) (hk : ∀ l, Maps.has D l = true → ∃ s, F s ≠ none ∧ l = key s) (h2 : ∀ s q, F s = some q → Maps.has D (key s) = true) :
    ∃ ns, Rw F ns ∧ Maps.size D = ns.length ∧ ∀ ss : List (List UInt8), ss.Perm (strKeys D) → ss.mergeSort (fun x y => decide (x ≤ y)) = ns := by
  obtain ⟨es, rfl, hne⟩ := h1.tidy law
  have hks : ∀ p ∈ es, ∃ s, F s ≠ none ∧ p.1 = key s := fun p hp => by
    obtain ⟨es', e', hk'⟩ := h1.keysOf
    cases e'
    obtain ⟨v, hv⟩ := hk' p hp
    exact hk p.1 (by rw [has_eq]; exact List.any_eq_true.2 ⟨p, hp, WideAt.sameKey_self (law.key hv)⟩)
  have hmem : ∀ x, x ∈ strKeys (.map es) ↔ ∃ s, F s ≠ none ∧ bl s = x := fun x => by
    show x ∈ es.map (fun p => strOf p.1) ↔ _
    rw [List.mem_map]
    constructor
    · rintro ⟨p, hp, rfl⟩
      obtain ⟨s, hs, e⟩ := hks p hp
      exact ⟨s, hs, by rw [e]; rfl⟩
    · rintro ⟨s, hs, rfl⟩
      obtain ⟨q, hq⟩ := Option.ne_none_iff_exists'.1 hs
      have h3 := h2 s q hq
      rw [has_eq] at h3
      obtain ⟨p, hp, h4⟩ := List.any_eq_true.1 h3
      exact ⟨p, hp, by rw [WideAt.sameKey_eq h4]; rfl⟩
  have hnd : (strKeys (DataW.map es)).Nodup := by
    show (es.map fun p => strOf p.1).Nodup
    refine List.pairwise_map.2 (hne.imp_of_mem fun {p q} hp' hq' hne e => hne ?_)
    obtain ⟨a, _, ha⟩ := hks p hp'
    obtain ⟨b, _, hb⟩ := hks q hq'
    rw [ha, hb] at e ⊢
    exact congrArg Lit.string e
  have hlen : (strKeys (DataW.map es)).length = Maps.size (DataW.map es) := by
    show (es.map fun p => strOf p.1).length = _
    rw [List.length_map]; rfl
  refine ⟨(strKeys (DataW.map es)).mergeSort (fun x y => decide (x ≤ y)), ⟨strict_of mergeSort_sorted (((List.mergeSort_perm _ _).nodup_iff).2 hnd), fun x => ?_⟩, ?_, fun ss hS => mergeSort_of_perm hS⟩
  · rw [(List.mergeSort_perm _ _).mem_iff]; exact hmem x
  · rw [List.length_mergeSort]; exact hlen.symm
end Ka
end Go.Proofs.YtalanjhpacjmmaaGreat
