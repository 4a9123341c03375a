/- A map of places, by what it has. -/
import Derived.Test.YtbmdjmckgcjfcaaBs
namespace Go.Proofs.Ytbmdjmckgcjfcaa
open Go.RowKit Go.Maps Go.ChangeMaps Go.MapKept
namespace Mp
open Lm Bs

theorem law : Keyed Try.prog 28 := int_keyed Try.underlying28
theorem zeroE (w : World) : (zeroValue 3).run Try.prog w = .ok (.int .i64 0) w := by kernel_rfl
def key (k : Nat) : Lit := .int .u32 (k : Nat)
theorem wf_u32 {k : Nat} (h : k < 4294967296) : (Lit.int .u32 (k : Nat)).wf = true := by
  simp only [Lit.wf, Bool.and_eq_true, decide_eq_true_eq]
  have h1 : IntKind.u32.min = 0 := by decide
  have h2 : IntKind.u32.max = 4294967295 := by decide
  omega
theorem wf_i64 {k : Nat} (h : k ≤ 140737488353272) : (Lit.int .i64 (k : Nat)).wf = true := by
  simp only [Lit.wf, Bool.and_eq_true, decide_eq_true_eq]
  have h1 : IntKind.i64.min = -9223372036854775808 := by decide
  have h2 : IntKind.i64.max = 9223372036854775807 := by decide
  omega
theorem keyOf_u32 {k : Nat} (h : k < 4294967296) : keyOf Try.prog 28 (.int .u32 (k : Nat)) = some (key k) := keyOf_int_mk Try.underlying28 (wf_u32 h)
theorem key_inj {k k' : Nat} (h : key k = key k') : k = k' := by
  unfold key at h
  injection h with _ h
  omega
/-- Block m is a map of at most n entries: at k it has F k. -/
def Is (w : World) (m n : Nat) (F : Nat → Option Nat) : Prop :=
  ∃ D : DataW Unit, w.ownsMap Try.prog 28 (plainElem Try.prog 3) m n D ∧ ∀ k, k < 4294967296 → (F k = none → Maps.has D (key k) = false) ∧ (∀ q, F k = some q → Maps.has D (key k) = true ∧ D.atKey (key k) (.lit (.int .i64 0)) = .lit (.int .i64 (q : Nat)))

theorem Is.lt {w : World} {m n : Nat} {F : Nat → Option Nat} (h : Is w m n F) : m < w.heap.size := by obtain ⟨D, h, _⟩ := h; exact h.lt
theorem Is.of_block {w w' : World} {m n : Nat} {F : Nat → Option Nat} (h : Is w m n F) (e : w'.heap[m]? = w.heap[m]?) : Is w' m n F := by
  obtain ⟨D, ⟨es, clock, hb, r⟩, h2⟩ := h
  exact ⟨D, ⟨es, clock, e.trans hb, r⟩, h2⟩
theorem Is.mono {w : World} {m n n' : Nat} {F : Nat → Option Nat} (h : Is w m n F) (hn : n ≤ n') : Is w m n' F := by
  obtain ⟨D, h1, h2⟩ := h
  exact ⟨D, h1.mono hn, h2⟩
theorem Is.ext {w : World} {m n : Nat} {F F' : Nat → Option Nat} (h : Is w m n F) (e : ∀ k, F k = F' k) : Is w m n F' := by
  obtain rfl : F = F' := funext e
  exact h
theorem made (w : World) : Is (w.alloc (.map #[] 0)) w.heap.size 0 (fun _ => none) :=
  ⟨.map [], World.ownsMap_made _ _ _ _, fun k _ => ⟨fun _ => rfl, fun q h => by cases h⟩⟩
/-- What a look-up answers. -/
theorem Is.look {w : World} {m n : Nat} {F : Nat → Option Nat} (h : Is w m n F) {k : Nat} (hk : k < 4294967296) :
    (F k = none ∧ (Instr.lookup 48 (.map (some m)) (.int .u32 (k : Nat)) true).run Try.prog w = .ok (.tuple #[.int .i64 0, .bool false]) w) ∨
    ∃ q, F k = some q ∧ (Instr.lookup 48 (.map (some m)) (.int .u32 (k : Nat)) true).run Try.prog w = .ok (.tuple #[.int .i64 (q : Nat), .bool true]) w := by
  obtain ⟨D, h1, h2⟩ := h
  obtain ⟨v, ps, hrun, hv⟩ := h1.look_ok law Try.underlying48 (zeroE w) (plainElem_int Try.underlying3 (by decide) (a := 0)) (keyOf_u32 hk)
  obtain ⟨c, rfl, hc, hwc⟩ := plainElem_int_inv Try.underlying3 hv
  have hc1 : D.atKey (key k) (.lit (.int .i64 0)) = .lit (.int .i64 c) := congrArg Prod.fst hc
  obtain ⟨h3, h4⟩ := h2 k hk
  cases hF : F k with
  | none =>
    have h5 := h3 hF
    rw [h5] at hrun
    have h6 := Maps.atKey_of_not_has h5 (.lit (.int .i64 0))
    rw [hc1] at h6
    injection h6 with h6
    injection h6 with _ h6
    subst h6
    exact .inl ⟨rfl, hrun⟩
  | some q =>
    obtain ⟨h5, h6⟩ := h4 q hF
    rw [h5] at hrun
    rw [hc1] at h6
    injection h6 with h6
    injection h6 with _ h6
    subst h6
    exact .inr ⟨q, rfl, hrun⟩
/-- What a store leaves. -/
theorem Is.put {w : World} {m n : Nat} {F : Nat → Option Nat} (h : Is w m n F) {k v : Nat} (hk : k < 4294967296) (hv : v ≤ 140737488353272) (hn : n ≤ 140737488353272) :
    ∃ w', (Instr.mapUpdate 48 (.map (some m)) (.int .u32 (k : Nat)) (.int .i64 (v : Nat))).run Try.prog w = .ok () w' ∧ Is w' m (n + 1) (fun x => if x = k then some v else F x) ∧ w.mapTurned w' m := by
  obtain ⟨D, h1, h2⟩ := h
  obtain ⟨w', hrun, ho, ht⟩ := h1.store law Try.underlying48 (by unfold maxLen; omega) (keyOf_u32 hk) (plainElem_int Try.underlying3 (wf_i64 hv))
  have hm := h1.isMap
  refine ⟨w', hrun, ⟨_, ho, fun x hx => ⟨fun hF => ?_, fun q hF => ?_⟩⟩, ht⟩
  · dsimp only at hF
    by_cases e : x = k
    · rw [if_pos e] at hF; cases hF
    · rw [if_neg e] at hF
      rw [Maps.has_put_other (fun e' => e (key_inj e'))]
      exact (h2 x hx).1 hF
  · dsimp only at hF
    by_cases e : x = k
    · rw [if_pos e] at hF
      cases hF
      subst e
      have hkl : WideAt.IsKeyLit (key x) := law.key (keyOf_u32 hk)
      exact ⟨Maps.has_put_same hm hkl _, Maps.atKey_put_same hm hkl _ _⟩
    · rw [if_neg e] at hF
      rw [Maps.has_put_other (fun e' => e (key_inj e')), Maps.atKey_put_other (fun e' => e (key_inj e'))]
      exact (h2 x hx).2 q hF
/-- What clear leaves. -/
theorem Is.clear {w : World} {m n : Nat} {F : Nat → Option Nat} (h : Is w m n F) : ∃ w', (∀ ty, (Builtin.clear_ #[48] ty #[.map (some m)]).run Try.prog w = .ok (.tuple #[]) w') ∧ Is w' m 0 (fun _ => none) ∧ w.mapTurned w' m := by
  obtain ⟨D, ⟨es, clock, hb, F1, hs, rfl⟩, h2⟩ := h
  refine ⟨setBlock w m (.map #[] clock), fun ty => ?_, ⟨.map [], ⟨#[], clock, heap_setBlock_same hb _, ⟨by simp, stamped_empty clock, by simp⟩, Nat.le_refl _, rfl⟩, fun k _ => ⟨fun _ => rfl, fun q h => by cases h⟩⟩, ⟨es, clock, #[], clock, hb, rfl⟩⟩
  simp [Builtin.clear_, run_underlying Try.underlying48, MapKept.run_getObj_map hb, MapKept.run_setObj_map _ hb, Result.andThen, setBlock]
/-- 'clear(m)' at the operation. -/
theorem wpList_clear {w w' : World} {ops : Array Oper} {rest : List Oper} {o : Oper} {a : Act} {Q : Exit → Act → World → Prop} (hg : o.guard = none) (x : Operand) (hop : o.op = Op.call { callee := Callee.builtin Builtin.clear, args := #[x], argTypes := #[48] })
    (m : Nat) (hm : a.eval x = .map (some m)) (hrun : ∀ ty, (Builtin.clear_ #[48] ty #[.map (some m)]).run Try.prog w = .ok (.tuple #[]) w')
    (hK : wpList Try.prog ops Q rest (a.put o.dst (.tuple #[])) w') : wpList Try.prog ops Q (o :: rest) a w := by
  refine wpList_plain hg fun K' hK' => ?_
  unfold Oper.wp
  simp [execOp, hop, resolve, invoke, builtin, hm, hrun, Result.andThen]
  exact hK' _ _ hK
end Mp
end Go.Proofs.Ytbmdjmckgcjfcaa
