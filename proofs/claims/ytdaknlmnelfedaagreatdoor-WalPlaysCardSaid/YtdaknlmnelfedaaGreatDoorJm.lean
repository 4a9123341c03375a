/- A map from names to places in memory, by what it has. -/
import Derived.Test.YtdaknlmnelfedaaGreatDoorJb
namespace Go.Proofs.YtdaknlmnelfedaaGreatDoor
open Go.RowKit Go.Maps Go.ChangeMaps Go.MapKept
namespace Jm
open Jb

theorem law : Keyed Tryz.prog 9 := string_keyed Tryz.underlying9
theorem zeroE (w : World) : (zeroValue 59).run Tryz.prog w = .ok (.pointer none) w := by kernel_rfl
/-- How a place reads. -/
def R : Value → Option (DataW Unit × List MemPlace)
  | .pointer none => some (.nil, [])
  | .pointer (some ⟨b, 0, none⟩) => some (.lit (.int .i64 b), [])
  | _ => none
theorem R_inv {v : Value} {b : Nat} {ps : List MemPlace} (h : R v = some (.lit (.int .i64 b), ps)) : v = .pointer (some ⟨b, 0, none⟩) := by
  unfold R at h
  split at h
  · simp at h
  · rename_i c
    have e : c = b := by simp at h; omega
    rw [e]
  · simp at h
theorem R_nil {v : Value} {ps : List MemPlace} (h : R v = some (.nil, ps)) : v = .pointer none := by
  unfold R at h
  split at h
  · rfl
  · simp at h
  · simp at h
def key (s : ByteArray) : Lit := .string s.data.toList
theorem keyOf_s {s : ByteArray} (h : s.size ≤ maxLen) : keyOf Tryz.prog 9 (.string s) = some (key s) := WideMaps.keyOf_string_mk Tryz.underlying9 h
theorem key_inj {s s' : ByteArray} (h : key s = key s') : s = s' := by
  unfold key at h
  injection h with h
  have h2 : s.data = s'.data := Array.toList_inj.1 h
  exact ByteArray.ext h2
/-- Block m is a map of at most n entries: at s it has F s. -/
def Is (w : World) (m n : Nat) (F : ByteArray → Option Nat) : Prop :=
  ∃ D : DataW Unit, w.ownsMap Tryz.prog 9 R m n D ∧ (∀ s, F s ≠ none → s.size ≤ 64) ∧ (∀ l, Maps.has D l = true → ∃ s, F s ≠ none ∧ l = key s) ∧
    ∀ s, (F s = none → Maps.has D (key s) = false) ∧ (∀ q, F s = some q → Maps.has D (key s) = true ∧ D.atKey (key s) .nil = .lit (.int .i64 (q : Nat)))

theorem Is.lt {w : World} {m n : Nat} {F : ByteArray → Option Nat} (h : Is w m n F) : m < w.heap.size := by obtain ⟨D, h, _⟩ := h; exact h.lt
theorem Is.of_block {w w' : World} {m n : Nat} {F : ByteArray → Option Nat} (h : Is w m n F) (e : w'.heap[m]? = w.heap[m]?) : Is w' m n F := by
  obtain ⟨D, ⟨es, clock, hb, r⟩, h2⟩ := h
  exact ⟨D, ⟨es, clock, e.trans hb, r⟩, h2⟩
theorem Is.mono {w : World} {m n n' : Nat} {F : ByteArray → Option Nat} (h : Is w m n F) (hn : n ≤ n') : Is w m n' F := by
  obtain ⟨D, h1, h2⟩ := h
  exact ⟨D, h1.mono hn, h2⟩
theorem Is.ext {w : World} {m n : Nat} {F F' : ByteArray → Option Nat} (h : Is w m n F) (e : ∀ k, F k = F' k) : Is w m n F' := by
  obtain rfl : F = F' := funext e
  exact h
theorem made (w : World) : Is (w.alloc (.map #[] 0)) w.heap.size 0 (fun _ => none) :=
  ⟨.map [], World.ownsMap_made _ _ _ _, fun s h => absurd rfl h, fun l h => by simp [Maps.has] at h, fun k => ⟨fun _ => rfl, fun q h => by cases h⟩⟩
def pt (o : Option Nat) : Value := .pointer (o.map fun b => ⟨b, 0, none⟩)
/-- What a look-up answers. -/
theorem Is.look {w : World} {m n : Nat} {F : ByteArray → Option Nat} (h : Is w m n F) {s : ByteArray} (hs : s.size ≤ maxLen) :
    (Instr.lookup 51 (.map (some m)) (.string s) false).run Tryz.prog w = .ok (pt (F s)) w := by
  obtain ⟨D, h1, _, _, h2⟩ := h
  obtain ⟨v, ps, hrun, hv⟩ := h1.lookup law Tryz.underlying51 (zeroE w) (zd := .nil) (zp := []) rfl (keyOf_s hs)
  obtain ⟨h3, h4⟩ := h2 s
  cases hF : F s with
  | none =>
    have h6 := Maps.atKey_of_not_has (h3 hF) .nil
    rw [h6] at hv
    rw [R_nil hv] at hrun
    exact hrun
  | some q =>
    obtain ⟨h5, h6⟩ := h4 q hF
    rw [h6] at hv
    rw [R_inv hv] at hrun
    exact hrun
theorem look_nil (w : World) {s : ByteArray} (hs : s.size ≤ maxLen) : (Instr.lookup 51 (.map none) (.string s) false).run Tryz.prog w = .ok (.pointer none) w := by
  have := Maps.look_nil (P := Tryz.prog) (t := 51) (w := w) false law Tryz.underlying51 (zeroE w) (keyOf_s hs)
  simpa using this
/-- What a store leaves. -/
theorem Is.put {w : World} {m n : Nat} {F : ByteArray → Option Nat} (h : Is w m n F) {s : ByteArray} {b : Nat} (hs : s.size ≤ 64) (hn : n ≤ 140737488353272) :
    ∃ w', (Instr.mapUpdate 51 (.map (some m)) (.string s) (.pointer (some ⟨b, 0, none⟩))).run Tryz.prog w = .ok () w' ∧ Is w' m (n + 1) (fun x => if x = s then some b else F x) ∧ w.mapTurned w' m := by
  obtain ⟨D, h1, h64, hk, h2⟩ := h
  have hml : s.size ≤ maxLen := by unfold maxLen; omega
  obtain ⟨w', hrun, ho, ht⟩ := h1.store law Tryz.underlying51 (by unfold maxLen; omega) (keyOf_s hml) (val := .pointer (some ⟨b, 0, none⟩)) (d := .lit (.int .i64 b)) (ps := []) rfl
  have hm := h1.isMap
  have hkl : WideAt.IsKeyLit (key s) := law.key (keyOf_s hml)
  refine ⟨w', hrun, ⟨_, ho, fun x hx => ?_, fun l hl => ?_, fun x => ⟨fun hF => ?_, fun q hF => ?_⟩⟩, ht⟩
  · dsimp only at hx
    by_cases e : x = s
    · rw [e]; exact hs
    · rw [if_neg e] at hx; exact h64 x hx
  · by_cases e : l = key s
    · exact ⟨s, by simp, e⟩
    · rw [Maps.has_put_other e] at hl
      obtain ⟨x, hx, rfl⟩ := hk l hl
      have hxs : x ≠ s := fun e' => e (by rw [e'])
      exact ⟨x, by simpa [hxs] using hx, rfl⟩
  · dsimp only at hF
    by_cases e : x = s
    · rw [if_pos e] at hF; cases hF
    · rw [if_neg e] at hF
      rw [Maps.has_put_other (fun e' => e (key_inj e'))]
      exact (h2 x).1 hF
  · dsimp only at hF
    by_cases e : x = s
    · rw [if_pos e] at hF
      cases hF
      subst e
      exact ⟨Maps.has_put_same hm hkl _, Maps.atKey_put_same hm hkl _ _⟩
    · rw [if_neg e] at hF
      rw [Maps.has_put_other (fun e' => e (key_inj e')), Maps.atKey_put_other (fun e' => e (key_inj e'))]
      exact (h2 x).2 q hF
/-- What a delete leaves. -/
theorem Is.del {w : World} {m n : Nat} {F : ByteArray → Option Nat} (h : Is w m n F) {s : ByteArray} (hs : s.size ≤ maxLen) :
    ∃ w', (∀ ty, (Builtin.delete_ #[51, 9] ty #[.map (some m), .string s]).run Tryz.prog w = .ok (.tuple #[]) w') ∧ Is w' m n (fun x => if x = s then none else F x) ∧ w.mapTurned w' m := by
  obtain ⟨D, h1, h64, hk, h2⟩ := h
  obtain ⟨w', hrun, ho, ht⟩ := h1.drop law Tryz.underlying51 (keyOf_s hs) 0
  refine ⟨w', fun ty => ?_, ⟨_, ho, fun x hx => ?_, fun l hl => ?_, fun x => ⟨fun hF => ?_, fun q hF => ?_⟩⟩, ht⟩
  · rw [← hrun]; rfl
  · dsimp only at hx
    by_cases e : x = s
    · rw [if_pos e] at hx; exact absurd rfl hx
    · rw [if_neg e] at hx; exact h64 x hx
  · by_cases e : l = key s
    · subst e; rw [Maps.has_del_same] at hl; cases hl
    · rw [Maps.has_del_other e] at hl
      obtain ⟨x, hx, rfl⟩ := hk l hl
      have hxs : x ≠ s := fun e' => e (by rw [e'])
      exact ⟨x, by simpa [hxs] using hx, rfl⟩
  · dsimp only at hF
    by_cases e : x = s
    · subst e; exact Maps.has_del_same
    · rw [if_neg e] at hF
      rw [Maps.has_del_other (fun e' => e (key_inj e'))]
      exact (h2 x).1 hF
  · dsimp only at hF
    by_cases e : x = s
    · rw [if_pos e] at hF; cases hF
    · rw [if_neg e] at hF
      rw [Maps.has_del_other (fun e' => e (key_inj e')), Maps.atKey_del_other (fun e' => e (key_inj e'))]
      exact (h2 x).2 q hF
/-- 'delete(m, k)' at the operation. -/
theorem wpList_del {w w' : World} {ops : Array Oper} {rest : List Oper} {o : Oper} {a : Act} {Q : Exit → Act → World → Prop} (hg : o.guard = none) (m x : Operand) (hop : o.op = Op.call { callee := Callee.builtin Builtin.delete, args := #[m, x], argTypes := #[51, 9] })
    (mv kv : Value) (hm : a.eval m = mv) (hk : a.eval x = kv) (hrun : ∀ ty, (Builtin.delete_ #[51, 9] ty #[mv, kv]).run Tryz.prog w = .ok (.tuple #[]) w')
    (hK : wpList Tryz.prog ops Q rest (a.put o.dst (.tuple #[])) w') : wpList Tryz.prog ops Q (o :: rest) a w := by
  refine wpList_plain hg fun K' hK' => ?_
  unfold Oper.wp
  simp [execOp, hop, resolve, invoke, builtin, hm, hk, hrun, Result.andThen]
  exact hK' _ _ hK
end Jm
end Go.Proofs.YtdaknlmnelfedaaGreatDoor
