/- A map from names to places in memory, by what it has. -/
import Derived.Test.YtloiclmngmnbdaaCa
import Derived.DeepKeys5
namespace Go.Proofs.Ytloiclmngmnbdaa
open Go.RowKit Go.Maps Go.ChangeMaps Go.MapKept
namespace Ck
open Jb Ca

theorem isLaid : laidOutB Try.prog = true := by kernel_rfl
theorem law : Keyed Try.prog 65 := Keyed.of_law (deep_law_gate isLaid (of_decide_eq_true (by kernel_rfl)) (of_decide_eq_true (by kernel_rfl)) (by kernel_rfl) (by rw [Try.underlying65]))
/-- A column's place: its series, its field. -/
abbrev Ky := ByteArray × ByteArray
/-- A place as a value. -/
def kv (s : Ky) : Value := .agg #[.string s.1, .string s.2]
def ok (s : Ky) : Prop := s.1.size ≤ 140737488355328 ∧ s.2.size ≤ 140737488355328
theorem zeroE (w : World) : (zeroValue 62).run Try.prog w = .ok (.pointer none) w := by kernel_rfl
/-- How a place reads. -/
def R : Value → Option (DataW Unit × List MemPlace)
  | .pointer none => some (.nil, [])
  | .pointer (some ⟨b, 0, none⟩) => some (.lit (.int .i64 b), [])
  | _ => none
theorem R_inv {v : Value} {b : Nat} {ps : List MemPlace} (h : R v = some (.lit (.int .i64 b), ps)) : v = .pointer (some ⟨b, 0, none⟩) := by
  unfold R at h
  split at h
  · simp at h
  · rename_i c
    have e : c = b := by simp at h; omega
    rw [e]
  · simp at h
theorem R_nil {v : Value} {ps : List MemPlace} (h : R v = some (.nil, ps)) : v = .pointer none := by
  unfold R at h
  split at h
  · rfl
  · simp at h
  · simp at h
def key (s : Ky) : Lit := .string (keyBytes [.string s.1.data.toList, .string s.2.data.toList])
theorem kt65 : Try.prog.keyType 65 = true := by kernel_rfl
theorem fm65 (s : Ky) : (kv s).formed Try.prog 65 = true := by kernel_rfl
set_option maxRecDepth 100000 in
theorem keyOf_s {s : Ky} (h : ok s) : keyOf Try.prog 65 (kv s) = some (key s) := by
  have h1 : s.1.size ≤ maxLen := by have := h.1; unfold maxLen; omega
  have h2 : s.2.size ≤ maxLen := by have := h.2; unfold maxLen; omega
  have hz : Try.prog.types.size = 161 := by kernel_rfl
  obtain ⟨m, hm⟩ : ∃ m, Try.prog.types.size + 1 = m + 1 + 1 := ⟨160, by rw [hz]⟩
  unfold keyOf
  simp only [Try.underlying65]
  rw [kt65, fm65, hm]
  simp only [Bool.and_self, if_true]
  have e : Try.prog.keyLits (m + 1 + 1) 65 (kv s).cells.toList = some [.string s.1.data.toList, .string s.2.data.toList] := by
    unfold Program.keyLits
    simp only [Try.underlying65, kv, Value.cells]
    rw [if_pos (by constructor <;> kernel_rfl)]
    simp [Program.keyLits, Try.underlying9, h1, h2, show Try.prog.cellsOf 9 = 1 from by kernel_rfl]
  rw [e]
  rfl
theorem kv_inj {s s' : Ky} (h : kv s = kv s') : s = s' := by
  unfold kv at h
  injection h with h
  have h' : [Value.string s.1, .string s.2] = [.string s'.1, .string s'.2] := congrArg Array.toList h
  injection h' with e1 e2
  injection e1 with e1
  injection e2 with e2 _
  injection e2 with e2
  exact Prod.ext e1 e2
theorem key_inj {s s' : Ky} (hs : ok s) (hs' : ok s') (h : key s = key s') : s = s' :=
  kv_inj (law.inj (keyOf_s hs) (h ▸ keyOf_s hs'))
/-- Block m is a map of at most n entries: at s it has F s. -/
def Is (w : World) (m n : Nat) (F : Ky → Option Nat) : Prop :=
  ∃ D : DataW Unit, w.ownsMap Try.prog 65 R m n D ∧ (∀ s, F s ≠ none → ok s) ∧ (∀ l, Maps.has D l = true → ∃ s, F s ≠ none ∧ l = key s) ∧
    ∀ s, ok s → (F s = none → Maps.has D (key s) = false) ∧ (∀ q, F s = some q → Maps.has D (key s) = true ∧ D.atKey (key s) .nil = .lit (.int .i64 (q : Nat)))

theorem Is.lt {w : World} {m n : Nat} {F : Ky → Option Nat} (h : Is w m n F) : m < w.heap.size := by obtain ⟨D, h, _⟩ := h; exact h.lt
theorem Is.of_block {w w' : World} {m n : Nat} {F : Ky → Option Nat} (h : Is w m n F) (e : w'.heap[m]? = w.heap[m]?) : Is w' m n F := by
  obtain ⟨D, ⟨es, clock, hb, r⟩, h2⟩ := h
  exact ⟨D, ⟨es, clock, e.trans hb, r⟩, h2⟩
theorem Is.mono {w : World} {m n n' : Nat} {F : Ky → Option Nat} (h : Is w m n F) (hn : n ≤ n') : Is w m n' F := by
  obtain ⟨D, h1, h2⟩ := h
  exact ⟨D, h1.mono hn, h2⟩
theorem Is.ext {w : World} {m n : Nat} {F F' : Ky → Option Nat} (h : Is w m n F) (e : ∀ k, F k = F' k) : Is w m n F' := by
  obtain rfl : F = F' := funext e
  exact h
theorem made (w : World) : Is (w.alloc (.map #[] 0)) w.heap.size 0 (fun _ => none) :=
  ⟨.map [], World.ownsMap_made _ _ _ _, fun s h => absurd rfl h, fun l h => by simp [Maps.has] at h, fun k _ => ⟨fun _ => rfl, fun q h => by cases h⟩⟩
def pt (o : Option Nat) : Value := .pointer (o.map fun b => ⟨b, 0, none⟩)
/-- What a look-up answers. -/
theorem Is.look {w : World} {m n : Nat} {F : Ky → Option Nat} (h : Is w m n F) {s : Ky} (hs : ok s) :
    (Instr.lookup 58 (.map (some m)) (kv s) false).run Try.prog w = .ok (pt (F s)) w := by
  obtain ⟨D, h1, _, _, h2⟩ := h
  obtain ⟨v, ps, hrun, hv⟩ := h1.lookup law Try.underlying58 (zeroE w) (zd := .nil) (zp := []) rfl (keyOf_s hs)
  obtain ⟨h3, h4⟩ := h2 s hs
  cases hF : F s with
  | none =>
    have h6 := Maps.atKey_of_not_has (h3 hF) .nil
    rw [h6] at hv
    rw [R_nil hv] at hrun
    exact hrun
  | some q =>
    obtain ⟨h5, h6⟩ := h4 q hF
    rw [h6] at hv
    rw [R_inv hv] at hrun
    exact hrun
theorem look_nil (w : World) {s : Ky} (hs : ok s) : (Instr.lookup 58 (.map none) (kv s) false).run Try.prog w = .ok (.pointer none) w := by
  have := Maps.look_nil (P := Try.prog) (t := 58) (w := w) false law Try.underlying58 (zeroE w) (keyOf_s hs)
  simpa using this
/-- What a store leaves. -/
theorem Is.put {w : World} {m n : Nat} {F : Ky → Option Nat} (h : Is w m n F) {s : Ky} {b : Nat} (hs : ok s) (hn : n ≤ 140737488353272) :
    ∃ w', (Instr.mapUpdate 58 (.map (some m)) (kv s) (.pointer (some ⟨b, 0, none⟩))).run Try.prog w = .ok () w' ∧ Is w' m (n + 1) (fun x => if x = s then some b else F x) ∧ w.mapTurned w' m := by
  obtain ⟨D, h1, h64, hk, h2⟩ := h
  obtain ⟨w', hrun, ho, ht⟩ := h1.store law Try.underlying58 (by unfold maxLen; omega) (keyOf_s hs) (val := .pointer (some ⟨b, 0, none⟩)) (d := .lit (.int .i64 b)) (ps := []) rfl
  have hm := h1.isMap
  have hkl : WideAt.IsKeyLit (key s) := law.key (keyOf_s hs)
  refine ⟨w', hrun, ⟨_, ho, fun x hx => ?_, fun l hl => ?_, fun x hxo => ⟨fun hF => ?_, fun q hF => ?_⟩⟩, ht⟩
  · dsimp only at hx
    by_cases e : x = s
    · rw [e]; exact hs
    · rw [if_neg e] at hx; exact h64 x hx
  · by_cases e : l = key s
    · exact ⟨s, by simp, e⟩
    · rw [Maps.has_put_other e] at hl
      obtain ⟨x, hx, rfl⟩ := hk l hl
      have hxs : x ≠ s := fun e' => e (by rw [e'])
      exact ⟨x, by simpa [hxs] using hx, rfl⟩
  · dsimp only at hF
    by_cases e : x = s
    · rw [if_pos e] at hF; cases hF
    · rw [if_neg e] at hF
      rw [Maps.has_put_other (fun e' => e (key_inj hxo hs e'))]
      exact (h2 x hxo).1 hF
  · dsimp only at hF
    by_cases e : x = s
    · rw [if_pos e] at hF
      cases hF
      subst e
      exact ⟨Maps.has_put_same hm hkl _, Maps.atKey_put_same hm hkl _ _⟩
    · rw [if_neg e] at hF
      rw [Maps.has_put_other (fun e' => e (key_inj hxo hs e')), Maps.atKey_put_other (fun e' => e (key_inj hxo hs e'))]
      exact (h2 x hxo).2 q hF
/-- What a delete leaves. -/
theorem Is.del {w : World} {m n : Nat} {F : Ky → Option Nat} (h : Is w m n F) {s : Ky} (hs : ok s) :
    ∃ w', (∀ ty, (Builtin.delete_ #[58, 65] ty #[.map (some m), kv s]).run Try.prog w = .ok (.tuple #[]) w') ∧ Is w' m n (fun x => if x = s then none else F x) ∧ w.mapTurned w' m := by
  obtain ⟨D, h1, h64, hk, h2⟩ := h
  obtain ⟨w', hrun, ho, ht⟩ := h1.drop law Try.underlying58 (keyOf_s hs) 0
  refine ⟨w', fun ty => ?_, ⟨_, ho, fun x hx => ?_, fun l hl => ?_, fun x hxo => ⟨fun hF => ?_, fun q hF => ?_⟩⟩, ht⟩
  · rw [← hrun]; rfl
  · dsimp only at hx
    by_cases e : x = s
    · rw [if_pos e] at hx; exact absurd rfl hx
    · rw [if_neg e] at hx; exact h64 x hx
  · by_cases e : l = key s
    · subst e; rw [Maps.has_del_same] at hl; cases hl
    · rw [Maps.has_del_other e] at hl
      obtain ⟨x, hx, rfl⟩ := hk l hl
      have hxs : x ≠ s := fun e' => e (by rw [e'])
      exact ⟨x, by simpa [hxs] using hx, rfl⟩
  · dsimp only at hF
    by_cases e : x = s
    · subst e; exact Maps.has_del_same
    · rw [if_neg e] at hF
      rw [Maps.has_del_other (fun e' => e (key_inj hxo hs e'))]
      exact (h2 x hxo).1 hF
  · dsimp only at hF
    by_cases e : x = s
    · rw [if_pos e] at hF; cases hF
    · rw [if_neg e] at hF
      rw [Maps.has_del_other (fun e' => e (key_inj hxo hs e')), Maps.atKey_del_other (fun e' => e (key_inj hxo hs e'))]
      exact (h2 x hxo).2 q hF
/-- 'delete(m, k)' at the operation. -/
theorem wpList_del {w w' : World} {ops : Array Oper} {rest : List Oper} {o : Oper} {a : Act} {Q : Exit → Act → World → Prop} (hg : o.guard = none) (m x : Operand) (hop : o.op = Op.call { callee := Callee.builtin Builtin.delete, args := #[m, x], argTypes := #[58, 65] })
    (mv kv : Value) (hm : a.eval m = mv) (hk : a.eval x = kv) (hrun : ∀ ty, (Builtin.delete_ #[58, 65] ty #[mv, kv]).run Try.prog w = .ok (.tuple #[]) w')
    (hK : wpList Try.prog ops Q rest (a.put o.dst (.tuple #[])) w') : wpList Try.prog ops Q (o :: rest) a w := by
  refine wpList_plain hg fun K' hK' => ?_
  unfold Oper.wp
  simp [execOp, hop, resolve, invoke, builtin, hm, hk, hrun, Result.andThen]
  exact hK' _ _ hK
end Ck
end Go.Proofs.Ytloiclmngmnbdaa
