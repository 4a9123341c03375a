/- The law DiskNil. -/
import Derived.Test.YthejolhpoakheaaJq
import Derived.Test.YthejolhpoakheaaJt
namespace Go.Proofs.Ythejolhpoakheaa
open Go.RowKit Go.Maps Go.ChangeMaps Go.MapKept
namespace Ju
open Jb Jm Jd Jw Jx Jn Je Jf Jg Jh Jk Jc Jl Jo Jq Jt

theorem restart_nil (w : World) (v : Value) : Calls Try.prog 15 #[.pointer none, v] w fun e w' => e = .returned (.tuple #[]) ∧ w' = w := by
  go_enter Try.func15, Try.ntmps15
  go_wp2_with fail
  refine bodyPost_ret (v := .tuple #[]) (by simp [results, Try.results15, go_sem]) rfl ⟨rfl, rfl⟩
theorem list_nil (w : World) : Calls Try.prog 25 #[.pointer none] w fun e w' => e = .returned (.slice none 0 0) ∧ w' = w := by
  go_enter Try.func25, Try.ntmps25
  go_wp2_with (go_at_call 24; refine (down24_nil _).mono ?_; rintro e w' ⟨rfl, rfl⟩)
  go_ret
  trivial
/-- An append, in the walk. -/
theorem wpList_app {w : World} {ops : Array Oper} {rest : List Oper} {o : Oper} {a : Act} {Q : Exit → Act → World → Prop} (hg : o.guard = none) (s x : Operand) (hop : o.op = Op.call { callee := Callee.builtin Builtin.append, args := #[s, x], argTypes := #[29, 29] })
    (v y : Value) (hs : a.eval s = v) (hx : a.eval x = y) (R : Value → World → Prop) (hrun : ∀ ty, ∃ v' w', (Builtin.append_ #[29, 29] ty #[v, y]).run Try.prog w = .ok v' w' ∧ R v' w')
    (hK : ∀ v' w', R v' w' → wpList Try.prog ops Q rest (a.put o.dst v') w') : wpList Try.prog ops Q (o :: rest) a w := by
  refine wpList_plain hg fun K' hK' => ?_
  obtain ⟨v', w', hr, r1⟩ := hrun o.type
  unfold Oper.wp
  simp [execOp, hop, resolve, invoke, builtin, hs, hx, hr, Result.andThen]
  exact hK' _ _ (hK v' w' r1)
/-- A slice of bytes of one's own, not below B. -/
def Buf (w : World) (B n : Nat) (v : Value) : Prop := ∃ ys : List Nat, ys.length = n ∧ (∀ y ∈ ys, y < 256) ∧ w.ownsRow B 5 1 v n (u8s ys)
theorem Buf.step {w : World} {B n g c : Nat} (h : Buf w B n (.slice (some ⟨g, 0, none⟩) n c)) {k : Nat} (hk : k < n) :
    ∃ y : Nat, y < 256 ∧ w.cell? ⟨g, k, none⟩ = some (.int .u8 (y : Nat)) ∧ w.frozen? ⟨g, k, none⟩ = false ∧ ∀ z : Nat, z < 256 → Buf (w.setCell ⟨g, k, none⟩ (.int .u8 (z : Nat))) B n (.slice (some ⟨g, 0, none⟩) n c) := by
  obtain ⟨ys, hl, hb, ho⟩ := h
  refine ⟨ys.getD k 0, ?_, ?_, ho.frozenAt k, fun z hz => ⟨ys.set k z, by simp [hl], fun y hy => ?_, ?_⟩⟩
  · rw [List.getD_eq_getElem?_getD, List.getElem?_eq_getElem (by omega)]; exact hb _ (List.getElem_mem _)
  · rw [ho.cellAt k (by omega)]; exact u8s_get ys k (by omega)
  · rcases List.mem_or_eq_of_mem_set hy with h | h
    · exact hb y h
    · omega
  · have := (ho.stored k (.int .u8 (z : Nat))).1
    rwa [show u8s (ys.set k z) = (u8s ys).set k (.int .u8 (z : Nat)) by simp [u8s, List.map_set]]
end Ju
end Go.Proofs.Ythejolhpoakheaa
