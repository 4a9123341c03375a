/- The document's Escape. -/
import Derived.Test.YtalanjhpacjmmaaSg
import Derived.Deep.DeepAppendWide
namespace Go.Proofs.Ytalanjhpacjmmaa
set_option maxRecDepth 100000
open Go.RowKit
namespace Sh
open Jb Sa Sb Sc Sd Se Sf Sg

theorem bc_snoc (l : List UInt8) (c : UInt8) : Lib.byteCells (l ++ [c]) = Lib.byteCells l ++ [.int .u8 (c.toNat : Nat)] := by simp [Lib.byteCells]
theorem bc_u8s (l : List UInt8) : Lib.byteCells l = u8s (l.map UInt8.toNat) := by simp [Lib.byteCells, u8s]
theorem str_ba (l : List UInt8) : str (l.map UInt8.toNat) = ba l := by
  apply bl_inj
  rw [bl_ba]
  unfold bl str
  rw [strOfNums_data]
  simp only [List.map_map]
  have : ((fun n : Int => UInt8.ofNat n.toNat) ∘ (fun b : Nat => (b : Int)) ∘ UInt8.toNat) = id := by funext c; simp
  rw [this, List.map_id]
/-- A slice of one's own with these bytes. -/
def Ob (w : World) (B : Nat) (v : Value) (l : List UInt8) : Prop := w.ownsRow B 5 1 v l.length (Lib.byteCells l)
theorem Ob.forms {w : World} {B : Nat} {v : Value} {l : List UInt8} (h : Ob w B v l) : ∃ a m c, v = .slice a m c ∧ m = l.length := by
  obtain ⟨a, c, e⟩ := own_forms h
  exact ⟨a, _, c, e, rfl⟩
theorem ob_nil (w : World) (B : Nat) : Ob w B (.slice none 0 0) [] := World.ownsRow_nil _ _ _ _
theorem Ob.conv {w : World} {B : Nat} {v : Value} {l : List UInt8} (h : Ob w B v l) : (convert 75 9 v).run Try.prog w = .ok (.string (ba l)) w := by
  unfold Ob at h
  rw [bc_u8s] at h
  have := conv_own (bs := l.map UInt8.toNat) (by simpa using h)
  rwa [str_ba] at this
/-- One byte more. -/
theorem app1 {ops : Array Oper} {rest : List Oper} {o : Oper} {a : Act} {Q : Exit → Act → World → Prop} (hgd : o.guard = none) (s x : Operand)
    (ho : o.op = .call { callee := .builtin .append, args := #[s, x], argTypes := #[75, 75] }) (w : World) (B : Nat) (v : Value) (l : List UInt8) (c : UInt8) (hs : a.eval s = v)
    (hx : a.eval x = .slice (some ⟨w.heap.size, 0, none⟩) 1 1) (hown : Ob w B v l) (hB : B ≤ w.heap.size) (hl : l.length + 1 + (l.length + 1) / 4 + 192 ≤ 281474976710656)
    (h : ∀ v' w', Ob w' B v' (l ++ [c]) → Below B w w' → wpList Try.prog ops Q rest (a.put o.dst v') w') : wpList Try.prog ops Q (o :: rest) a (w.alloc (.cells #[.int .u8 (c.toNat : Nat)] 5)) := by
  obtain ⟨i0, hi, hz0, hz1, hz2⟩ := info_parts info5
  refine wpList_append_own_wide _ hgd s x 75 ho B 5 i0 (.int .u8 0) 1 1 Try.underlying75 hi hz0 hz1 hz2 rfl (by decide) v l.length _ hs (hown.alloc _) ⟨w.heap.size, 0, none⟩ 1 1 [.int .u8 (c.toNat : Nat)] hx rfl ?_ ?_ ?_ ?_ ?_ ?_
  · intro j u hj
    match j, hj with
    | 0, hj => simp at hj; subst hj; exact new_cell _ _ _ 0 _ rfl
  · intro u hu; simp at hu; subst hu; rfl
  · unfold maxLen; omega
  · omega
  · simp; omega
  · intro v' w' h1 h2 _
    refine h v' w' (by unfold Ob; rw [bc_snoc]; simpa using h1) ?_
    exact ((Below.refl B w).alloc hB _).grown h2 (by simp; omega) (fun k hk => (hown.lt k hk).1)
end Sh
end Go.Proofs.Ytalanjhpacjmmaa
