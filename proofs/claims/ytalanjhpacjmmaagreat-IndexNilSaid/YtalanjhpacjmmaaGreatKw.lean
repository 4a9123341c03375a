/- The law IndexNil. -/
import Derived.Test.YtalanjhpacjmmaaGreatKv
import Derived.Test.YtalanjhpacjmmaaGreatSq
namespace Go.Proofs.YtalanjhpacjmmaaGreat
set_option maxRecDepth 100000
open Go.RowKit Go.Maps Go.ChangeMaps Go.MapKept Go.Sort Go.Shelf
namespace Kw
open Jb Ka Kb Kc Kd Kf Kg Kh Ki Kj Kk Kl Km Kn Ko Kp Kq Kr Ks Kv Sa Sb Sg Sp

/-- Cells that hold texts and may be stored to: the second ones of l pairs. -/
def St (w : World) (a : Option Addr) (l : Nat) : Prop := ∀ i, i < l → ∃ b off, a = some ⟨b, off, none⟩ ∧ b < w.heap.size ∧ (∃ u, w.cell? ⟨b, off + i * 2 + 1, none⟩ = some (.string u)) ∧ ∀ k, w.frozen? ⟨b, k, none⟩ = false
theorem St.set {w : World} {a : Option Addr} {l : Nat} (h : St w a l) (p : Addr) (u : Tx) : St (w.setCell p (.string u)) a l := fun i hi => by
  obtain ⟨b, off, e, hb, ⟨v, hv⟩, hf⟩ := h i hi
  refine ⟨b, off, e, by simpa using hb, ?_, fun k => by simpa using hf k⟩
  by_cases ep : p = ⟨b, off + i * 2 + 1, none⟩
  · subst ep; exact ⟨u, cell_same hv⟩
  · exact ⟨v, (cell_other ep).trans hv⟩
theorem St.below {w w' : World} {a : Option Addr} {l : Nat} (h : St w a l) (b : Below w.heap.size w w') : St w' a l := fun i hi => by
  obtain ⟨q, off, e, hb, ⟨v, hv⟩, hf⟩ := h i hi
  have eb := b.block q hb
  exact ⟨q, off, e, Nat.lt_of_lt_of_le hb b.size, ⟨v, (World.cell?_of_block eb).trans hv⟩, fun k => (World.frozen?_of_block eb).trans (hf k)⟩
theorem wpList_app {P : Program} {ops : Array Oper} {rest : List Oper} {o : Oper} {a : Act} {w : World} {Q : Exit → Act → World → Prop} (hgd : o.guard = none) (s x : Operand) (t : TypeId)
    (ho : o.op = .call { callee := .builtin .append, args := #[s, x], argTypes := #[t, t] }) (v u v' : Value) (w' : World) (hs : a.eval s = v) (hx : a.eval x = u)
    (hr : ∀ ty, (Builtin.append_ #[t, t] ty #[v, u]).run P w = .ok v' w') (h : wpList P ops Q rest (a.put o.dst v') w') : wpList P ops Q (o :: rest) a w :=
  wpList_plain hgd fun _ hK => by
    unfold Oper.wp execOp
    simp only [ho, resolve, invoke, builtin, Sem.run_bind, Sem.run_pure, Result.andThen_ok, List.map_toArray, List.map_cons, List.map_nil, hs, hx, hr]
    exact hK _ _ h
theorem app_tags (y : World) (a : Option Addr) (c : Nat) (L : List Tg) (h : Ti y (.slice a L.length c) L) (hb : L.length * 32 ≤ 140737488355328) :
    ∃ a' c' y', (∀ ty, (Builtin.append_ #[28, 28] ty #[.slice (some ⟨y.heap.size, 0, none⟩) 0 0, .slice a L.length c]).run Tryz.prog (y.alloc (.cells #[] 36)) = .ok (.slice a' L.length c') y') ∧ y'.ownsRow y.heap.size 36 2 (.slice a' L.length c') L.length (tcs L) ∧ Below y.heap.size y y' := by
  obtain ⟨i0, hi, hz0, hz1, hz2⟩ := info_parts info37
  have bA := (Below.refl y.heap.size y).alloc (Nat.le_refl _) (.cells #[] 36)
  have OWN : (y.alloc (.cells #[] 36)).ownsRow y.heap.size 36 2 (.slice (some ⟨y.heap.size, 0, none⟩) 0 0) 0 [] := ⟨by simp, .inr ⟨y.heap.size, 0, #[], rfl, Nat.le_refl _, heap_alloc_new _ _, Nat.le_refl _, by unfold maxLen; omega, by simp, by simp⟩⟩
  rcases ti_cells h with ⟨rfl, rfl⟩ | ⟨ad, rfl, hc⟩
  · refine ⟨some ⟨y.heap.size, 0, none⟩, 0, _, fun ty => ?_, OWN, bA⟩
    simp [Builtin.append_, run_underlying Tryz.underlying28, sizeOf, typeInfo, zeroValue, hi, hz0, Builtin.lenOf, Builtin.firstCells, storeCells]
  · have hr : ∃ v' w', (Builtin.append_ #[28, 28] 0 #[.slice (some ⟨y.heap.size, 0, none⟩) 0 0, .slice (some ad) L.length c]).run Tryz.prog (y.alloc (.cells #[] 36)) = .ok v' w' ∧ w'.ownsRow y.heap.size 36 2 v' (0 + L.length) ([] ++ tcs L) ∧ (y.alloc (.cells #[] 36)).grownBy w' (Value.slice (some ⟨y.heap.size, 0, none⟩) 0 0).ownBlock ∧ (v' = .slice none 0 0 ↔ Value.slice (some ⟨y.heap.size, 0, none⟩) 0 0 = .slice none 0 0 ∧ L.length = 0) :=
      run_append_own (P := Tryz.prog) (y.alloc (.cells #[] 36)) y.heap.size 28 0 36 i0 _ 2 32 Tryz.underlying28 hi hz0 hz1 hz2 rfl (by decide) _ 0 [] OWN ad L.length c (tcs L) (tcs_len L) (fun j u hj => by
        have := hc j u hj
        exact (bA.cell (p := ad.add j) (cell_lt this)).trans this) (tcs_one L) (by unfold maxLen; omega) (by omega) (by simp)
    obtain ⟨v', w', r, o, g, _⟩ := hr
    rw [Nat.zero_add, List.nil_append] at o
    obtain ⟨a', c', rfl⟩ := own_forms2 o
    exact ⟨a', c', w', fun ty => r, o, bA.grown g (by simp) (fun k e => by cases e; exact Nat.le_refl _)⟩
theorem all_x (y : World) (B N x M : Nat) (U : Nat → Prop) (Q : Qs) (kd : Kk.Ks) (h : IX y B N x M U Q kd) (n : Tx) (hn : n.size ≤ maxLen) (hM : M ≤ 3518437208883) :
    Calls Tryz.prog 18 #[.pointer (some ⟨x, 0, none⟩), .string n] y fun e w' => ∃ ns v, e = .returned v ∧ Tn (fun s => Q s ∧ s.1 = n) ns ∧ ns.length ≤ M ∧ Tf w' y.heap.size v (rsOf ns) ∧ Below y.heap.size y w' := by
  obtain ⟨A, C, i, _, l, hl, e⟩ := h
  exact (all_i_f y B N x A C Q kd i n hn l e (by omega)).mono fun e' w' ⟨ns, v, h1, h2, h3⟩ => ⟨ns, v, h1, h2, Nat.le_trans (tn_len h2 l (fun s hs => e s hs.1)) hl, h3⟩
/-- The rows of an answer whose tags may be stored to. -/
def Yr (w : World) (va : Option Addr) (rs : List Sr) (lo : Nat) : Prop := ∀ i, i < rs.length → ∃ q, va = some ⟨q, 0, none⟩ ∧ lo ≤ q ∧ q < w.heap.size ∧ ∃ ta tc, w.cell? ⟨q, i * 2 + 1, none⟩ = some (.slice ta (rs.getD i s0).2.length tc) ∧ St w ta (rs.getD i s0).2.length ∧ ∀ k off, ta = some ⟨k, off, none⟩ → 0 < (rs.getD i s0).2.length → q < k
theorem Yr.set {w : World} {va : Option Addr} {rs : List Sr} {lo : Nat} (h : Yr w va rs lo) (b o : Nat) (hb : ∀ q, va = some ⟨q, 0, none⟩ → q < b) (u : Tx) : Yr (w.setCell ⟨b, o, none⟩ (.string u)) va rs lo := fun i hi => by
  obtain ⟨q, e, hl, hq, ta, tc, h1, h2, h3⟩ := h i hi
  refine ⟨q, e, hl, by simpa using hq, ta, tc, (cell_other fun e' => ?_).trans h1, h2.set _ u, h3⟩
  have := hb q e
  injection e' with e1
  omega
theorem Tf.yr {w : World} {lo : Nat} {va : Option Addr} {l vc : Nat} {rs : List Sr} (h : Tf w lo (.slice va l vc) rs) : Yr w va rs lo := fun i hi => by
  rcases h with ⟨a, c, _, rfl⟩ | ⟨q, c, e, h2, h3, h4⟩
  · simp at hi
  · cases e
    obtain ⟨ta, tc, k1, k2, k3, k4⟩ := h4.at_ i hi
    refine ⟨q, rfl, h3, h4.lt, ta, tc, k2, fun j hj => ?_, fun k off e hl => (k4 k (by rw [e]; rfl)).1⟩
    rcases k3 with ⟨a', c', e', e2⟩ | ⟨b, off, c', e', l1, l2, l3⟩
    · rw [e2] at hj; simp at hj
    · cases e'
      exact ⟨b, off, rfl, l2, ⟨_, (l3 j hj).2⟩, (k4 b rfl).2.2⟩
theorem tn_eq {s : Sr} {P : Sr → Prop} {ns : List (List UInt8)} (h : Tn P ns) (e : ∀ q, P q ↔ q = s) : rsOf ns = [s] := by
  have e1 : ns = [txt s] := by
    refine rows_ext h.1 (by simp) fun x => ?_
    rw [h.2 x]
    constructor
    · rintro ⟨q, hq, rfl⟩; rw [(e q).1 hq]; simp
    · intro hx
      simp at hx
      exact ⟨s, (e s).2 rfl, hx.symm⟩
  rw [e1]
  simp [rsOf, rd_of]
end Kw
end Go.Proofs.YtalanjhpacjmmaaGreat
