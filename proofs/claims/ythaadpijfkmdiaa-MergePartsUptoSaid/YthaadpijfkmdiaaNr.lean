/- A region that draws, in a round of a range over a function; rows of rows that no round turns. -/
import Derived.Test.YthaadpijfkmdiaaNa
import Derived.RangeFuncNested
import Derived.RangeFuncBound
import Derived.RangeFuncCalls
import Derived.RangeFuncLeaves
import Derived.RangeFuncStops
import Derived.RangeFuncBox
import Derived.RangeFuncWrites
import Derived.Shelf.Abstract
import Derived.OwnWalkIn
import Derived.TacticsInMore
import Derived.LoopNIn
import Derived.LoopIn
import Derived.OrdersIn
import Derived.OrdersHeld
import Derived.Deep.RegionHeldLaw
namespace Go.Proofs.Ythaadpijfkmdiaa
open Go.RowKit Go.Shelf
namespace Nr
open Jb Nm Na

/-- No operation is a defer statement. -/
def plainOps (ops : Array Oper) : Bool := ops.all fun o => match o.op with
  | .defer _ => false
  | _ => true
theorem plain_of {ops : Array Oper} (h : plainOps ops = true) {i : Nat} {o : Oper} (hi : ops[i]? = some o) : ∀ c, o.op ≠ .defer c := by
  intro c hc
  unfold plainOps at h
  rw [Array.all_eq_true_iff_forall_mem] at h
  have := h o (Array.mem_of_getElem? hi)
  rw [hc] at this
  cases this
/-- Nothing but the way on. -/
def On (R : Act → World → Prop) : Exit → Act → World → Prop := fun e a w => e = .normal ∧ R a w
theorem no_out (R : Act → World → Prop) : ¬ LetsOut (On R) := by
  rintro ⟨a, w, h, _⟩
  cases h
theorem rows_wide {n : Nat} {P : Program} {l : Nat} {row : String} {args : Array Value} {w : World} {R : Value → World → Prop} (h : Rows P row args w R) : RowsIn (Fence.wide.inRound l) n P row args w R := by
  intro c cs _
  obtain ⟨v, w', r, s⟩ := h c cs
  exact ⟨v, w', r, stepsIn_wide.2 s⟩
theorem op_in {P : Program} {ops : Array Oper} {l n : Nat} {Q : Exit → Act → World → Prop} {R : Act → World → Prop} (hd : plainOps ops = true) {i : Nat} {K K' : Act → World → Prop} {a : Act} {w : World}
    (h : wpOp P ops (On R) i K a w) (hK : ∀ a w, K a w → K' a w) : wpOpIn (Fence.wide.inRound l) n P ops Q i K' a w := by
  unfold wpOp at h
  unfold wpOpIn
  cases ho : ops[i]? with
  | none => rw [ho] at h; exact hK _ _ h
  | some o =>
    rw [ho] at h
    simp only at h ⊢
    by_cases hw : Region.wanted o (yielded ops a.tmps) = true
    · rw [if_pos hw] at h ⊢
      rcases h with h | ⟨_, h⟩
      · unfold Oper.wpIn
        refine ⟨fun f _ => trivial, ?_⟩
        rw [Oper.semAt_eq _ _ _ (plain_of hd ho)]
        unfold Oper.wp at h
        generalize (execOp a.eval o).run P w = r at *
        cases r with
        | ok x w' =>
          cases x <;> simp only [Oper.upon, Oper.uponIn] at h ⊢
          case value v => exact hK _ _ h
          case skip => exact hK _ _ h
          case defer d => exact hK _ _ h
          case enter f args =>
            refine ⟨fun h => (by cases h), CallsIn.inRound l (callsIn_wide.2 (h.mono fun e w'' he => ?_))⟩
            cases e with
            | returned v => exact hK _ _ he
            | panicked c => cases he.1
            | outgrown => exact absurd he (no_out R)
          case row row args => exact ⟨fun h => (by cases h), rows_wide (h.mono fun v w'' he => hK _ _ he)⟩
        | halt x w' =>
          cases x <;> simp only [Oper.upon, Oper.uponIn] at h ⊢
          case panic v => cases h.1
      · exact absurd h (no_out R)
    · rw [if_neg hw] at h ⊢
      exact ⟨fun f _ => trivial, hK _ _ h⟩
theorem any_in {P : Program} {ops : Array Oper} {l n : Nat} {md : Region.Mode} {Q : Exit → Act → World → Prop} {R : Act → World → Prop} (hd : plainOps ops = true) (hR : ∀ a w, R a w → Q .normal a w) :
    ∀ (fuel : Nat) (listed : Array Bool) (a : Act) (w : World), wpAny P md ops (On R) fuel listed a w → wpAnyIn (Fence.wide.inRound l) n P md ops Q fuel listed a w
  | 0, _, _, _, h => ⟨h.1, hR _ _ h.2.2⟩
  | fuel + 1, _, _, _, h => ⟨fun h0 => hR _ _ (h.1 h0).2, fun i hi => op_in hd (h.2 i hi) (fun a' w' h' => any_in hd hR fuel _ a' w' h')⟩
theorem region_round {id n l : Nat} {ops : Array Oper} {Q : Exit → Act → World → Prop} {R : Act → World → Prop} {S : World → Prop} {a : Act} {w : World} (hm : Try.prog.follows .mixedOrders = true) (hd : plainOps ops = true)
    (hS : S w.drew) (h : S w.drew → wpAnyH Try.prog .any ops (On R) S ops.size (Array.replicate ops.size false) a w.drew) (hR : ∀ a w, R a w → Q .normal a w) : (Code.region id ops true).wpIn (Fence.wide.inRound l) n Try.prog Q a w :=
  wpIn_region_any hm (any_in hd hR _ _ _ _ (wpAny_of_held _ _ _ _ (h hS)))

theorem region_round' {id n l : Nat} {ops : Array Oper} {Q : Exit → Act → World → Prop} {S : World → Prop} {a : Act} {w : World} (hm : Try.prog.follows .mixedOrders = true) (hd : plainOps ops = true)
    (hS : S w.drew) (h : S w.drew → wpAnyH Try.prog .any ops (On (Q .normal)) S ops.size (Array.replicate ops.size false) a w.drew) : (Code.region id ops true).wpIn (Fence.wide.inRound l) n Try.prog Q a w :=
  region_round hm hd hS h (fun _ _ h => h)

/-! What no turn of other things moves. -/
theorem at4_kept {W W' : World} {row : Option Nat} {b o : Nat} {x : V4} (h : At4 W b o x) (hg : W.grownBy W' row) (hr : ∀ r, row = some r → ∃ o : Obj, W.heap[r]? = some o ∧ o.isCells = false) : At4 W' b o x :=
  ⟨cell_kept h.1 hg hr, cell_kept h.2.1 hg hr, cell_kept h.2.2.1 hg hr, cell_kept h.2.2.2 hg hr⟩
theorem sl_kept {W W' : World} {row : Option Nat} {v : Value} {L : List V4} (h : Sl W v L) (hg : W.grownBy W' row) (hr : ∀ r, row = some r → ∃ o : Obj, W.heap[r]? = some o ∧ o.isCells = false) : Sl W' v L := by
  rcases h with h | ⟨q, off, c, h1, h2, h3, h4⟩
  · exact .inl h
  · exact .inr ⟨q, off, c, h1, h2, Nat.lt_of_lt_of_le h3 hg.size, fun i hi => at4_kept (h4 i hi) hg hr⟩
theorem vs_kept {W W' : World} {row : Option Nat} {vals : List Value} {LL : List (List V4)} (h : Vs W vals LL) (hg : W.grownBy W' row) (hr : ∀ r, row = some r → ∃ o : Obj, W.heap[r]? = some o ∧ o.isCells = false) : Vs W' vals LL :=
  ⟨h.1, fun i hi => sl_kept (h.2 i hi) hg hr⟩
theorem own_kept {W W' : World} {row : Option Nat} {n₀ size k : Nat} {e : TypeId} {v : Value} {xs : List Value} (h : W.ownsRow n₀ e size v k xs) (hg : W.grownBy W' row) (hrow : ∀ r, row = some r → ∃ o : Obj, W.heap[r]? = some o ∧ o.isCells = false) : W'.ownsRow n₀ e size v k xs := by
  refine h.kept hg ?_
  rcases h.2 with ⟨rfl, _⟩ | ⟨g, cap, cur, rfl, _, hgb, _⟩
  · exact .inl rfl
  · refine .inr fun e' => ?_
    obtain ⟨o, ho, hc⟩ := hrow g (by simpa [Value.ownBlock] using e'.symm)
    rw [hgb] at ho; cases ho; cases hc
theorem boxed_kept {W W' : World} {row : Option Nat} {B : Nat} {t : TypeId} {v : Value} (h : Boxed W B t v) (hg : W.grownBy W' row) (hrow : ∀ r, row = some r → ∃ o : Obj, W.heap[r]? = some o ∧ o.isCells = false) : Boxed W' B t v :=
  h.kept hg (fun e' => by obtain ⟨o, ho, hc⟩ := hrow B e'.symm; rw [show W.heap[B]? = _ from h] at ho; cases ho; cases hc)
end Nr
end Go.Proofs.Ythaadpijfkmdiaa
