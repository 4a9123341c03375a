/- The index in memory: its blocks by what they are for. -/
import Derived.Test.YtalanjhpacjmmaaGreatKf
import Derived.Test.YtalanjhpacjmmaaGreatSp
namespace Go.Proofs.YtalanjhpacjmmaaGreat
set_option maxRecDepth 100000
open Go.RowKit Go.Maps Go.ChangeMaps Go.MapKept Go.Sort Go.Shelf
namespace Kg
open Jb Ka Kb Kc Kd Kf Sa Sb

abbrev Tx := ByteArray
/-- The books. -/
inductive Bo where
  | G
  | K
  | S (n : Tx)
  | T (n : Tx)
  | V (n k : Tx)
  | X (n k v : Tx)
  | F (n : Tx)
/-- What a block is for. -/
inductive Ro where
  | idx
  | grp (n : Tx)
  | vb (n k : Tx)
  | xb (n k v : Tx)
  | fb (n : Tx)
  | mp (b : Bo)
  | tg (n t : Tx)
def host : Bo → Ro
  | .G => .idx
  | .K => .idx
  | .S n => .grp n
  | .T n => .grp n
  | .V n k => .vb n k
  | .X n k v => .xb n k v
  | .F n => .fb n
def off : Bo → Nat
  | .K => 2
  | .T _ => 2
  | _ => 0
theorem host_off {a b : Bo} (h : host a = host b) (o : off a = off b) : a = b := by
  cases a <;> cases b <;> simp [host] at h <;> simp [off] at o <;> simp_all
theorem off_far {a b : Bo} (h : off a ≠ off b) : off a ≠ off b + 1 ∧ off a + 1 ≠ off b ∧ off a + 1 ≠ off b + 1 := by
  cases a <;> cases b <;> simp [off] at h ⊢
abbrev As := Ro → Option Nat
noncomputable def setA (A : As) (r : Ro) (o : Option Nat) : As := fun x => by classical exact if x = r then o else A x
theorem setA_same (A : As) (r : Ro) (o : Option Nat) : setA A r o r = o := by simp [setA]
theorem setA_other {A : As} {r x : Ro} {o : Option Nat} (h : x ≠ r) : setA A r o x = A x := by simp [setA, h]
abbrev Cs := Bo → Fun
noncomputable def setC (C : Cs) (b : Bo) (F : Fun) : Cs := fun x => by classical exact if x = b then F else C x
theorem setC_same (C : Cs) (b : Bo) (F : Fun) : setC C b F b = F := by simp [setC]
theorem setC_other {C : Cs} {b x : Bo} {F : Fun} (h : x ≠ b) : setC C b F x = C x := by simp [setC, h]
/-- A series' tags in memory, in a block of its own. -/
def Tv (w : World) (A : As) (n t : Tx) (v : Value) : Prop := ∃ a c L, v = .agg #[.string n, .slice a (List.length L) c] ∧ Ti w (.slice a L.length c) L ∧ (∀ b, (Value.slice a L.length c).ownBlock = some b → A (.tg n t) = some b)
/-- The index' books in memory. -/
structure Mem (w : World) (B N : Nat) (A : As) (C : Cs) : Prop where
  inj : ∀ r r' b, A r = some b → A r' = some b → r = r'
  lt : ∀ r b, A r = some b → B ≤ b ∧ b < w.heap.size
  bk : ∀ β g, A (host β) = some g → Bk w g (off β) (A (.mp β)) N (C β)
  hm : ∀ β, A (host β) = none → A (.mp β) = none
theorem Mem.move {w w' : World} {B N : Nat} {A : As} {C : Cs} (h : Mem w B N A C) (hs : w.heap.size ≤ w'.heap.size) (e : ∀ r b, A r = some b → w'.heap[b]? = w.heap[b]?) : Mem w' B N A C :=
  ⟨h.inj, fun r b hr => ⟨(h.lt r b hr).1, Nat.lt_of_lt_of_le (h.lt r b hr).2 hs⟩, fun β g hg => (h.bk β g hg).move (e _ g hg) (fun m hm => e _ m hm), h.hm⟩
theorem Mem.chg {w w' : World} {B N : Nat} {A : As} {C : Cs} {S : Nat → Prop} (h : Mem w B N A C) (c : Chg w w' S) (hS : ∀ r b, A r = some b → ¬ S b) : Mem w' B N A C :=
  h.move c.size fun r b hr => c.block b (h.lt r b hr).2 (hS r b hr)
theorem Mem.below {w w' : World} {B N : Nat} {A : As} {C : Cs} (h : Mem w B N A C) (b : Below w.heap.size w w') : Mem w' B N A C :=
  h.move b.size fun r k hr => b.block k (h.lt r k hr).2
theorem Mem.mono {w : World} {B N N' : Nat} {A : As} {C : Cs} (h : Mem w B N A C) (hN : N ≤ N') : Mem w B N' A C := ⟨h.inj, h.lt, fun β g hg => (h.bk β g hg).mono hN, h.hm⟩
/-- Another book of the same block. -/
theorem bk_other {w w' : World} {g o o2 N N2 : Nat} {mo mo' mo2 : Option Nat} {F F2 : Fun} (h : Bk w g o2 mo2 N2 F2) (t : Turn w w' g o mo mo' N F) (h1 : o2 ≠ o) (h2 : o2 ≠ o + 1) (h3 : o2 + 1 ≠ o) (h4 : o2 + 1 ≠ o + 1) (hm : ∀ m, mo2 = some m → mo ≠ some m) : Bk w' g o2 mo2 N2 F2 := by
  obtain ⟨q, hq, c1⟩ := h.c1
  refine ⟨(t.cell _ h1 h2).trans h.c0, ⟨q, hq, (t.cell _ h3 h4).trans c1⟩, fun i => (t.froz i).trans (h.z i), h.ne, h.mn, fun m e => (h.ms m e).of_block (t.chg.block m (h.ms m e).lt ?_)⟩
  rintro (e' | e')
  · exact h.ne m e e'
  · exact hm m e e'
/-- A book has turned. -/
theorem Mem.turn {w w' : World} {B N N' : Nat} {A : As} {C : Cs} (h : Mem w B N A C) {β : Bo} {g : Nat} (hg : A (host β) = some g) {mo' : Option Nat} {F : Fun} (t : Turn w w' g (off β) (A (.mp β)) mo' N' F) (hN : N ≤ N') (hB : B ≤ w.heap.size) :
    Mem w' B N' (setA A (.mp β) mo') (setC C β F) := by
  have hmo : ∀ m, mo' = some m → A (.mp β) = some m ∨ (w.heap.size ≤ m ∧ m < w'.heap.size) := fun m e => by
    rcases t.mo with e' | ⟨m', e', l⟩
    · exact .inl (by rw [← e', e])
    · rw [e'] at e; cases e; subst e'; exact .inr ⟨l, t.bk.mlt⟩
  have hnew : ∀ r b, setA A (.mp β) mo' r = some b → A r = some b ∨ (r = .mp β ∧ w.heap.size ≤ b ∧ b < w'.heap.size) := fun r b e => by
    by_cases hr : r = .mp β
    · subst hr
      rw [setA_same] at e
      exact (hmo b e).imp id (fun x => ⟨rfl, x⟩)
    · rw [setA_other hr] at e; exact .inl e
  have hhost : ∀ γ, setA A (.mp β) mo' (host γ) = A (host γ) := fun γ => setA_other (by cases γ <;> simp [host])
  refine ⟨fun r r' b hr hr' => ?_, fun r b hr => ?_, fun γ gg hgg => ?_, fun γ hγ => ?_⟩
  case refine_4 =>
    rw [hhost γ] at hγ
    have hc : γ ≠ β := fun e => by rw [e, hg] at hγ; cases hγ
    rw [setA_other (fun e => hc (by injection e))]
    exact h.hm γ hγ
  · rcases hnew r b hr with e | ⟨e, l, _⟩ <;> rcases hnew r' b hr' with e' | ⟨e', l', _⟩
    · exact h.inj r r' b e e'
    · have := (h.lt r b e).2; omega
    · have := (h.lt r' b e').2; omega
    · rw [e, e']
  · rcases hnew r b hr with e | ⟨_, l, l2⟩
    · have := h.lt r b e; have := t.chg.size; omega
    · omega
  · rw [hhost γ] at hgg
    by_cases hc : γ = β
    · subst hc
      obtain rfl : gg = g := Option.some.inj (hgg.symm.trans hg)
      rw [setA_same, setC_same]
      exact t.bk
    · rw [setC_other hc, setA_other (fun e => hc (by injection e))]
      have k := (h.bk γ gg hgg).mono hN
      have mm : ∀ m, A (.mp γ) = some m → A (.mp β) ≠ some m := fun m e e' => hc (by have := h.inj _ _ m e e'; injection this)
      by_cases hgg' : gg = g
      · subst hgg'
        have hh := h.inj _ _ gg hgg hg
        have ho : off γ ≠ off β := fun e => hc (host_off hh e)
        obtain ⟨o1, o2, o3⟩ := off_far ho
        exact bk_other k t ho o1 o2 o3 mm
      · have gl := (h.lt _ gg hgg).2
        refine k.move (t.chg.block gg gl ?_) (fun m e => t.chg.block m (h.lt _ m e).2 ?_)
        · rintro (e | e)
          · exact hgg' e
          · have := h.inj _ _ gg hgg e; cases γ <;> simp [host] at this
        · rintro (e' | e')
          · subst e'; have := h.inj _ _ m e hg; cases β <;> simp [host] at this
          · exact mm m e e'
/-- A new block, with its books. -/
theorem Mem.add {w : World} {B N : Nat} {A : As} {C C' : Cs} (h : Mem w B N A C) {r : Ro} {b : Nat} (hr : ∀ β, r ≠ .mp β) (hb : B ≤ b) (hl : b < w.heap.size) (hn : ∀ r', A r' ≠ some b) (hC : ∀ β, host β ≠ r → C' β = C β) (hk : ∀ β, host β = r → Bk w b (off β) (A (.mp β)) N (C' β)) :
    Mem w B N (setA A r (some b)) C' := by
  have hnew : ∀ q k, setA A r (some b) q = some k → (q ≠ r ∧ A q = some k) ∨ (q = r ∧ k = b) := fun q k e => by
    by_cases hq : q = r
    · subst hq; rw [setA_same] at e; exact .inr ⟨rfl, (Option.some.inj e).symm⟩
    · rw [setA_other hq] at e; exact .inl ⟨hq, e⟩
  refine ⟨fun q q' k e e' => ?_, fun q k e => ?_, fun γ g hg => ?_, fun γ hγ => ?_⟩
  case refine_4 =>
    rw [setA_other (fun e => hr γ e.symm)]
    by_cases e : host γ = r
    · rw [e, setA_same] at hγ; cases hγ
    · rw [setA_other e] at hγ; exact h.hm γ hγ
  · rcases hnew q k e with ⟨_, a⟩ | ⟨a, a2⟩ <;> rcases hnew q' k e' with ⟨_, a'⟩ | ⟨a', a2'⟩
    · exact h.inj q q' k a a'
    · subst a2'; exact absurd a (hn q)
    · subst a2; exact absurd a' (hn q')
    · rw [a, a']
  · rcases hnew q k e with ⟨_, a⟩ | ⟨_, a⟩
    · exact h.lt q k a
    · subst a; exact ⟨hb, hl⟩
  · rw [setA_other (fun e => hr γ e.symm)]
    rcases hnew _ g hg with ⟨a, a2⟩ | ⟨a, a2⟩
    · rw [hC γ a]; exact h.bk γ g a2
    · subst a2; exact hk γ a
/-- Some blocks are given up. -/
theorem Mem.drop {w : World} {B N : Nat} {A A' : As} {C C' : Cs} (h : Mem w B N A C) (hA : ∀ r b, A' r = some b → A r = some b) (hk : ∀ β g, A' (host β) = some g → A' (.mp β) = A (.mp β) ∧ C' β = C β) (hm : ∀ β, A' (host β) = none → A' (.mp β) = none) : Mem w B N A' C' :=
  ⟨fun r r' b e e' => h.inj r r' b (hA r b e) (hA r' b e'), fun r b e => h.lt r b (hA r b e), fun β g hg => by
    obtain ⟨e1, e2⟩ := hk β g hg
    rw [e1, e2]; exact h.bk β g (hA _ g hg), hm⟩
end Kg
end Go.Proofs.YtalanjhpacjmmaaGreat
