/- Books: what stands under texts, in memory. -/
import Derived.Test.YtalanjhpacjmmaaGreatKa
namespace Go.Proofs.YtalanjhpacjmmaaGreat
set_option maxRecDepth 100000
open Go.RowKit Go.Maps Go.ChangeMaps Go.MapKept Go.Sort
namespace Kb
open Jb Ka

/-- Only blocks of S have turned; blocks may have come. -/
structure Chg (w w' : World) (S : Nat → Prop) : Prop where
  os : w'.os = w.os
  tape : w'.tape = w.tape
  output : w'.output = w.output
  size : w.heap.size ≤ w'.heap.size
  block : ∀ k, k < w.heap.size → ¬ S k → w'.heap[k]? = w.heap[k]?
theorem Chg.refl (w : World) (S : Nat → Prop) : Chg w w S := ⟨rfl, rfl, rfl, Nat.le_refl _, fun _ _ _ => rfl⟩
theorem Chg.trans {a b c : World} {S S' : Nat → Prop} (h : Chg a b S) (k : Chg b c S') (f : ∀ k, S' k → k < a.heap.size → S k) : Chg a c S :=
  ⟨k.os.trans h.os, k.tape.trans h.tape, k.output.trans h.output, Nat.le_trans h.size k.size, fun i hi hg => (k.block i (Nat.lt_of_lt_of_le hi h.size) (fun e => hg (f i e hi))).trans (h.block i hi hg)⟩
theorem Chg.imp {a b : World} {S S' : Nat → Prop} (h : Chg a b S) (f : ∀ k, S k → k < a.heap.size → S' k) : Chg a b S' := ⟨h.os, h.tape, h.output, h.size, fun k hk hS => h.block k hk (fun e => hS (f k e hk))⟩
theorem Chg.drewN {a b : World} {S : Nat → Prop} (h : Chg a b S) (n : Nat) : Chg a (b.drewN n) S := ⟨h.os, h.tape, h.output, h.size, h.block⟩
theorem Chg.drew {a b : World} {S : Nat → Prop} (h : Chg a b S) : Chg a b.drew S := ⟨h.os, h.tape, h.output, h.size, h.block⟩
theorem Chg.setCell {a b : World} {S : Nat → Prop} (h : Chg a b S) {g i : Nat} (hg : S g) (v : Value) : Chg a (b.setCell ⟨g, i, none⟩ v) S :=
  ⟨h.os, h.tape, h.output, by simpa using h.size, fun k hk hS => by rw [heap_setCell_other _ _ _ _ (show k ≠ g from fun e => hS (e ▸ hg))]; exact h.block k hk hS⟩
theorem Chg.turned {a b c : World} {S : Nat → Prop} {m : Nat} (h : Chg a b S) (hg : m < a.heap.size → S m) (t : b.mapTurned c m) : Chg a c S := by
  have k := t.grown
  exact ⟨k.os.trans h.os, k.tape.trans h.tape, k.output.trans h.output, Nat.le_trans h.size k.size, fun i hi hS => (k.block i (Nat.lt_of_lt_of_le hi h.size) (fun e => hS (by cases e; exact hg hi))).trans (h.block i hi hS)⟩
theorem Chg.alloc {a b : World} {S : Nat → Prop} (h : Chg a b S) (o : Obj) : Chg a (b.alloc o) S :=
  ⟨h.os, h.tape, h.output, by simpa using Nat.le_succ_of_le h.size, fun k hk hS => (Below.heap_alloc b o k (Nat.lt_of_lt_of_le hk h.size)).trans (h.block k hk hS)⟩
theorem Chg.of_below {a b : World} {B : Nat} (h : Below B a b) (hB : a.heap.size ≤ B) (S : Nat → Prop) : Chg a b S := ⟨h.os, h.tape, h.output, h.size, fun k hk _ => h.block k (by omega)⟩
theorem Chg.grown {a b c : World} {S : Nat → Prop} {r : Option Nat} (h : Chg a b S) (k : b.grownBy c r) (hr : ∀ k, r = some k → k < a.heap.size → S k) : Chg a c S :=
  ⟨k.os.trans h.os, k.tape.trans h.tape, k.output.trans h.output, Nat.le_trans h.size k.size, fun i hi hS => (k.block i (Nat.lt_of_lt_of_le hi h.size) (fun e => hS (hr i e.symm hi))).trans (h.block i hi hS)⟩
theorem Chg.below {a b : World} {S : Nat → Prop} {B : Nat} (h : Chg a b S) (hB : ∀ k, S k → k < a.heap.size → B ≤ k) (hs : B ≤ a.heap.size) : Below B a b :=
  ⟨h.os, h.tape, h.output, h.size, fun k hk => h.block k (by omega) (fun e => by have := hB k e (by omega); omega)⟩
theorem heap_setCell_ne {w : World} {b i k : Nat} {v : Value} (h : k ≠ b) : (w.setCell ⟨b, i, none⟩ v).heap[k]? = w.heap[k]? := heap_setCell_other _ _ _ _ h
theorem mt_size {w w' : World} {m : Nat} (t : w.mapTurned w' m) : w.heap.size ≤ w'.heap.size := t.grown.size
theorem mt_block {w w' : World} {m k : Nat} (t : w.mapTurned w' m) (h : k ≠ m) : w'.heap[k]? = w.heap[k]? := by
  obtain ⟨es, clock, es', clock', hb, rfl⟩ := t
  exact heap_setBlock_other hb _ h
theorem new_cell (w : World) (vs : Array Value) (t : TypeId) (i : Nat) (v : Value) (h : vs[i]? = some v) : (w.alloc (.cells vs t)).cell? ⟨w.heap.size, i, none⟩ = some v := by
  rw [cell_of_row _ _ _ _ _ _ (heap_alloc_new _ _)]; exact h
theorem bdn {B : Nat} {a w : World} (h : Below B a w) (n : Nat) : Below B a (w.drewN n) := ⟨h.os, h.tape, h.output, h.size, h.block⟩
/-- The book at the cells o, o + 1 of block g: its map mo, which has at most N entries, holds F. -/
structure Bk (w : World) (g o : Nat) (mo : Option Nat) (N : Nat) (F : Fun) : Prop where
  c0 : w.cell? ⟨g, o, none⟩ = some (.map mo)
  c1 : ∃ q : Nat, q ≤ 9223372036854775807 ∧ w.cell? ⟨g, o + 1, none⟩ = some (.int .i64 (q : Nat))
  z : ∀ i, w.frozen? ⟨g, i, none⟩ = false
  ne : ∀ m, mo = some m → m ≠ g
  mn : mo = none → ∀ s, F s = none
  ms : ∀ m, mo = some m → Is w m N F
theorem Bk.lt {w : World} {g o N : Nat} {mo : Option Nat} {F : Fun} (h : Bk w g o mo N F) : g < w.heap.size := cell_lt h.c0
theorem Bk.mlt {w : World} {g o N m : Nat} {F : Fun} (h : Bk w g o (some m) N F) : m < w.heap.size := (h.ms m rfl).lt
theorem Bk.move {w w' : World} {g o N : Nat} {mo : Option Nat} {F : Fun} (h : Bk w g o mo N F) (e : w'.heap[g]? = w.heap[g]?) (e2 : ∀ m, mo = some m → w'.heap[m]? = w.heap[m]?) : Bk w' g o mo N F := by
  obtain ⟨q, hq, c1⟩ := h.c1
  exact ⟨(World.cell?_of_block e).trans h.c0, ⟨q, hq, (World.cell?_of_block e).trans c1⟩, fun i => (World.frozen?_of_block e).trans (h.z i), h.ne, h.mn, fun m hm => (h.ms m hm).of_block (e2 m hm)⟩
theorem Bk.below {w w' : World} {g o N : Nat} {mo : Option Nat} {F : Fun} (h : Bk w g o mo N F) (b : Below w.heap.size w w') : Bk w' g o mo N F :=
  h.move (b.block g h.lt) fun m hm => b.block m (by subst hm; exact h.mlt)
theorem Bk.mono {w : World} {g o N N' : Nat} {mo : Option Nat} {F : Fun} (h : Bk w g o mo N F) (hN : N ≤ N') : Bk w g o mo N' F := ⟨h.c0, h.c1, h.z, h.ne, h.mn, fun m hm => (h.ms m hm).mono hN⟩
theorem Bk.ext {w : World} {g o N : Nat} {mo : Option Nat} {F F' : Fun} (h : Bk w g o mo N F) (e : ∀ s, F s = F' s) : Bk w g o mo N F' := by
  obtain rfl : F = F' := funext e
  exact h
theorem Bk.look {t e : TypeId} {z : Value} (M : Mt t e z) {w : World} {g o N : Nat} {mo : Option Nat} {F : Fun} (h : Bk w g o mo N F) {s : ByteArray} (hs : s.size ≤ maxLen) :
    (Instr.lookup t (.map mo) (.string s) false).run Tryz.prog w = .ok ((F s).getD z) w := by
  cases mo with
  | none => rw [h.mn rfl s]; exact look_nil M w hs
  | some m => exact (h.ms m rfl).look M hs
theorem Bk.look_ok {t e : TypeId} {z : Value} (M : Mt t e z) {w : World} {g o N : Nat} {mo : Option Nat} {F : Fun} (h : Bk w g o mo N F) {s : ByteArray} (hs : s.size ≤ maxLen) :
    (Instr.lookup t (.map mo) (.string s) true).run Tryz.prog w = .ok (.tuple #[(F s).getD z, .bool (F s).isSome]) w := by
  cases mo with
  | none => rw [h.mn rfl s]; exact look_nil_ok M w hs
  | some m => exact (h.ms m rfl).look_ok M hs
theorem Bk.len {t e : TypeId} {z : Value} (M : Mt t e z) {w : World} {g o N : Nat} {mo : Option Nat} {F : Fun} (h : Bk w g o mo N F) : ∃ ns, Rw F ns ∧ (mo ≠ none → ns.length ≤ N) ∧ ∀ ty, (Builtin.len_ #[t] ty #[.map mo]).run Tryz.prog w = .ok (.int .i64 (ns.length : Nat)) w := by
  cases mo with
  | none => exact ⟨[], Rw.emp (h.mn rfl), fun e => absurd rfl e, fun ty => Maps.len_nil (P := Tryz.prog) (w := w) M.ht ty⟩
  | some m =>
    obtain ⟨D, h1, _, hk, h2⟩ := h.ms m rfl
    obtain ⟨ns, r1, r2, _⟩ := sorted_keys h1 hk (fun s q e => ((h2 s).2 q e).1)
    exact ⟨ns, r1, fun _ => by rw [← r2]; exact h1.size_le, fun ty => by rw [h1.len M.ht ty, r2]⟩
/-- A map that is stored to, in whatever world in which it lies as it lay. -/
theorem mt_G : Mt 57 72 (.pointer none) := ⟨Tryz.underlying57, fun w => by kernel_rfl⟩
theorem mt_K : Mt 60 91 (.pointer none) := ⟨Tryz.underlying60, fun w => by kernel_rfl⟩
theorem mt_T : Mt 77 94 (.pointer none) := ⟨Tryz.underlying77, fun w => by kernel_rfl⟩
theorem mt_V : Mt 136 96 (.pointer none) := ⟨Tryz.underlying136, fun w => by kernel_rfl⟩
theorem mt_X : Mt 141 98 (.agg #[]) := ⟨Tryz.underlying141, fun w => by kernel_rfl⟩
theorem mt_F : Mt 129 3 (.int .i64 0) := ⟨Tryz.underlying129, fun w => by kernel_rfl⟩
theorem mt_S : Mt 74 30 (.agg #[.string ⟨#[]⟩, .slice none 0 0]) := ⟨Tryz.underlying74, fun w => by kernel_rfl⟩
end Kb
end Go.Proofs.YtalanjhpacjmmaaGreat
