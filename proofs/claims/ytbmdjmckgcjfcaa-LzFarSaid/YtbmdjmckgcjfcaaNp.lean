/- The places that are noted: newPlaces, noteUpTo. -/
import Derived.Test.YtbmdjmckgcjfcaaMp
import Derived.Test.YtbmdjmckgcjfcaaLp
import Derived.Deep.RegionHeld
import Derived.Deep.LoopGhost
import Derived.RegionTactic
namespace Go.Proofs.Ytbmdjmckgcjfcaa
open Go.RowKit Go.Maps Go.ChangeMaps Go.MapKept
namespace Np
open Lm Bs Fa Lp

/-- The struct at block g. -/
structure Hp (w : World) (g : Nat) (v : Value) (N m1 m2 : Nat) : Prop where
  lt : g < w.heap.size
  c0 : w.cell? ⟨g, 0, none⟩ = some v
  c1 : w.cell? ⟨g, 1, none⟩ = some (.int .i64 (N : Nat))
  c2 : w.cell? ⟨g, 2, none⟩ = some (.map (some m1))
  c3 : w.cell? ⟨g, 3, none⟩ = some (.map (some m2))
  z1 : w.frozen? ⟨g, 1, none⟩ = false
  z2 : w.frozen? ⟨g, 2, none⟩ = false
  z3 : w.frozen? ⟨g, 3, none⟩ = false
theorem Hp.of_block {w w' : World} {g : Nat} {v : Value} {N m1 m2 : Nat} (h : Hp w g v N m1 m2) (e : w'.heap[g]? = w.heap[g]?) (hs : w.heap.size ≤ w'.heap.size) : Hp w' g v N m1 m2 :=
  ⟨Nat.lt_of_lt_of_le h.lt hs, (World.cell?_of_block e).trans h.c0, (World.cell?_of_block e).trans h.c1, (World.cell?_of_block e).trans h.c2, (World.cell?_of_block e).trans h.c3, (World.frozen?_of_block e).trans h.z1, (World.frozen?_of_block e).trans h.z2, (World.frozen?_of_block e).trans h.z3⟩
theorem Hp.swap0 {w : World} {g : Nat} {v : Value} {N m1 m2 : Nat} (h : Hp w g v N m1 m2) : Hp ((w.setCell ⟨g, 2, none⟩ (.map (some m2))).setCell ⟨g, 3, none⟩ (.map (some m1))) g v N m2 m1 := by
  refine ⟨by simpa using h.lt, ?_, ?_, ?_, ?_, by simpa using h.z1, by simpa using h.z2, by simpa using h.z3⟩
  · rw [cell_other (by simp), cell_other (by simp)]; exact h.c0
  · rw [cell_other (by simp), cell_other (by simp)]; exact h.c1
  · rw [cell_other (by simp)]; exact cell_same (u := .map (some m1)) h.c2
  · exact cell_same (u := .map (some m2)) (by rw [cell_other (by simp)]; exact h.c3)
theorem Hp.drew {w : World} {g : Nat} {v : Value} {N m1 m2 : Nat} (h : Hp w g v N m1 m2) : Hp w.drew g v N m1 m2 := ⟨h.lt, h.c0, h.c1, h.c2, h.c3, h.z1, h.z2, h.z3⟩
theorem Hp.swap {w : World} {g : Nat} {v : Value} {N m1 m2 : Nat} (h : Hp w g v N m1 m2) : Hp ((w.setCell ⟨g, 2, none⟩ (.map (some m2))).setCell ⟨g, 3, none⟩ (.map (some m1))).drew g v N m2 m1 := h.swap0.drew
theorem Hp.inc {w : World} {g : Nat} {v : Value} {N m1 m2 : Nat} (h : Hp w g v N m1 m2) : Hp (w.setCell ⟨g, 1, none⟩ (.int .i64 ((N + 1 : Nat) : Int))) g v (N + 1) m1 m2 := by
  refine ⟨by simpa using h.lt, ?_, cell_same h.c1, ?_, ?_, by simpa using h.z1, by simpa using h.z2, by simpa using h.z3⟩
  · rw [cell_other (by simp)]; exact h.c0
  · rw [cell_other (by simp)]; exact h.c2
  · rw [cell_other (by simp)]; exact h.c3

/-- Only blocks of S have turned; blocks may have come. -/
structure Chg (w w' : World) (S : Nat → Prop) : Prop where
  os : w'.os = w.os
  tape : w'.tape = w.tape
  output : w'.output = w.output
  size : w.heap.size ≤ w'.heap.size
  block : ∀ k, k < w.heap.size → ¬ S k → w'.heap[k]? = w.heap[k]?
theorem Chg.refl (w : World) (S : Nat → Prop) : Chg w w S := ⟨rfl, rfl, rfl, Nat.le_refl _, fun _ _ _ => rfl⟩
theorem Chg.trans {a b c : World} {S : Nat → Prop} (h : Chg a b S) (k : Chg b c S) : Chg a c S :=
  ⟨k.os.trans h.os, k.tape.trans h.tape, k.output.trans h.output, Nat.le_trans h.size k.size, fun i hi hg => (k.block i (Nat.lt_of_lt_of_le hi h.size) hg).trans (h.block i hi hg)⟩
theorem Chg.drewN {a b : World} {S : Nat → Prop} (h : Chg a b S) (n : Nat) : Chg a (b.drewN n) S := ⟨h.os, h.tape, h.output, h.size, h.block⟩
theorem Chg.drew {a b : World} {S : Nat → Prop} (h : Chg a b S) : Chg a b.drew S := ⟨h.os, h.tape, h.output, h.size, h.block⟩
theorem Chg.setCell {a b : World} {S : Nat → Prop} (h : Chg a b S) {g i : Nat} (hg : S g) (v : Value) : Chg a (b.setCell ⟨g, i, none⟩ v) S :=
  ⟨h.os, h.tape, h.output, by simpa using h.size, fun k hk hS => by rw [heap_setCell_other _ _ _ _ (show k ≠ g from fun e => hS (e ▸ hg))]; exact h.block k hk hS⟩
theorem Chg.turned {a b c : World} {S : Nat → Prop} {m : Nat} (h : Chg a b S) (hg : S m) (t : b.mapTurned c m) : Chg a c S := by
  have k := t.grown
  exact h.trans ⟨k.os, k.tape, k.output, k.size, fun i hi hS => k.block i hi (fun e => hS (by cases e; exact hg))⟩
theorem Chg.below {a b : World} {S : Nat → Prop} {B : Nat} (h : Chg a b S) (hB : ∀ k, S k → B ≤ k) (hs : B ≤ a.heap.size) : Below B a b :=
  ⟨h.os, h.tape, h.output, h.size, fun k hk => h.block k (by omega) (fun e => by have := hB k e; omega)⟩

/-- What is noted: the places below N, in two maps. -/
def Ps (w : World) (S : Nat → Prop) (g : Nat) (v : Value) (b : List Nat) (N : Nat) : Prop :=
  ∃ m1 m2 s n1 n2, (S g ∧ S m1 ∧ S m2) ∧ (m1 ≠ m2 ∧ m1 ≠ g ∧ m2 ≠ g) ∧ Hp w g v N m1 m2 ∧ RowAt N s ∧ (n1 ≤ N ∧ n2 ≤ N) ∧ Mp.Is w m1 n1 (fun k => last b s k N) ∧ Mp.Is w m2 n2 (fun k => last b (s - 65536) k s)
theorem Ps.move {w w' : World} {S : Nat → Prop} {g : Nat} {v : Value} {b : List Nat} {N : Nat} (h : Ps w S g v b N) (hs : w.heap.size ≤ w'.heap.size) (f : ∀ k, S k → k < w.heap.size → w'.heap[k]? = w.heap[k]?) : Ps w' S g v b N := by
  obtain ⟨m1, m2, s, n1, n2, hS, hne, hp, hr, hn, i1, i2⟩ := h
  exact ⟨m1, m2, s, n1, n2, hS, hne, hp.of_block (f g hS.1 hp.lt) hs, hr, hn, i1.of_block (f m1 hS.2.1 i1.lt), i2.of_block (f m2 hS.2.2 i2.lt)⟩

theorem new_cell (w : World) (vs : Array Value) (t : TypeId) (i : Nat) (v : Value) (h : vs[i]? = some v) : (w.alloc (.cells vs t)).cell? ⟨w.heap.size, i, none⟩ = some v := by
  rw [cell_of_row _ _ _ _ _ _ (heap_alloc_new _ _)]; exact h

set_option maxRecDepth 100000 in
theorem new10 (w : World) (ad : Option Addr) (n c : Nat) (b : List Nat) :
    Calls Try.prog 10 #[.slice ad n c] w fun e w' => e = .returned (.pointer (some ⟨w.heap.size + 2, 0, none⟩)) ∧ Ps w' (fun k => w.heap.size ≤ k ∧ k < w.heap.size + 3) (w.heap.size + 2) (.slice ad n c) b 0 ∧ Below w.heap.size w w' ∧ w'.heap.size = w.heap.size + 3 := by
  have hmm := @run_makeMap Try.prog
  go_enter Try.func10, Try.ntmps10
  go_wp2_with fail
  go_ret
  obtain ⟨x1, h1⟩ : ∃ x1, x1 = w.alloc (.map #[] 0) := ⟨_, rfl⟩
  obtain ⟨x2, h2⟩ : ∃ x2, x2 = x1.alloc (.map #[] 0) := ⟨_, rfl⟩
  have s1 : x1.heap.size = w.heap.size + 1 := by rw [h1]; simp
  have s2 : x2.heap.size = w.heap.size + 2 := by rw [h2]; simp [s1]
  have i1 := Mp.made w
  rw [← h1] at i1
  have i2 := Mp.made x1
  rw [← h2] at i2
  have i1' := i1.of_block (w' := x2) (by rw [h2]; exact Below.heap_alloc x1 _ _ (by omega))
  have b2 : Below w.heap.size w x2 := by rw [h2, h1]; exact ((Below.refl _ _).alloc (Nat.le_refl _) _).alloc (by simp) _
  rw [← h1, ← h2, ← s2]
  have i1'' := i1'.of_block (w' := x2.alloc (.cells #[.slice ad n c, .int .i64 0, .map (some w.heap.size), .map (some (w.heap.size + 1))] 50)) (Below.heap_alloc x2 _ _ (by omega))
  have i2'' := i2.of_block (w' := x2.alloc (.cells #[.slice ad n c, .int .i64 0, .map (some w.heap.size), .map (some (w.heap.size + 1))] 50)) (Below.heap_alloc x2 _ _ (by omega))
  rw [s1] at i2''
  refine ⟨rfl, ⟨w.heap.size, w.heap.size + 1, 0, 0, 0, ⟨⟨by omega, by omega⟩, ⟨by omega, by omega⟩, ⟨by omega, by omega⟩⟩, ⟨by omega, by omega, by omega⟩, ?_, rowAt_zero, ⟨Nat.le_refl _, Nat.le_refl _⟩, i1''.ext fun k => rfl, i2''.ext fun k => rfl⟩, b2.alloc (by omega) _, by simp [s2]⟩
  refine ⟨by simp, new_cell _ _ _ 0 _ rfl, new_cell _ _ _ 1 _ rfl, new_cell _ _ _ 2 _ rfl, new_cell _ _ _ 3 _ rfl, frozen_of_row _ _ _ _ _ (heap_alloc_new _ _), frozen_of_row _ _ _ _ _ (heap_alloc_new _ _), frozen_of_row _ _ _ _ _ (heap_alloc_new _ _)⟩
end Np
end Go.Proofs.Ytbmdjmckgcjfcaa
