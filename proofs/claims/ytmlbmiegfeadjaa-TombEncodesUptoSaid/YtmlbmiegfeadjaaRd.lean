/- The reader: what it holds, and what Get, Left and Bad do to it. -/
import Derived.Test.YtmlbmiegfeadjaaAw
namespace Go.Proofs.Ytmlbmiegfeadjaa
open Go.RowKit
namespace Rd
open Bm Wr

/-- The reader at block g: its bytes, how many bits were read, whether it is bad. -/
structure Rh (w : World) (g : Nat) (s : Value) (bs : List Nat) (p : Nat) (bad : Bool) : Prop where
  lt : g < w.heap.size
  c0 : w.cell? ⟨g, 0, none⟩ = some s
  c1 : w.cell? ⟨g, 1, none⟩ = some (.int .i64 (p : Nat))
  c2 : w.cell? ⟨g, 2, none⟩ = some (.bool bad)
  z0 : w.frozen? ⟨g, 0, none⟩ = false
  z1 : w.frozen? ⟨g, 1, none⟩ = false
  z2 : w.frozen? ⟨g, 2, none⟩ = false
  ne : s.ownBlock ≠ some g
  own : ∃ B, w.ownsRow B 5 1 s bs.length (u8s bs)
theorem Rh.drewN {w : World} {g : Nat} {s : Value} {bs : List Nat} {p : Nat} {bad : Bool} (h : Rh w g s bs p bad) (n : Nat) : Rh (w.drewN n) g s bs p bad := ⟨h.lt, h.c0, h.c1, h.c2, h.z0, h.z1, h.z2, h.ne, h.own⟩
theorem Rh.forms {w : World} {g : Nat} {s : Value} {bs : List Nat} {p : Nat} {bad : Bool} (h : Rh w g s bs p bad) : ∃ a c, s = .slice a bs.length c := by
  obtain ⟨B, ho⟩ := h.own
  rcases Go.Joins.ownsRow_forms ho with ⟨rfl, h0⟩ | ⟨q, c, rfl⟩
  · exact ⟨none, 0, by rw [h0]⟩
  · exact ⟨_, _, rfl⟩

/-- Only block g has turned; blocks may have come. -/
structure Only (w w' : World) (g : Nat) : Prop where
  os : w'.os = w.os
  tape : w'.tape = w.tape
  output : w'.output = w.output
  size : w.heap.size ≤ w'.heap.size
  block : ∀ k, k < w.heap.size → k ≠ g → w'.heap[k]? = w.heap[k]?
theorem Only.refl (w : World) (g : Nat) : Only w w g := ⟨rfl, rfl, rfl, Nat.le_refl _, fun _ _ _ => rfl⟩
theorem Only.trans {a b c : World} {g : Nat} (h : Only a b g) (k : Only b c g) : Only a c g :=
  ⟨k.os.trans h.os, k.tape.trans h.tape, k.output.trans h.output, Nat.le_trans h.size k.size, fun i hi hg => (k.block i (Nat.lt_of_lt_of_le hi h.size) hg).trans (h.block i hi hg)⟩
theorem Only.drewN {a b : World} {g : Nat} (h : Only a b g) (n : Nat) : Only a (b.drewN n) g := ⟨h.os, h.tape, h.output, h.size, h.block⟩
theorem Only.below {a b : World} {g B : Nat} (h : Only a b g) (hB : B ≤ g) (hs : B ≤ a.heap.size) : Below B a b :=
  ⟨h.os, h.tape, h.output, h.size, fun k hk => h.block k (by omega) (by omega)⟩

set_option maxRecDepth 100000 in
theorem bad20 (w : World) (g : Nat) (s : Value) (bs : List Nat) (p : Nat) (bad : Bool) (h : Rh w g s bs p bad) :
    Calls Try.prog 41 #[.pointer (some ⟨g, 0, none⟩)] w fun e w' => e = .returned (.bool bad) ∧ w' = w := by
  have c2 := h.c2
  clear h
  go_enter Try.func41, Try.ntmps41
  go_wp2_with fail
  go_ret
  exact ⟨rfl, rfl⟩

set_option maxRecDepth 100000 in
theorem left21 (w : World) (g : Nat) (s : Value) (bs : List Nat) (p : Nat) (bad : Bool) (h : Rh w g s bs p bad) (hp : p ≤ 8 * bs.length) (hb : bs.length ≤ 140737488353272) :
    Calls Try.prog 38 #[.pointer (some ⟨g, 0, none⟩)] w fun e w' => e = .returned (.int .i64 ((8 * bs.length - p : Nat) : Int)) ∧ ∃ n, w' = w.drewN n := by
  obtain ⟨a, c, rfl⟩ := h.forms
  obtain ⟨n, hn⟩ : ∃ n, n = bs.length := ⟨_, rfl⟩
  have hc0 := h.c0
  have hc1 := h.c1
  rw [← hn] at hp hb hc0 ⊢
  clear h hn
  go_enter Try.func38, Try.ntmps38
  go_wp2_with fail
  go_quiet (fail)
  go_wp2
  go_ret
  exact ⟨ret_int (by omega), _, rfl⟩

theorem slice_of {w : World} {B n : Nat} {v : Value} {xs : List Value} (ho : w.ownsRow B 5 1 v n xs) : ∃ a c, v = .slice a n c := by
  rcases Go.Joins.ownsRow_forms ho with ⟨rfl, h0⟩ | ⟨q, c, rfl⟩
  · exact ⟨none, 0, by rw [h0]⟩
  · exact ⟨_, _, rfl⟩

set_option maxRecDepth 100000 in
theorem new16 (w : World) (s : Value) (bs : List Nat) (h : Is w s bs) (hb : bs.length ≤ 140737488353272) :
    Calls Try.prog 37 #[s] w fun e w' => ∃ g v, e = .returned (.pointer (some ⟨g, 0, none⟩)) ∧ Rh w' g v bs 0 false ∧ w.heap.size ≤ g ∧ (∀ k, v.ownBlock = some k → w.heap.size ≤ k) ∧ Below w.heap.size w w' := by
  have H := Lib.hid h
  clear h
  go_enter Try.func37, Try.ntmps37
  go_wp2_with (go_at_call 51; refine (clone30 _ _ _ H.out hb).mono ?_; rintro e w2 ⟨v, rfl, ho, bl⟩; obtain ⟨a, c, rfl⟩ := slice_of ho; have HO := Lib.hid ho; clear ho)
  go_ret
  have hsz := bl.size
  refine ⟨_, _, rfl, ⟨by simp, ?_, ?_, ?_, ?_, ?_, ?_, fun e => by have := HO.out.lt _ e; omega, _, HO.out.alloc _⟩, hsz, fun k e => (HO.out.lt k e).1, bl.alloc hsz _⟩
  all_goals first | (rw [cell_of_row _ _ _ _ _ _ (heap_alloc_new _ _)]; rfl) | exact frozen_of_row _ _ _ _ _ (heap_alloc_new _ _)
end Rd
end Go.Proofs.Ytmlbmiegfeadjaa
