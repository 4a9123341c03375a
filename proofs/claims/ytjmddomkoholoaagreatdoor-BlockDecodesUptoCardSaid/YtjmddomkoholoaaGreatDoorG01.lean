import Derived.Test.YtjmddomkoholoaaGreatDoorG00
import Derived.Deep.RegionHeld
import Derived.Deep.LoopGhost
import Derived.RegionTactic

/- The program's side: fourAt, alike. -/
namespace Go.Proofs.YtjmddomkoholoaaGreatDoor
open Go.RowKit
namespace Fa
open Lm Bs

def f4 (b : List Nat) (i : Nat) : Nat := g b i * 16777216 + g b (i + 1) * 65536 + g b (i + 2) * 256 + g b (i + 3)

theorem join_lit (i K x y : Nat) (hK : K = 2 ^ i) (hx : x % K = 0) (hy : y < K) : x ||| y = x + y := by subst hK; exact nat_join i x y hx hy
set_option maxRecDepth 100000 in
theorem fourAt21 (w : World) (R : Nat → Prop) (v : Value) (b : List Nat) (a : Nat) (hS : Src w R v b) (hX : ∀ x ∈ b, x < 256) (ha : a + 4 ≤ b.length) (hl : b.length ≤ 140737488353272) :
    Calls Tryz.prog 178 #[v, .int .i64 (a : Nat)] w fun e w' => e = .returned (.int .u32 (f4 b a : Nat)) ∧ ∃ m, w' = w.drewN m := by
  rcases hS with ⟨rfl, _⟩ | ⟨h0, q, off, c, rfl, hc, hR, hcell⟩
  · simp at ha
  · have e0 := hcell a (by omega)
    have e1 := hcell (a + 1) (by omega)
    have e2 := hcell (a + 2) (by omega)
    have e3 := hcell (a + 3) (by omega)
    have l0 := g_lt hX a
    have l1 := g_lt hX (a + 1)
    have l2 := g_lt hX (a + 2)
    have l3 := g_lt hX (a + 3)
    have HF : Hid (f4 b a = g b a * 16777216 + g b (a + 1) * 65536 + g b (a + 2) * 256 + g b (a + 3)) := Lib.hid rfl
    obtain ⟨n, hn⟩ : ∃ n, n = b.length := ⟨_, rfl⟩
    rw [← hn] at ha hl hc ⊢
    obtain ⟨x0, h0⟩ : ∃ x, x = g b a := ⟨_, rfl⟩
    obtain ⟨x1, h1⟩ : ∃ x, x = g b (a + 1) := ⟨_, rfl⟩
    obtain ⟨x2, h2⟩ : ∃ x, x = g b (a + 2) := ⟨_, rfl⟩
    obtain ⟨x3, h3⟩ : ∃ x, x = g b (a + 3) := ⟨_, rfl⟩
    rw [← h0] at e0 l0 HF
    rw [← h1] at e1 l1 HF
    rw [← h2] at e2 l2 HF
    rw [← h3] at e3 l3 HF
    rw [show off + (a + 1) = off + (a + 1) from rfl] at e1
    clear h0 h1 h2 h3 hn hcell hX hR
    go_enter Tryz.func178, Tryz.ntmps178
    go_wp2_with fail
    go_quiet (fail)
    go_wp2_with fail
    go_ret
    refine ⟨?_, _, rfl⟩
    rw [HF.out]
    refine ret_int ?_
    rw [show (x0 : Int) * 16777216 = ((x0 * 16777216 : Nat) : Int) from by omega, show (x1 : Int) * 65536 = ((x1 * 65536 : Nat) : Int) from by omega, show (x2 : Int) * 256 = ((x2 * 256 : Nat) : Int) from by omega,
      u32_or_nat _ _ (by omega) (by omega), join_lit 24 16777216 _ _ rfl (by omega) (by omega), u32_or_nat _ _ (by omega) (by omega), join_lit 16 65536 _ _ rfl (by omega) (by omega), u32_or_nat _ _ (by omega) (by omega), join_lit 8 256 _ _ rfl (by omega) (by omega)]

set_option maxRecDepth 100000 in
theorem alike12 (w : World) (R : Nat → Prop) (v : Value) (b : List Nat) (p a : Nat) (hS : Src w R v b) (hp : p < a) (ha : a < b.length) (hl : b.length ≤ 140737488353272) :
    Calls Tryz.prog 166 #[v, .int .i64 (p : Nat), .int .i64 (a : Nat)] w fun e w' => e = .returned (.int .i64 (alike b p a : Nat)) ∧ ∃ m, w' = w.drewN m := by
  rcases hS with ⟨rfl, _⟩ | ⟨h0, q, off, c, rfl, hc, hR, hcell⟩
  · simp at ha
  · have HA : Hid (∀ n, n ≤ min (b.length - a) 131 → (∀ k, k < n → g b (p + k) = g b (a + k)) → (n = min (b.length - a) 131 ∨ g b (p + n) ≠ g b (a + n)) → alike b p a = n) := Lib.hid fun n h1 h2 h3 => alike_eq h1 h2 h3
    obtain ⟨n, hn⟩ : ∃ n, n = b.length := ⟨_, rfl⟩
    rw [← hn] at ha hl hc hcell HA ⊢
    obtain ⟨M, hM⟩ : ∃ M, M = min (n - a) 131 := ⟨_, rfl⟩
    rw [← hM] at HA
    have hM1 : M ≤ 131 := by omega
    have hM2 : a + M ≤ n := by omega
    have HC := Lib.hid hcell
    rcases (show ((n : Int) - (a : Int) = (M : Int) ∧ M < 131) ∨ (¬ (n : Int) - (a : Int) ≤ 131 ∧ 131 ≤ M) ∨ ((n : Int) - (a : Int) = 131 ∧ 131 ≤ M) from by omega) with ⟨hs, hlt⟩ | ⟨hs, hlt⟩ | ⟨hs, hlt⟩
    all_goals
      clear hcell hn hR hM h0 ha
      go_enter Tryz.func166, Tryz.ntmps166
      go_wp2_with fail
      go_loopw [8] (fun i wr => ∃ k, k ≤ M ∧ i = .int .i64 (k : Nat) ∧ (∀ j, j < k → g b (p + j) = g b (a + j)) ∧ ∃ m, wr = w.drewN m) (fun i _ => M - (intOf i).toNat)
      case atStart => exact ⟨0, Nat.zero_le _, rfl, fun j hj => by omega, 0, rfl⟩
      case round =>
        obtain ⟨k, hk, rfl, hall, hm⟩ := hrel
        have HALL := Lib.hid hall
        clear hall
        by_cases hkn : k < M
        · have e1 : wr.cell? ⟨q, off + (p + k), none⟩ = some (.int .u8 (g b (p + k) : Nat)) := by obtain ⟨m, rfl⟩ := hm; exact HC.out (p + k) (by omega)
          have e2 : wr.cell? ⟨q, off + (a + k), none⟩ = some (.int .u8 (g b (a + k) : Nat)) := by obtain ⟨m, rfl⟩ := hm; exact HC.out (a + k) (by omega)
          have i1 : (0 : Int) ≤ (p : Int) + (k : Int) := by omega
          have i2 : (p : Int) + (k : Int) < (n : Int) := by omega
          have i3 : ((p : Int) + (k : Int)).toNat = p + k := by omega
          have i4 : (0 : Int) ≤ (a : Int) + (k : Int) := by omega
          have i5 : (a : Int) + (k : Int) < (n : Int) := by omega
          have i6 : ((a : Int) + (k : Int)).toNat = a + k := by omega
          have HM := Lib.hid hm
          have g1 : decide (k < M) = true := by simpa using hkn
          have g2 : decide ((k : Int) < 131) = true := by simp; omega
          by_cases heq : g b (p + k) = g b (a + k)
          · have HE := Lib.hid heq
            rw [← heq] at e2
            obtain ⟨D, hD⟩ : ∃ D, D = g b (p + k) := ⟨_, rfl⟩
            rw [← hD] at e1 e2
            clear heq hD hm
            go_wp2_with fail
            go_quiet (fail)
            go_wp2_with fail
            go_roundw
            case rel =>
              refine ⟨k + 1, by omega, by go_num, fun j hj => ?_, by obtain ⟨m, rfl⟩ := HM.out; exact ⟨m + nq, by rw [World.drewN_drewN]⟩⟩
              by_cases e : j = k
              · subst e; exact HE.out
              · exact HALL.out j (by omega)
            case measure => simp [intOf]; omega
          · have HE := Lib.hid heq
            obtain ⟨D, hD⟩ : ∃ D, D = g b (p + k) := ⟨_, rfl⟩
            obtain ⟨E, hE⟩ : ∃ E, E = g b (a + k) := ⟨_, rfl⟩
            rw [← hD] at e1 heq
            rw [← hE] at e2 heq
            have hde : ((D : Int) == (E : Int)) = false := by rw [beq_eq_false_iff_ne]; omega
            clear heq hD hE hm
            go_wp2_with fail
            go_quiet (fail)
            go_wp2_with fail
            go_ret
            refine ⟨ret_int (by rw [HA.out k hk HALL.out (.inr HE.out)]), ?_⟩
            obtain ⟨m, rfl⟩ := HM.out
            exact ⟨m + nq, by rw [World.drewN_drewN]⟩
        · obtain rfl : k = M := by omega
          have HM := Lib.hid hm
          clear hm
          have g1 : decide (k < k) = false := by simp
          first
            | have g2 : decide ((k : Int) < 131) = false := by simp; omega
            | skip
          go_wp2_with fail
          go_quiet (fail)
          go_wp2_with fail
          go_ret
          refine ⟨ret_int (by rw [HA.out k hk HALL.out (.inl rfl)]), ?_⟩
          obtain ⟨m, rfl⟩ := HM.out
          exact ⟨m + nq, by rw [World.drewN_drewN]⟩
end Fa
end Go.Proofs.YtjmddomkoholoaaGreatDoor

/- The latest places of four bytes, in rows of places: plain mathematics. -/
namespace Go.Proofs.YtjmddomkoholoaaGreatDoor
namespace Lp
open Lm Fa

/-- The greatest place from lo on, below a place, at which the four bytes k stand. -/
def last (b : List Nat) (lo k : Nat) : Nat → Option Nat
  | 0 => none
  | q + 1 => if q < lo then none else if k = f4 b q then some q else last b lo k q
theorem last_low (b : List Nat) (lo k : Nat) {hi : Nat} (h : hi ≤ lo) : last b lo k hi = none := by
  cases hi with
  | zero => rfl
  | succ q => simp only [last]; rw [if_pos (by omega)]
theorem last_succ {b : List Nat} {lo N : Nat} (h : lo ≤ N) (k : Nat) : last b lo k (N + 1) = if k = f4 b N then some N else last b lo k N := by
  simp only [last]; rw [if_neg (by omega)]
theorem last_some {b : List Nat} {lo k : Nat} : ∀ {hi q : Nat}, last b lo k hi = some q → lo ≤ q ∧ q < hi ∧ k = f4 b q ∧ ∀ r, q < r → r < hi → k ≠ f4 b r := by
  intro hi
  induction hi with
  | zero => intro q h; cases h
  | succ n ih =>
    intro q h
    simp only [last] at h
    split at h
    · cases h
    · split at h
      · rename_i h1 h2
        cases h
        exact ⟨by omega, by omega, h2, fun r a b => by omega⟩
      · rename_i h1 h2
        obtain ⟨a1, a2, a3, a4⟩ := ih h
        refine ⟨a1, by omega, a3, fun r b1 b2 => ?_⟩
        by_cases e : r = n
        · subst e; exact h2
        · exact a4 r b1 (by omega)
theorem last_none {b : List Nat} {lo k : Nat} : ∀ {hi : Nat}, last b lo k hi = none → ∀ r, lo ≤ r → r < hi → k ≠ f4 b r := by
  intro hi
  induction hi with
  | zero => intro _ r _ h; omega
  | succ n ih =>
    intro h r h1 h2
    simp only [last] at h
    split at h
    · omega
    · split at h
      · cases h
      · rename_i h3 h4
        by_cases e : r = n
        · subst e; exact h4
        · exact ih h r h1 (by omega)

/-- s is where the row of the places noted last begins. -/
def RowAt (N s : Nat) : Prop := s % 65536 = 0 ∧ s ≤ N ∧ (N = 0 → s = 0) ∧ (0 < N → s < N ∧ N ≤ s + 65536)
theorem rowAt_zero : RowAt 0 0 := ⟨rfl, Nat.le_refl _, fun _ => rfl, fun h => by omega⟩
theorem rowAt_new {N s : Nat} (h : RowAt N s) (h0 : N % 65536 = 0) : RowAt (N + 1) N ∧ s = N - 65536 := by
  obtain ⟨h1, h2, h3, h4⟩ := h
  exact ⟨⟨h0, by omega, fun h => by omega, fun _ => by omega⟩, by omega⟩
theorem rowAt_on {N s : Nat} (h : RowAt N s) (h0 : N % 65536 ≠ 0) : RowAt (N + 1) s := by
  obtain ⟨h1, h2, h3, h4⟩ := h
  exact ⟨h1, by omega, fun h => by omega, fun _ => by omega⟩

theorem f4_same {b : List Nat} (hX : ∀ x ∈ b, x < 256) (p a : Nat) : f4 b a = f4 b p ↔ Same b p a := by
  have a0 := g_lt hX a
  have a1 := g_lt hX (a + 1)
  have a2 := g_lt hX (a + 2)
  have a3 := g_lt hX (a + 3)
  have p0 := g_lt hX p
  have p1 := g_lt hX (p + 1)
  have p2 := g_lt hX (p + 2)
  have p3 := g_lt hX (p + 3)
  unfold f4 Same
  omega
theorem f4_lt {b : List Nat} (hX : ∀ x ∈ b, x < 256) (a : Nat) : f4 b a < 4294967296 := by
  have a0 := g_lt hX a
  have a1 := g_lt hX (a + 1)
  have a2 := g_lt hX (a + 2)
  have a3 := g_lt hX (a + 3)
  unfold f4
  omega

/-- What the newer map has counts. -/
theorem newer_some {b : List Nat} (hX : ∀ x ∈ b, x < 256) {a s q : Nat} (h4 : a + 4 ≤ b.length) (h : last b s (f4 b a) a = some q) : latest b a = if a - q ≤ 65535 then some q else none := by
  obtain ⟨h1, h2, h3, h5⟩ := last_some h
  have h6 : ∀ r, q < r → r < a → ¬ Same b r a := fun r a1 a2 hs => h5 r a1 a2 ((f4_same hX r a).2 hs)
  split
  · rename_i h7
    exact latest_some h4 h2 ((f4_same hX q a).1 h3) h6 h7
  · rename_i h7
    exact latest_far h6 h7
/-- Else what the older map has. -/
theorem older_some {b : List Nat} (hX : ∀ x ∈ b, x < 256) {a s t q : Nat} (h4 : a + 4 ≤ b.length) (hsa : s ≤ a) (h0 : last b s (f4 b a) a = none) (h : last b t (f4 b a) s = some q) : latest b a = if a - q ≤ 65535 then some q else none := by
  obtain ⟨h1, h2, h3, h5⟩ := last_some h
  have h6 : ∀ r, q < r → r < a → ¬ Same b r a := fun r a1 a2 hs => by
    by_cases e : r < s
    · exact h5 r a1 e ((f4_same hX r a).2 hs)
    · exact last_none h0 r (by omega) a2 ((f4_same hX r a).2 hs)
  split
  · rename_i h7
    exact latest_some h4 (by omega) ((f4_same hX q a).1 h3) h6 h7
  · rename_i h7
    exact latest_far h6 h7
/-- Else there is none. -/
theorem both_none {b : List Nat} (hX : ∀ x ∈ b, x < 256) {a s : Nat} (hr : RowAt a s) (h0 : last b s (f4 b a) a = none) (h : last b (s - 65536) (f4 b a) s = none) : latest b a = none := by
  cases hl : latest b a with
  | none => rfl
  | some p =>
    obtain ⟨h1, h2, h3, h4⟩ := latest_spec hl
    obtain ⟨r1, r2, r3, r4⟩ := hr
    have h5 := (f4_same hX p a).2 h3
    by_cases e : p < s
    · exact absurd h5 (last_none h p (by omega) e)
    · exact absurd h5 (last_none h0 p (by omega) h2)
end Lp
end Go.Proofs.YtjmddomkoholoaaGreatDoor

/- The places that are noted: newPlaces, noteUpTo. -/
namespace Go.Proofs.YtjmddomkoholoaaGreatDoor
open Go.RowKit Go.Maps Go.ChangeMaps Go.MapKept
namespace Np
open Lm Bs Fa Lp

/-- The struct at block g. -/
structure Hp (w : World) (g : Nat) (v : Value) (N m1 m2 : Nat) : Prop where
  lt : g < w.heap.size
  c0 : w.cell? ⟨g, 0, none⟩ = some v
  c1 : w.cell? ⟨g, 1, none⟩ = some (.int .i64 (N : Nat))
  c2 : w.cell? ⟨g, 2, none⟩ = some (.map (some m1))
  c3 : w.cell? ⟨g, 3, none⟩ = some (.map (some m2))
  z1 : w.frozen? ⟨g, 1, none⟩ = false
  z2 : w.frozen? ⟨g, 2, none⟩ = false
  z3 : w.frozen? ⟨g, 3, none⟩ = false
theorem Hp.of_block {w w' : World} {g : Nat} {v : Value} {N m1 m2 : Nat} (h : Hp w g v N m1 m2) (e : w'.heap[g]? = w.heap[g]?) (hs : w.heap.size ≤ w'.heap.size) : Hp w' g v N m1 m2 :=
  ⟨Nat.lt_of_lt_of_le h.lt hs, (World.cell?_of_block e).trans h.c0, (World.cell?_of_block e).trans h.c1, (World.cell?_of_block e).trans h.c2, (World.cell?_of_block e).trans h.c3, (World.frozen?_of_block e).trans h.z1, (World.frozen?_of_block e).trans h.z2, (World.frozen?_of_block e).trans h.z3⟩
theorem Hp.swap0 {w : World} {g : Nat} {v : Value} {N m1 m2 : Nat} (h : Hp w g v N m1 m2) : Hp ((w.setCell ⟨g, 2, none⟩ (.map (some m2))).setCell ⟨g, 3, none⟩ (.map (some m1))) g v N m2 m1 := by
  refine ⟨by simpa using h.lt, ?_, ?_, ?_, ?_, by simpa using h.z1, by simpa using h.z2, by simpa using h.z3⟩
  · rw [cell_other (by simp), cell_other (by simp)]; exact h.c0
  · rw [cell_other (by simp), cell_other (by simp)]; exact h.c1
  · rw [cell_other (by simp)]; exact cell_same (u := .map (some m1)) h.c2
  · exact cell_same (u := .map (some m2)) (by rw [cell_other (by simp)]; exact h.c3)
theorem Hp.drew {w : World} {g : Nat} {v : Value} {N m1 m2 : Nat} (h : Hp w g v N m1 m2) : Hp w.drew g v N m1 m2 := ⟨h.lt, h.c0, h.c1, h.c2, h.c3, h.z1, h.z2, h.z3⟩
theorem Hp.swap {w : World} {g : Nat} {v : Value} {N m1 m2 : Nat} (h : Hp w g v N m1 m2) : Hp ((w.setCell ⟨g, 2, none⟩ (.map (some m2))).setCell ⟨g, 3, none⟩ (.map (some m1))).drew g v N m2 m1 := h.swap0.drew
theorem Hp.inc {w : World} {g : Nat} {v : Value} {N m1 m2 : Nat} (h : Hp w g v N m1 m2) : Hp (w.setCell ⟨g, 1, none⟩ (.int .i64 ((N + 1 : Nat) : Int))) g v (N + 1) m1 m2 := by
  refine ⟨by simpa using h.lt, ?_, cell_same h.c1, ?_, ?_, by simpa using h.z1, by simpa using h.z2, by simpa using h.z3⟩
  · rw [cell_other (by simp)]; exact h.c0
  · rw [cell_other (by simp)]; exact h.c2
  · rw [cell_other (by simp)]; exact h.c3

/-- Only blocks of S have turned; blocks may have come. -/
structure Chg (w w' : World) (S : Nat → Prop) : Prop where
  os : w'.os = w.os
  tape : w'.tape = w.tape
  output : w'.output = w.output
  size : w.heap.size ≤ w'.heap.size
  block : ∀ k, k < w.heap.size → ¬ S k → w'.heap[k]? = w.heap[k]?
theorem Chg.refl (w : World) (S : Nat → Prop) : Chg w w S := ⟨rfl, rfl, rfl, Nat.le_refl _, fun _ _ _ => rfl⟩
theorem Chg.trans {a b c : World} {S : Nat → Prop} (h : Chg a b S) (k : Chg b c S) : Chg a c S :=
  ⟨k.os.trans h.os, k.tape.trans h.tape, k.output.trans h.output, Nat.le_trans h.size k.size, fun i hi hg => (k.block i (Nat.lt_of_lt_of_le hi h.size) hg).trans (h.block i hi hg)⟩
theorem Chg.drewN {a b : World} {S : Nat → Prop} (h : Chg a b S) (n : Nat) : Chg a (b.drewN n) S := ⟨h.os, h.tape, h.output, h.size, h.block⟩
theorem Chg.drew {a b : World} {S : Nat → Prop} (h : Chg a b S) : Chg a b.drew S := ⟨h.os, h.tape, h.output, h.size, h.block⟩
theorem Chg.setCell {a b : World} {S : Nat → Prop} (h : Chg a b S) {g i : Nat} (hg : S g) (v : Value) : Chg a (b.setCell ⟨g, i, none⟩ v) S :=
  ⟨h.os, h.tape, h.output, by simpa using h.size, fun k hk hS => by rw [heap_setCell_other _ _ _ _ (show k ≠ g from fun e => hS (e ▸ hg))]; exact h.block k hk hS⟩
theorem Chg.turned {a b c : World} {S : Nat → Prop} {m : Nat} (h : Chg a b S) (hg : S m) (t : b.mapTurned c m) : Chg a c S := by
  have k := t.grown
  exact h.trans ⟨k.os, k.tape, k.output, k.size, fun i hi hS => k.block i hi (fun e => hS (by cases e; exact hg))⟩
theorem Chg.below {a b : World} {S : Nat → Prop} {B : Nat} (h : Chg a b S) (hB : ∀ k, S k → B ≤ k) (hs : B ≤ a.heap.size) : Below B a b :=
  ⟨h.os, h.tape, h.output, h.size, fun k hk => h.block k (by omega) (fun e => by have := hB k e; omega)⟩

/-- What is noted: the places below N, in two maps. -/
def Ps (w : World) (S : Nat → Prop) (g : Nat) (v : Value) (b : List Nat) (N : Nat) : Prop :=
  ∃ m1 m2 s n1 n2, (S g ∧ S m1 ∧ S m2) ∧ (m1 ≠ m2 ∧ m1 ≠ g ∧ m2 ≠ g) ∧ Hp w g v N m1 m2 ∧ RowAt N s ∧ (n1 ≤ N ∧ n2 ≤ N) ∧ Mp.Is w m1 n1 (fun k => last b s k N) ∧ Mp.Is w m2 n2 (fun k => last b (s - 65536) k s)
theorem Ps.move {w w' : World} {S : Nat → Prop} {g : Nat} {v : Value} {b : List Nat} {N : Nat} (h : Ps w S g v b N) (hs : w.heap.size ≤ w'.heap.size) (f : ∀ k, S k → k < w.heap.size → w'.heap[k]? = w.heap[k]?) : Ps w' S g v b N := by
  obtain ⟨m1, m2, s, n1, n2, hS, hne, hp, hr, hn, i1, i2⟩ := h
  exact ⟨m1, m2, s, n1, n2, hS, hne, hp.of_block (f g hS.1 hp.lt) hs, hr, hn, i1.of_block (f m1 hS.2.1 i1.lt), i2.of_block (f m2 hS.2.2 i2.lt)⟩

theorem new_cell (w : World) (vs : Array Value) (t : TypeId) (i : Nat) (v : Value) (h : vs[i]? = some v) : (w.alloc (.cells vs t)).cell? ⟨w.heap.size, i, none⟩ = some v := by
  rw [cell_of_row _ _ _ _ _ _ (heap_alloc_new _ _)]; exact h

set_option maxRecDepth 100000 in
theorem new10 (w : World) (ad : Option Addr) (n c : Nat) (b : List Nat) :
    Calls Tryz.prog 164 #[.slice ad n c] w fun e w' => e = .returned (.pointer (some ⟨w.heap.size + 2, 0, none⟩)) ∧ Ps w' (fun k => w.heap.size ≤ k ∧ k < w.heap.size + 3) (w.heap.size + 2) (.slice ad n c) b 0 ∧ Below w.heap.size w w' ∧ w'.heap.size = w.heap.size + 3 := by
  have hmm := @run_makeMap Tryz.prog
  go_enter Tryz.func164, Tryz.ntmps164
  go_wp2_with fail
  go_ret
  obtain ⟨x1, h1⟩ : ∃ x1, x1 = w.alloc (.map #[] 0) := ⟨_, rfl⟩
  obtain ⟨x2, h2⟩ : ∃ x2, x2 = x1.alloc (.map #[] 0) := ⟨_, rfl⟩
  have s1 : x1.heap.size = w.heap.size + 1 := by rw [h1]; simp
  have s2 : x2.heap.size = w.heap.size + 2 := by rw [h2]; simp [s1]
  have i1 := Mp.made w
  rw [← h1] at i1
  have i2 := Mp.made x1
  rw [← h2] at i2
  have i1' := i1.of_block (w' := x2) (by rw [h2]; exact Below.heap_alloc x1 _ _ (by omega))
  have b2 : Below w.heap.size w x2 := by rw [h2, h1]; exact ((Below.refl _ _).alloc (Nat.le_refl _) _).alloc (by simp) _
  rw [← h1, ← h2, ← s2]
  have i1'' := i1'.of_block (w' := x2.alloc (.cells #[.slice ad n c, .int .i64 0, .map (some w.heap.size), .map (some (w.heap.size + 1))] 203)) (Below.heap_alloc x2 _ _ (by omega))
  have i2'' := i2.of_block (w' := x2.alloc (.cells #[.slice ad n c, .int .i64 0, .map (some w.heap.size), .map (some (w.heap.size + 1))] 203)) (Below.heap_alloc x2 _ _ (by omega))
  rw [s1] at i2''
  refine ⟨rfl, ⟨w.heap.size, w.heap.size + 1, 0, 0, 0, ⟨⟨by omega, by omega⟩, ⟨by omega, by omega⟩, ⟨by omega, by omega⟩⟩, ⟨by omega, by omega, by omega⟩, ?_, rowAt_zero, ⟨Nat.le_refl _, Nat.le_refl _⟩, i1''.ext fun k => rfl, i2''.ext fun k => rfl⟩, b2.alloc (by omega) _, by simp [s2]⟩
  refine ⟨by simp, new_cell _ _ _ 0 _ rfl, new_cell _ _ _ 1 _ rfl, new_cell _ _ _ 2 _ rfl, new_cell _ _ _ 3 _ rfl, frozen_of_row _ _ _ _ _ (heap_alloc_new _ _), frozen_of_row _ _ _ _ _ (heap_alloc_new _ _), frozen_of_row _ _ _ _ _ (heap_alloc_new _ _)⟩
end Np
end Go.Proofs.YtjmddomkoholoaaGreatDoor

/- noteUpTo. -/
namespace Go.Proofs.YtjmddomkoholoaaGreatDoor
open Go.RowKit Go.Maps Go.ChangeMaps Go.MapKept
namespace Np
open Lm Bs Fa Lp

/-- Ahead of a place's note: the maps are those of its row. -/
def Mid (w : World) (S : Nat → Prop) (g : Nat) (v : Value) (b : List Nat) (N m1 m2 : Nat) : Prop :=
  ∃ s n1 n2, (S g ∧ S m1 ∧ S m2) ∧ (m1 ≠ m2 ∧ m1 ≠ g ∧ m2 ≠ g) ∧ Hp w g v N m1 m2 ∧ RowAt (N + 1) s ∧ (n1 ≤ N ∧ n2 ≤ N) ∧ Mp.Is w m1 n1 (fun k => last b s k N) ∧ Mp.Is w m2 n2 (fun k => last b (s - 65536) k s)

theorem mid_put {w w' : World} {S : Nat → Prop} {g : Nat} {v : Value} {b : List Nat} {N m1 m2 : Nat} (hX : ∀ x ∈ b, x < 256) (hN : N ≤ 140737488353272) (h : Mid w S g v b N m1 m2) (hrun : (Instr.mapUpdate 201 (.map (some m1)) (.int .u32 (f4 b N : Nat)) (.int .i64 (N : Nat))).run Tryz.prog w = .ok () w') :
    Ps (w'.setCell ⟨g, 1, none⟩ (.int .i64 ((N + 1 : Nat) : Int))) S g v b (N + 1) ∧ Chg w w' S ∧ Hp w' g v N m1 m2 := by
  obtain ⟨s, n1, n2, hS, hne, hp, hr, hn, i1, i2⟩ := h
  obtain ⟨w1, hrun1, i1', t⟩ := i1.put (k := f4 b N) (f4_lt hX N) hN (by omega)
  rw [hrun] at hrun1
  cases hrun1
  have gr := t.grown
  have hb : ∀ k, k < w.heap.size → k ≠ m1 → w'.heap[k]? = w.heap[k]? := fun k hk hne => gr.block k hk (fun e => hne (by cases e; rfl))
  have hp' := hp.of_block (hb g hp.lt (Ne.symm hne.2.1)) gr.size
  have i2' := i2.of_block (hb m2 i2.lt (Ne.symm hne.1))
  have o : ∀ k, k ≠ g → (w'.setCell ⟨g, 1, none⟩ (.int .i64 ((N + 1 : Nat) : Int))).heap[k]? = w'.heap[k]? := fun k hk => heap_setCell_other _ _ _ _ hk
  refine ⟨⟨m1, m2, s, n1 + 1, n2, hS, hne, hp'.inc, hr, ⟨by omega, by omega⟩, (i1'.ext fun k => ?_).of_block (o m1 hne.2.1), i2'.of_block (o m2 hne.2.2)⟩, (Chg.refl w S).turned hS.2.1 t, hp'⟩
  exact (last_succ (by have := hr.2.2.2 (by omega); omega) k).symm

/-- A row of places is forgotten: the maps change places, the newer one is cleared. -/
theorem mid_new {w w2 : World} {S : Nat → Prop} {g : Nat} {v : Value} {b : List Nat} {N m1 m2 s n1 n2 : Nat} (h0 : N % 65536 = 0) (hS : S g ∧ S m1 ∧ S m2) (hne : m1 ≠ m2 ∧ m1 ≠ g ∧ m2 ≠ g) (hp : Hp w g v N m1 m2) (hr : RowAt N s) (hn : n1 ≤ N ∧ n2 ≤ N)
    (i1 : Mp.Is w m1 n1 (fun k => last b s k N)) (i2 : Mp.Is w2 m2 0 (fun _ => none)) (t : ((w.setCell ⟨g, 2, none⟩ (.map (some m2))).setCell ⟨g, 3, none⟩ (.map (some m1))).drew.mapTurned w2 m2) : Mid w2 S g v b N m2 m1 ∧ Chg w w2 S := by
  obtain ⟨hr2, hs⟩ := rowAt_new hr h0
  have gr := t.grown
  obtain ⟨X, hX⟩ : ∃ X, X = ((w.setCell ⟨g, 2, none⟩ (.map (some m2))).setCell ⟨g, 3, none⟩ (.map (some m1))).drew := ⟨_, rfl⟩
  have o : ∀ k, k ≠ g → X.heap[k]? = w.heap[k]? := fun k hk => by rw [hX]; exact (heap_setCell_other _ _ _ _ hk).trans (heap_setCell_other _ _ _ _ hk)
  have sw := hp.swap
  rw [← hX] at sw t gr
  have cx : Chg w X S := by rw [hX]; exact (((Chg.refl w S).setCell hS.1 _).setCell hS.1 _).drew
  have hb : ∀ k, k < X.heap.size → k ≠ m2 → w2.heap[k]? = X.heap[k]? := fun k hk hne => gr.block k hk (fun e => hne (by cases e; rfl))
  have xs : w.heap.size ≤ X.heap.size := cx.size
  refine ⟨⟨N, 0, n1, ⟨hS.1, hS.2.2, hS.2.1⟩, ⟨Ne.symm hne.1, hne.2.2, hne.2.1⟩, sw.of_block (hb g sw.lt (Ne.symm hne.2.2)) gr.size, hr2, ⟨Nat.zero_le _, hn.1⟩, i2.ext fun k => (last_low b N k (Nat.le_refl _)).symm, ?_⟩, cx.turned hS.2.2 t⟩
  rw [← hs]
  exact (i1.of_block (o m1 hne.2.1)).of_block (hb m1 (by have := i1.lt; omega) hne.1)

theorem mid_drew {w : World} {S : Nat → Prop} {g : Nat} {v : Value} {b : List Nat} {N m1 m2 : Nat} (h : Mid w S g v b N m1 m2) (m : Nat) : Mid (w.drew.drewN m) S g v b N m1 m2 := by
  obtain ⟨s, n1, n2, hS, hne, hp, hr, hn, i1, i2⟩ := h
  exact ⟨s, n1, n2, hS, hne, hp.of_block rfl (Nat.le_refl _), hr, hn, i1.of_block rfl, i2.of_block rfl⟩
theorem mid_run {w : World} {S : Nat → Prop} {g : Nat} {v : Value} {b : List Nat} {N m1 m2 : Nat} (hX : ∀ x ∈ b, x < 256) (hN : N ≤ 140737488353272) (h : Mid w S g v b N m1 m2) : ∃ w', (Instr.mapUpdate 201 (.map (some m1)) (.int .u32 (f4 b N : Nat)) (.int .i64 (N : Nat))).run Tryz.prog w = .ok () w' := by
  obtain ⟨s, n1, n2, hS, hne, hp, hr, hn, i1, i2⟩ := h
  obtain ⟨w1, hrun1, _⟩ := i1.put (k := f4 b N) (f4_lt hX N) hN (by omega)
  exact ⟨w1, hrun1⟩
theorem Ps.mem {w : World} {S : Nat → Prop} {g : Nat} {v : Value} {b : List Nat} {N : Nat} (h : Ps w S g v b N) : S g := by
  obtain ⟨m1, m2, s, n1, n2, hS, _⟩ := h
  exact hS.1

set_option maxRecDepth 100000 in
set_option maxHeartbeats 2000000 in
theorem note20 (w : World) (S R : Nat → Prop) (g : Nat) (v : Value) (b : List Nat) (N a : Nat) (hP : Ps w S g v b N) (hS : Src w R v b) (hR : ∀ k, R k → ¬ S k) (hX : ∀ x ∈ b, x < 256) (hNa : N ≤ a) (ha : a + 4 ≤ b.length) (hl : b.length ≤ 140737488353272) :
    Calls Tryz.prog 177 #[.pointer (some ⟨g, 0, none⟩), .int .i64 (a : Nat)] w fun e w' => e = .returned (.tuple #[]) ∧ Ps w' S g v b a ∧ Chg w w' S := by
  obtain ⟨ad, c, rfl⟩ := hS.forms
  obtain ⟨n, hn⟩ : ∃ n, n = b.length := ⟨_, rfl⟩
  rw [← hn] at hP hS ha hl ⊢
  have HX := Lib.hid hX
  have HP := Lib.hid hP
  have HNL := Lib.hid hn
  have FS : Hid (∀ x, Chg w x S → Src x R (.slice ad n c) b) := Lib.hid fun x c => hS.move fun k hk hlt => c.block k hlt (hR k hk)
  clear hX hP hS hR hn
  go_enter Tryz.func177, Tryz.ntmps177
  go_wp2_with fail
  go_loopg [] (a - N) (fun gk wr => ∃ M, gk = a - M ∧ M ≤ a ∧ Ps wr S g (.slice ad n c) b M ∧ Chg w wr S)
  case atStart => exact ⟨N, rfl, hNa, HP.out, Chg.refl _ _⟩
  case round =>
    obtain ⟨M, rfl, hM, ⟨m1, m2, s, n1, n2, hS, hne, hp, hr, hn, i1, i2⟩, hch⟩ := hrel
    have c0 := hp.c0
    have c1 := hp.c1
    have c2 := hp.c2
    have c3 := hp.c3
    have z1 := hp.z1
    have z2 := hp.z2
    have z3 := hp.z3
    have HH := Lib.hid hp
    have HI1 := Lib.hid i1
    have HI2 := Lib.hid i2
    have HC := Lib.hid hch
    have HR := Lib.hid hr
    have HSS := Lib.hid hS
    have HNE := Lib.hid hne
    have HNN := Lib.hid hn
    clear hp i1 i2 hch hr hS hne hn
    by_cases hlt : M < a
    · by_cases h0 : M % 65536 = 0
      case' pos =>
        have hb0 : ((M : Int) % 65536 == 0) = true := by rw [beq_iff_eq]; omega
        go_upto_region 3 with (fail)
        go_region
        obtain ⟨X, hXw⟩ : ∃ X, X = ((wr.setCell ⟨g, 2, none⟩ (.map (some m2))).setCell ⟨g, 3, none⟩ (.map (some m1))).drew := ⟨_, rfl⟩
        have hsw := HH.out.swap
        have hi2 : Mp.Is X m2 n2 (fun k => last b (s - 65536) k s) := HI2.out.of_block (by rw [hXw]; exact (heap_setCell_other _ _ _ _ HNE.out.2.2).trans (heap_setCell_other _ _ _ _ HNE.out.2.2))
        rw [← hXw] at hsw ⊢
        have d2 := hsw.c2
        obtain ⟨w2, hclr, hj2, ht2⟩ := hi2.clear
        rw [hXw] at ht2
        have HM : Hid (Mid w2 S g (.slice ad n c) b M m2 m1 ∧ Chg w w2 S) := Lib.hid (by have h := mid_new h0 HSS.out HNE.out HH.out HR.out HNN.out HI1.out hj2 ht2; exact ⟨h.1, HC.out.trans h.2⟩)
        clear c0 c1 c2 c3 z1 z2 z3 hi2 ht2 hj2 hsw hXw
        go_wp2_with (at_builtin; refine Mp.wpList_clear rfl (.tmp 40) rfl m2 rfl hclr ?_)
        obtain ⟨ma, rfl⟩ : ∃ ma, ma = m2 := ⟨_, rfl⟩
        obtain ⟨mb, rfl⟩ : ∃ mb, mb = m1 := ⟨_, rfl⟩
        clear hclr d2 hb0 HH HI1 HI2 HC HR HSS HNE HNN
      case' neg =>
        have hb0 : ((M : Int) % 65536 == 0) = false := by rw [beq_eq_false_iff_ne]; omega
        go_upto_region 5 with (fail)
        obtain ⟨w2, rfl⟩ : ∃ w2, w2 = wr := ⟨_, rfl⟩
        obtain ⟨ma, rfl⟩ : ∃ ma, ma = m1 := ⟨_, rfl⟩
        obtain ⟨mb, rfl⟩ : ∃ mb, mb = m2 := ⟨_, rfl⟩
        have HM : Hid (Mid w2 S g (.slice ad n c) b M ma mb ∧ Chg w w2 S) := Lib.hid ⟨⟨s, n1, n2, HSS.out, HNE.out, HH.out, rowAt_on HR.out h0, HNN.out, HI1.out, HI2.out⟩, HC.out⟩
        clear c0 c1 c2 c3 z1 z2 z3 hb0 HH HI1 HI2 HC HR HSS HNE HNN
      all_goals
        obtain ⟨f2, f0, f1⟩ : w2.drew.cell? ⟨g, 2, none⟩ = some (.map (some ma)) ∧ w2.drew.cell? ⟨g, 0, none⟩ = some (.slice ad n c) ∧ w2.drew.cell? ⟨g, 1, none⟩ = some (.int .i64 (M : Nat)) := by
          obtain ⟨s, n1, n2, _, _, hp, _⟩ := HM.out.1
          exact ⟨hp.c2, hp.c0, hp.c1⟩
        have F21 : Hid (Calls Tryz.prog 178 #[.slice ad n c, .int .i64 (M : Nat)] w2.drew fun e x => e = .returned (.int .u32 (f4 b M : Nat)) ∧ ∃ m, x = w2.drew.drewN m) := Lib.hid (fourAt21 _ R _ b M (FS.out _ HM.out.2.drew) HX.out (by have := HNL.out; omega) (by have := HNL.out; omega))
        have HPUT : Hid (∀ x, (∃ m, x = w2.drew.drewN m) → ∃ w9, (Instr.mapUpdate 201 (.map (some ma)) (.int .u32 (f4 b M : Nat)) (.int .i64 (M : Nat))).run Tryz.prog x = .ok () w9 ∧ (Ps (w9.setCell ⟨g, 1, none⟩ (.int .i64 ((M + 1 : Nat) : Int))) S g (.slice ad n c) b (M + 1) ∧ Chg w w9 S ∧ Hp w9 g (.slice ad n c) M ma mb) ∧ (x.cell? ⟨g, 2, none⟩ = some (.map (some ma)) ∧ x.cell? ⟨g, 0, none⟩ = some (.slice ad n c) ∧ x.cell? ⟨g, 1, none⟩ = some (.int .i64 (M : Nat)))) := Lib.hid fun x hx => by
          obtain ⟨m, rfl⟩ := hx
          obtain ⟨hM1, hM2⟩ := HM.out
          have hM3 : Mid (w2.drew.drewN m) S g (.slice ad n c) b M ma mb := mid_drew hM1 m
          obtain ⟨w9, hrun⟩ := mid_run HX.out (by omega) hM3
          have h9 := mid_put HX.out (by omega) hM3 hrun
          exact ⟨w9, hrun, ⟨h9.1, (hM2.drew.drewN m).trans h9.2.1, h9.2.2⟩, f2, f0, f1⟩
        clear HM
        go_region_held (fun x => x.cell? ⟨g, 2, none⟩ = some (.map (some ma)) ∧ x.cell? ⟨g, 0, none⟩ = some (.slice ad n c) ∧ x.cell? ⟨g, 1, none⟩ = some (.int .i64 (M : Nat)))
          (first | exact ⟨f2, f0, f1⟩ | exact k9 | exact j9)
          (first | (go_at_call 178; refine F21.out.mono ?_; rintro e x9 ⟨rfl, hx9⟩; obtain ⟨w9, r9, p9, k9⟩ := HPUT.out x9 hx9; have j9 := (show w9.cell? ⟨g, 2, none⟩ = some (.map (some ma)) ∧ w9.cell? ⟨g, 0, none⟩ = some (.slice ad n c) ∧ w9.cell? ⟨g, 1, none⟩ = some (.int .i64 (M : Nat)) from ⟨p9.2.2.c2, p9.2.2.c0, p9.2.2.c1⟩); have P9 := Lib.hid p9; clear hx9 p9))
        have c1 := P9.out.2.2.c1
        have z1 := P9.out.2.2.z1
        clear k9 j9 r9
        go_wp2_with fail
        go_roundg (a - (M + 1))
        case measure => omega
        case rel => exact ⟨M + 1, rfl, by omega, P9.out.1, P9.out.2.1.setCell (Ps.mem P9.out.1) _⟩
    · obtain rfl : M = a := by omega
      have hPS : Hid (Ps wr S g (.slice ad n c) b M) := Lib.hid ⟨m1, m2, s, n1, n2, HSS.out, HNE.out, HH.out, HR.out, HNN.out, HI1.out, HI2.out⟩
      clear c0 c2 c3 z1 z2 z3 HH HI1 HI2 HR HSS HNE HNN
      go_wp2_with fail
      go_end0
      exact ⟨rfl, hPS.out, HC.out⟩
end Np
end Go.Proofs.YtjmddomkoholoaaGreatDoor
