/- slices.Chunk by two. -/
import Derived.Test.YthaadpijfkmdiaaNr
import Derived.Deep.DeepCutAuto
namespace Go.Proofs.Ythaadpijfkmdiaa
open Go.RowKit Go.Shelf
attribute [local go_sem] Oper.semAt_some
namespace Ndt
open Jb Nm Na Nr

/-- How many chunks, and each. -/
def cl (n i : Nat) : Nat := min 2 (n - 2 * i)
def chk (b off n i : Nat) : Value := .slice (some ⟨b, off + 2 * i, none⟩) (cl n i) (cl n i)
/-- The numbers of chunks. -/
abbrev Ix (n : Nat) := { i : Nat // 2 * i < n }
def upto (n k : Nat) : List (Ix n) := ((List.range k).filterMap fun i => if h : 2 * i < n then some ⟨i, h⟩ else none)
theorem upto_succ {n k : Nat} (h : 2 * k < n) : upto n (k + 1) = upto n k ++ [⟨k, h⟩] := by
  unfold upto
  rw [List.range_succ, List.filterMap_append]
  simp [h]
theorem upto_len {n k : Nat} (h : 2 * k < n + 2) : (upto n k).length = k := by
  induction k with
  | zero => rfl
  | succ k ih => rw [upto_succ (by omega), List.length_append, ih (by omega)]; rfl
/-- What the iterator reads of memory. -/
def Kb (Bs Bn : Nat) (W W' : World) : Prop := W'.heap[Bs]? = W.heap[Bs]? ∧ W'.heap[Bn]? = W.heap[Bn]?
theorem kb_t {Bs Bn : Nat} {A B C : World} (h : Kb Bs Bn A B) (k : Kb Bs Bn B C) : Kb Bs Bn A C := ⟨k.1.trans h.1, k.2.trans h.2⟩
set_option maxRecDepth 100000
set_option maxHeartbeats 4000000
theorem clos41 (m l Bs Bn b off n c : Nat) (hn : n ≤ 1000000000000) (h2 : 2 ≤ n) (hc : n ≤ c) (hc9 : c ≤ 9223372036854775807) (J Jx : List (Ix n) → World → Prop)
    (hY : ∀ pre (x : Ix n) W1, J pre W1 → pre.length < n → YieldAt Fence.wide (m - 1) Try.prog l #[chk b off n x.1] W1 fun e W' =>
      (e = .returned (.bool true) ∧ J (pre ++ [x]) W' ∧ Kb Bs Bn W1 W') ∨ (e = .returned (.bool false) ∧ Jx (pre ++ [x]) W'))
    (hJ : ∀ s W, J s W → J s W.drew) (W : World) (hs : W.cell? ⟨Bs, 0, none⟩ = some (.slice (some ⟨b, off, none⟩) n c)) (h22 : W.cell? ⟨Bn, 0, none⟩ = some (.int .i64 2)) (h0 : J [] W) :
    CallsIn Fence.wide m Try.prog 41 #[.func (.yield l) #[] #[], .pointer (some ⟨Bs, 0, none⟩), .pointer (some ⟨Bn, 0, none⟩)] W fun e W' => (∃ v, e = .returned v) ∧
      ((∃ ys, ys = upto n ((n + 1) / 2) ∧ J ys W') ∨ (∃ pre : List (Ix n), True ∧ Jx pre W')) := by
  refine callsIn_of_wp Try.func41 rfl trivial ?_ rfl
  simp only [Try.ntmps41, List.size_toArray, List.length_cons, List.length_nil, Nat.reduceAdd, Nat.reduceSub, Array.replicate_succ, Array.replicate_zero, List.push_toArray, List.append_toArray, List.nil_append, List.cons_append]
  gi_wp2
  gi_loopw [4, 5] (fun i _ wr => ∃ k : Nat, 2 * k ≤ n + 1 ∧ i = .int .i64 ((2 * k : Nat) : Int) ∧ J (upto n k) wr ∧ Kb Bs Bn W wr) (fun i _ _ => n + 2 - (intOf i).toNat)
  case atStart => exact ⟨0, by omega, rfl, h0, ⟨rfl, rfl⟩⟩
  case round =>
    obtain ⟨k, hk, rfl, hJs, hkb⟩ := hrel
    have c1 := (World.cell?_of_block hkb.1).trans hs
    have c2 := (World.cell?_of_block hkb.2).trans h22
    by_cases hlt : 2 * k < n
    · by_cases h1 : n - 2 * k < 2
      · have e1 : n - 2 * k = 1 := by omega
        have hck : chk b off n k = .slice (some ⟨b, off + 2 * k, none⟩) 1 1 := by
          unfold chk cl; rw [show min 2 (n - 2 * k) = 1 by omega]
        obtain ⟨fn, tmps, assign, body, hy, hR⟩ := hY _ (⟨k, hlt⟩ : Ix n) wr.drew (hJ _ _ hJs) (by rw [upto_len (by omega)]; omega)
        simp only [hck] at hy
        have d1 := (World.cell?_of_block (w := wr) (w' := wr.drew) (a := ⟨Bs, 0, none⟩) rfl).trans c1
        have m1 : (if ((n - 2 * k : Nat) : Int) < 2 then ((n - 2 * k : Nat) : Int) else 2) = 1 := by
          split <;> omega
        gi_wp2
        gi_region
        try rw [m1]
        clear m1
        gi_wp2
        refine ⟨(fun h => (by cases h)), hR.mono ?_⟩
        rintro e W3 (⟨rfl, hJ3, hk3⟩ | ⟨rfl, hJx3⟩)
        · have c3 := (World.cell?_of_block (kb_t hkb (kb_t (B := wr.drew) ⟨rfl, rfl⟩ hk3)).2).trans h22
          gi_wp2
          go_roundw
          case rel => exact ⟨k + 1, by omega, by go_num, by rw [upto_succ hlt]; exact hJ3, kb_t hkb (kb_t (B := wr.drew) ⟨rfl, rfl⟩ hk3)⟩
          case measure => simp [intOf]; omega
        · gi_wp2
          refine bodyPost_ret (results_none rfl _ _ _) rfl ?_
          exact ⟨⟨_, rfl⟩, .inr ⟨_, trivial, hJx3⟩⟩
      · have e1 : 2 ≤ n - 2 * k := by omega
        have hck : chk b off n k = .slice (some ⟨b, off + 2 * k, none⟩) 2 2 := by
          unfold chk cl; rw [show min 2 (n - 2 * k) = 2 by omega]
        obtain ⟨fn, tmps, assign, body, hy, hR⟩ := hY _ (⟨k, hlt⟩ : Ix n) wr.drew (hJ _ _ hJs) (by rw [upto_len (by omega)]; omega)
        simp only [hck] at hy
        have d1 := (World.cell?_of_block (w := wr) (w' := wr.drew) (a := ⟨Bs, 0, none⟩) rfl).trans c1
        have m1 : (if ((n - 2 * k : Nat) : Int) < 2 then ((n - 2 * k : Nat) : Int) else 2) = 2 := by
          split <;> omega
        gi_wp2
        gi_region
        try rw [m1]
        clear m1
        gi_wp2
        refine ⟨(fun h => (by cases h)), hR.mono ?_⟩
        rintro e W3 (⟨rfl, hJ3, hk3⟩ | ⟨rfl, hJx3⟩)
        · have c3 := (World.cell?_of_block (kb_t hkb (kb_t (B := wr.drew) ⟨rfl, rfl⟩ hk3)).2).trans h22
          gi_wp2
          go_roundw
          case rel => exact ⟨k + 1, by omega, by go_num, by rw [upto_succ hlt]; exact hJ3, kb_t hkb (kb_t (B := wr.drew) ⟨rfl, rfl⟩ hk3)⟩
          case measure => simp [intOf]; omega
        · gi_wp2
          refine bodyPost_ret (results_none rfl _ _ _) rfl ?_
          exact ⟨⟨_, rfl⟩, .inr ⟨_, trivial, hJx3⟩⟩
    · gi_wp2
      go_end0
      exact ⟨⟨_, rfl⟩, .inl ⟨_, by rw [show (n + 1) / 2 = k by omega], hJs⟩⟩
end Ndt
end Go.Proofs.Ythaadpijfkmdiaa
