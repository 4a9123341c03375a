/- The document's side: chains. -/
import Derived.Test.YtbmdjmckgcjfcaaFd
import Derived.Test.YtbmdjmckgcjfcaaLc
namespace Go.Proofs.Ytbmdjmckgcjfcaa
open Go.RowKit
namespace Ch
open Lm Lc Bs Fa Fb

theorem ofInt64 (a : Nat) (ha : a < 18446744073709551616) : (BitVec.ofInt 64 (a : Int)).toNat = a := ofInt_u64 a ha
theorem i64_or_nat (a b : Nat) (ha : a < 4294967296) (hb : b < 4294967296) : bits .or .i64 (a : Int) (b : Int) = ((a ||| b : Nat) : Int) := by
  have hx : a ||| b < 2 ^ 32 := Nat.or_lt_two_pow (by omega) (by omega)
  show IntKind.i64.wrap ((BitVec.ofInt 64 (a : Int) ||| BitVec.ofInt 64 (b : Int)).toNat : Int) = _
  rw [BitVec.toNat_or, ofInt_u64 a (by omega), ofInt_u64 b (by omega), IntWalk.i64_left]
  unfold wrap64
  omega

/-- The first n cells of block L. -/
def Arr (w : World) (L n : Nat) (f : Nat → Int) : Prop := L < w.heap.size ∧ ∀ i, i < n → w.cell? ⟨L, i, none⟩ = some (.int .i64 (f i)) ∧ w.frozen? ⟨L, i, none⟩ = false
theorem Arr.of_block {w w' : World} {L n : Nat} {f : Nat → Int} (h : Arr w L n f) (e : w'.heap[L]? = w.heap[L]?) (hs : w.heap.size ≤ w'.heap.size) : Arr w' L n f :=
  ⟨Nat.lt_of_lt_of_le h.1 hs, fun i hi => ⟨(World.cell?_of_block e).trans (h.2 i hi).1, (World.frozen?_of_block e).trans (h.2 i hi).2⟩⟩
theorem Arr.other {w : World} {L n : Nat} {f : Nat → Int} (h : Arr w L n f) {g i : Nat} (hne : L ≠ g) (v : Value) : Arr (w.setCell ⟨g, i, none⟩ v) L n f := h.of_block (heap_setCell_other _ _ _ _ hne) (by simp)
theorem Arr.store {w : World} {L n : Nat} {f : Nat → Int} (h : Arr w L n f) {i : Nat} (hi : i < n) (x : Int) : Arr (w.setCell ⟨L, i, none⟩ (.int .i64 x)) L n (fun j => if j = i then x else f j) := by
  refine ⟨by simpa using h.1, fun j hj => ⟨?_, by simpa using (h.2 j hj).2⟩⟩
  by_cases e : j = i
  · subst e
    dsimp only
    rw [if_pos rfl]
    exact cell_same (h.2 j hj).1
  · dsimp only
    rw [if_neg e, cell_other (by simp <;> omega)]
    exact (h.2 j hj).1
theorem Arr.ext {w : World} {L n : Nat} {f f' : Nat → Int} (h : Arr w L n f) (e : ∀ i, i < n → f i = f' i) : Arr w L n f' := ⟨h.1, fun i hi => by rw [← e i hi]; exact h.2 i hi⟩
theorem Arr.drewN {w : World} {L n : Nat} {f : Nat → Int} (h : Arr w L n f) (m : Nat) : Arr (w.drewN m) L n f := h
theorem arr_made {w w' : World} {base n c : Nat} (h : w'.ownsRow base 3 1 (.slice (some ⟨w.heap.size, 0, none⟩) n c) n (madeCells (Value.int .i64 0).cells (n * 1)).toList) : Arr w' w.heap.size n (fun _ => 0) := by
  refine ⟨(h.lt _ rfl).2, fun i hi => ⟨?_, h.frozenAt i⟩⟩
  rw [h.cellAt i (by omega)]
  simp [madeCells, Value.cells, hi, Nat.mod_one]

/-- What chains holds ahead of place i. -/
def Cr (w wr : World) (b : List Nat) (n L O i : Nat) : Prop :=
  Arr wr L 65536 (fun x => (pb b x i : Nat)) ∧ Arr wr O n (fun j => if j < i then (pb b (p2 b j) j : Int) - 1 else 0) ∧ L ≠ O ∧ w.heap.size ≤ L ∧ w.heap.size ≤ O ∧ Below w.heap.size w wr
theorem cr_step {w wr : World} {b : List Nat} {n L O i : Nat} (hX : ∀ x ∈ b, x < 256) (h : Cr w wr b n L O i) (hi : i < n) : Cr w ((wr.setCell ⟨O, i, none⟩ (.int .i64 ((pb b (p2 b i) i : Int) - 1))).setCell ⟨L, p2 b i, none⟩ (.int .i64 ((i + 1 : Nat) : Int))) b n L O (i + 1) := by
  obtain ⟨h1, h2, h3, h4, h5, h6⟩ := h
  have hx := p2_lt hX i
  refine ⟨((h1.other (Ne.symm (Ne.symm h3)) _).store hx _).ext fun x hx => ?_, ((h2.store hi _).other (Ne.symm h3) _).ext fun j hj => ?_, h3, h4, h5, (h6.setCell h5 _).setCell h4 _⟩
  · simp only [pb]
    split <;> rfl
  · by_cases e : j = i
    · subst e; rw [if_pos rfl, if_pos (by omega)]
    · rw [if_neg e]
      by_cases e2 : j < i
      · rw [if_pos e2, if_pos (by omega)]
      · rw [if_neg e2, if_neg (by omega)]

set_option maxRecDepth 100000 in
set_option maxHeartbeats 2000000 in
theorem chains15 (w : World) (R : Nat → Prop) (v : Value) (b : List Nat) (hS : Src w R v b) (hR : ∀ k, R k → k < w.heap.size) (hX : ∀ x ∈ b, x < 256) (hl : b.length ≤ 17592186044416) :
    Calls Try.prog 15 #[v] w fun e w' => ∃ O, e = .returned (.slice (some ⟨O, 0, none⟩) b.length b.length) ∧ Arr w' O b.length (fun j => if j + 1 < b.length then (pb b (p2 b j) j : Int) - 1 else 0) ∧ w.heap.size ≤ O ∧ Below w.heap.size w w' := by
  obtain ⟨i0, hi, hz0, hz1, hz2⟩ := info_parts info3
  obtain ⟨ad, c, hv⟩ := hS.forms
  obtain ⟨n, hn⟩ : ∃ n, n = b.length := ⟨_, rfl⟩
  have HS := Lib.hid hS
  subst hv
  rw [← hn] at HS hl ⊢
  have HN := Lib.hid hn
  have HX := Lib.hid hX
  have HR := Lib.hid hR
  clear hS hX hn hR
  go_enter Try.func15, Try.ntmps15
  go_wp2_with (at_make; refine wpList_make_full _ rfl _ _ 41 rfl w.heap.size 3 i0 (.int .i64 0) 1 Try.underlying41 hi hz0 hz1 .i64 .i64 65536 65536 65536 rfl rfl (by omega) (by omega) (by rw [hz2]; omega) (by unfold maxLen; omega) (Nat.le_refl _) ?_)
  intro w1 hown1 hgrow1
  have A1 := Lib.hid (arr_made hown1)
  have B1 : Hid (Below w.heap.size w w1) := Lib.hid ⟨hgrow1.os, hgrow1.tape, hgrow1.output, hgrow1.size, fun k hk => hgrow1.block k hk (by simp)⟩
  have S1 : Hid (w.heap.size < w1.heap.size) := Lib.hid A1.out.1
  clear hown1 hgrow1
  go_wp2_with (at_make; refine wpList_make_full _ rfl _ _ 41 rfl w1.heap.size 3 i0 (.int .i64 0) 1 Try.underlying41 hi hz0 hz1 .i64 .i64 n n n rfl rfl rfl rfl (by rw [hz2]; omega) (by unfold maxLen; omega) (Nat.le_refl _) ?_)
  intro w2 hown2 hgrow2
  have A2 := Lib.hid (arr_made (w := w1) (w' := w2) (base := w1.heap.size) (n := n) (c := n) (by rw [Nat.mul_one]; exact hown2))
  have B2 : Hid (Below w.heap.size w w2) := Lib.hid (B1.out.trans ⟨hgrow2.os, hgrow2.tape, hgrow2.output, hgrow2.size, fun k hk => hgrow2.block k (by have := S1.out; omega) (by simp)⟩)
  have A12 : Hid (Arr w2 w.heap.size 65536 (fun _ => 0)) := Lib.hid (A1.out.of_block (hgrow2.block _ S1.out (by simp)) hgrow2.size)
  have R0 : Hid (Cr w w2 b n w.heap.size w1.heap.size 0) := Lib.hid ⟨A12.out, A2.out.ext fun i hi => by simp, by have := S1.out; omega, Nat.le_refl _, by have := S1.out; omega, B2.out⟩
  clear hown2 hgrow2 A1 A2 A12 B1 B2
  go_wp2_with fail
  obtain ⟨L, hL⟩ : ∃ L, L = w.heap.size := ⟨_, rfl⟩
  obtain ⟨O, hO⟩ : ∃ O, O = w1.heap.size := ⟨_, rfl⟩
  rw [← hL, ← hO]
  rw [← hL, ← hO] at R0
  have HL := Lib.hid hL
  clear hL hO S1
  go_loopw [5] (fun i wr => ∃ k, (k = 0 ∨ k + 1 ≤ n) ∧ i = .int .i64 (k : Nat) ∧ Cr w wr b n L O k) (fun i _ => n - (intOf i).toNat)
  case atStart => exact ⟨0, .inl rfl, rfl, R0.out⟩
  case round =>
    obtain ⟨k, hk, rfl, hC⟩ := hrel
    by_cases hlt : k + 1 < n
    · have hs := HS.out.below hC.2.2.2.2.2 (fun k hk => HR.out k hk)
      rcases hs with ⟨rfl, _⟩ | ⟨h0, q, off, c', he, hnc, hq, hcell⟩
      · have := HN.out; simp at this; omega
      · injection he with h1 h2 h3
        subst h1
        subst h3
        have e1 := hcell k (by have := HN.out; omega)
        have e2 := hcell (k + 1) (by have := HN.out; omega)
        have l1 := g_lt HX.out k
        have l2 := g_lt HX.out (k + 1)
        have hp := p2_lt HX.out k
        have hP : p2 b k = g b k * 256 + g b (k + 1) := rfl
        have hstep : Hid (∀ wq m, wq = wr.drewN m → Cr w ((wq.setCell ⟨O, k, none⟩ (.int .i64 ((pb b (p2 b k) k : Int) - 1))).setCell ⟨L, p2 b k, none⟩ (.int .i64 ((k + 1 : Nat) : Int))) b n L O (k + 1)) := Lib.hid fun wq m hm => by
          subst hm
          exact cr_step (wr := wr.drewN m) HX.out ⟨hC.1.drewN m, hC.2.1.drewN m, hC.2.2.1, hC.2.2.2.1, hC.2.2.2.2.1, ⟨hC.2.2.2.2.2.os, hC.2.2.2.2.2.tape, hC.2.2.2.2.2.output, hC.2.2.2.2.2.size, hC.2.2.2.2.2.block⟩⟩ (by omega)
        have hcl : wr.cell? ⟨L, p2 b k, none⟩ = some (.int .i64 (pb b (p2 b k) k : Nat)) ∧ wr.frozen? ⟨L, p2 b k, none⟩ = false := hC.1.2 (p2 b k) hp
        have hco := (hC.2.1.2 k (by omega))
        have hle := pb_le b (p2 b k) k
        obtain ⟨V, hV⟩ : ∃ V, V = pb b (p2 b k) k := ⟨_, rfl⟩
        rw [← hV] at hcl hstep hle
        obtain ⟨X, hX⟩ : ∃ X, X = g b k := ⟨_, rfl⟩
        obtain ⟨Y, hY⟩ : ∃ Y, Y = g b (k + 1) := ⟨_, rfl⟩
        rw [← hX] at e1 l1 hP
        rw [← hY] at e2 l2 hP
        obtain ⟨P, hPP⟩ : ∃ P, P = p2 b k := ⟨_, rfl⟩
        rw [← hPP] at hP hcl hp hstep
        have hor : bits .or .i64 ((X : Int) * 256) (Y : Int) = (P : Int) := by
          rw [show (X : Int) * 256 = ((X * 256 : Nat) : Int) from by omega, i64_or_nat _ _ (by omega) (by omega), join_lit 8 256 _ _ rfl (by omega) (by omega), hP]
        obtain ⟨d1, z1⟩ := hcl
        obtain ⟨d2, z2⟩ := hco
        have HC := Lib.hid hC
        have hLO : Hid (L ≠ O) := Lib.hid hC.2.2.1
        clear hP hC hcell hq h0 hV hX hY hPP h2
        go_upto_region 6 with (fail)
        go_quiet (fail)
        obtain ⟨wq, hwq⟩ : ∃ wq, wq = wr.drewN nq := ⟨_, rfl⟩
        have st := Lib.hid (hstep.out wq nq hwq)
        have d1' : wq.cell? ⟨L, P, none⟩ = some (.int .i64 (V : Nat)) := by rw [hwq]; exact d1
        have z1' : wq.frozen? ⟨L, P, none⟩ = false := by rw [hwq]; exact z1
        obtain ⟨u, d2'⟩ : ∃ u, wq.cell? ⟨O, k, none⟩ = some u := ⟨_, by rw [hwq]; exact d2⟩
        have z2' : wq.frozen? ⟨O, k, none⟩ = false := by rw [hwq]; exact z2
        rw [← hwq]
        have d3 : (wq.setCell ⟨O, k, none⟩ (.int .i64 ((V : Int) - 1))).cell? ⟨L, P, none⟩ = some (.int .i64 (V : Nat)) := by rw [cell_other (by intro e; injection e with e _ _; exact hLO.out e.symm)]; exact d1'
        clear d1 d2 z1 z2 hwq hstep e1 e2 hor
        go_wp2_with fail
        go_roundw
        case rel => exact ⟨k + 1, by omega, by go_num, by exact st.out⟩
        case measure => simp [intOf]; omega
    · have HC := Lib.hid hC
      clear hC
      go_wp2_with fail
      go_ret
      refine ⟨O, rfl, HC.out.2.1.ext fun j hj => ?_, by rw [← HL.out]; have := HC.out.2.2.2.2.1; rw [← HL.out] at this; exact this, HC.out.2.2.2.2.2⟩
      by_cases e : j + 1 < n
      · rw [if_pos e, if_pos (by omega)]
      · rw [if_neg e, if_neg (by omega)]
end Ch
end Go.Proofs.Ytbmdjmckgcjfcaa
