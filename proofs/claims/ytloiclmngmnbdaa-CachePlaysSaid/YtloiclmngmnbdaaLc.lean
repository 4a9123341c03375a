/- seek, span; reach. -/
import Derived.Test.YtloiclmngmnbdaaLb
namespace Go.Proofs.Ytloiclmngmnbdaa
open Go.RowKit Go.Maps Go.ChangeMaps Go.MapKept
namespace Lc
open Jb Ca Ck Ct Cd Ls Lb

set_option maxRecDepth 100000
theorem seek52 (w : World) (b off c : Nat) (L : List Pnt) (t : Int) (h : Rw w b off L) (hr : Rise L) (hn : L.length ≤ 1000000000) :
    Calls Try.prog 52 #[.slice (some ⟨b, off, none⟩) L.length c, .int .i64 t] w fun e w' => e = .returned (.tuple #[.int .i64 (cnt t L : Nat), .bool (has t L)]) ∧ Below w.heap.size w w' := by
  have H := Lib.hid (bsf67 w b off c L t h hr hn)
  generalize L.length = n at *
  clear h hr hn
  go_enter Try.func52, Try.ntmps52
  go_wp2_with (go_at_call 67; refine H.out.mono ?_; rintro e w' ⟨rfl, hb2⟩)
  go_ret2
  exact ⟨rfl, hb2⟩
theorem span43 (w : World) (b off c : Nat) (L : List Pnt) (s t : Int) (h : Rw w b off L) (hr : Rise L) (hn : L.length ≤ 1000000000) :
    Calls Try.prog 43 #[.slice (some ⟨b, off, none⟩) L.length c, .int .i64 s, .int .i64 t] w fun e w' => e = .returned (.tuple #[.int .i64 (cnt s L : Nat), .int .i64 (max (cnt s L) (upto t L) : Nat)]) ∧ Below w.heap.size w w' := by
  have H1 := Lib.hid (fun w (h : Rw w b off L) => seek52 w b off c L s h hr hn)
  have H2 := Lib.hid (fun w (h : Rw w b off L) => seek52 w b off c L t h hr hn)
  have HW := Lib.hid h
  have c1 := cnt_le s L
  have c2 := cnt_le t L
  obtain ⟨A, hA⟩ : ∃ A, A = cnt s L := ⟨_, rfl⟩
  obtain ⟨B, hB⟩ : ∃ B, B = cnt t L := ⟨_, rfl⟩
  obtain ⟨M, hM⟩ : ∃ M, M = max (cnt s L) (upto t L) := ⟨_, rfl⟩
  rw [← hM, ← hA]
  have hM' : M = max A (B + if has t L then 1 else 0) := by rw [hM, hA, hB]; rfl
  rw [← hA] at H1 c1
  rw [← hB] at H2 c2
  have hA9 : A ≤ 1000000000 := by omega
  have hB9 : B ≤ 1000000000 := by omega
  generalize has s L = q1 at H1
  generalize L.length = n at *
  have key : ∀ E : Nat, M = max A E → ∀ (ty : TypeId) (y : World), (Builtin.max_ #[3, 3] ty #[.int .i64 (A : Nat), .int .i64 (E : Nat)]).run Try.prog y = .ok (.int .i64 (M : Nat)) y := by
    intro E hE ty y
    rw [run_max_int2]
    have e : (if (E : Int) > (A : Int) then (E : Int) else (A : Int)) = (M : Nat) := by split <;> omega
    rw [e]
  by_cases hq : has t L = true
  · rw [hq] at hM' H2
    simp only [if_true] at hM'
    have K := key (B + 1) hM'
    push_cast at K
    have hw : wrap64 ((B : Int) + 1) = (B : Int) + 1 := by unfold wrap64; omega
    clear key h hr hn hM hM' hA hB c1 c2 hq
    go_enter Try.func43, Try.ntmps43
    go_wp2_with fail
    refine (H1.out _ HW.out).mono ?_
    rintro e w1 ⟨rfl, hb1⟩
    have HB1 := Lib.hid hb1
    clear hb1
    go_wp2_with fail
    refine (H2.out _ (HW.out.below HB1.out HW.out.1)).mono ?_
    rintro e w2 ⟨rfl, hb2⟩
    have HB2 := Lib.hid (HB1.out.trans (hb2.mono HB1.out.size))
    clear hb2
    go_wp2_with fail
    go_ret2
    exact ⟨rfl, HB2.out⟩
  · have hq : has t L = false := by simpa using hq
    rw [hq] at hM' H2
    simp only [Bool.false_eq_true, if_false, Nat.add_zero] at hM'
    have K := key B hM'
    clear key h hr hn hM hM' hA hB c1 c2 hq
    go_enter Try.func43, Try.ntmps43
    go_wp2_with fail
    refine (H1.out _ HW.out).mono ?_
    rintro e w1 ⟨rfl, hb1⟩
    have HB1 := Lib.hid hb1
    clear hb1
    go_wp2_with fail
    refine (H2.out _ (HW.out.below HB1.out HW.out.1)).mono ?_
    rintro e w2 ⟨rfl, hb2⟩
    have HB2 := Lib.hid (HB1.out.trans (hb2.mono HB1.out.size))
    clear hb2
    go_wp2_with fail
    go_ret2
    exact ⟨rfl, HB2.out⟩
theorem bdn {B : Nat} {a w : World} (h : Below B a w) (n : Nat) : Below B a (w.drewN n) := ⟨h.os, h.tape, h.output, h.size, h.block⟩
theorem cell_new_l (W : World) (v : Value) (t : TypeId) : (W.alloc (.cells #[v] t)).cell? ⟨W.heap.size, 0, none⟩ = some v := by
  rw [World.cell?_alloc_at _ _ _ _ (by simp)]; rfl
/-- sort.Search of none, and of one. -/
theorem search0 (w : World) (f : Value) : Calls Try.prog 58 #[.int .i64 0, f] w fun e w' => e = .returned (.int .i64 0) ∧ w' = w := by
  go_enter Try.func58, Try.ntmps58
  go_wp2_with fail
  refine wp_loop_rounds 1 ?_
  rw [rounds_succ]
  go_wp2_with fail
  go_ret
  simp
theorem reach0 (w : World) (cb : Nat) (t : Int) (hc : w.cell? ⟨cb, 0, none⟩ = some (.slice none 0 0)) : Calls Try.prog 42 #[.pointer (some ⟨cb, 0, none⟩), .int .i64 t] w fun e w' => e = .returned (.int .i64 0) ∧ Below w.heap.size w w' := by
  have H := Lib.hid (fun w f => search0 w f)
  have hl : cb < w.heap.size := cell_lt hc
  go_enter Try.func42, Try.ntmps42
  go_wp2_with (go_at_call 58; refine (H.out _ _).mono ?_; rintro e w' ⟨rfl, rfl⟩)
  go_ret
  exact ⟨rfl, ((Below.refl _ w).alloc (Nat.le_refl _) _).alloc (by simp) _⟩
/-- What reach answers at a column of one piece. -/
def rch (t : Int) (L : List Pnt) : Nat := if cnt t L < L.length then 0 else 1
theorem rch_last {L : List Pnt} (h : Rise L) (h0 : L ≠ []) (t : Int) : (decide (t ≤ (L.getD (L.length - 1) p0).1)) = decide (cnt t L < L.length) := by
  have hl : 0 < L.length := List.length_pos_iff.2 h0
  obtain ⟨c1, c2⟩ := cnt_spec h t
  have := cnt_le t L
  by_cases e : cnt t L < L.length
  · rw [decide_eq_true e, decide_eq_true (c2 (L.length - 1) (by omega) (by omega))]
  · rw [decide_eq_false e, decide_eq_false]
    have := c1 (L.length - 1) (by omega)
    omega
/-- The column's cells, as the walks want them. -/
theorem Cm.cells {w : World} {f : Co} (h : Cm w f) : ∃ p pc s sc, f.pv = .slice (some ⟨p, 0, none⟩) 1 pc ∧ 1 ≤ pc ∧ f.sv = .slice (some ⟨s, 0, none⟩) f.L.length sc ∧ f.L.length ≤ sc ∧ sc ≤ maxLen ∧ pc ≤ maxLen ∧ p ≠ f.blk ∧ s ≠ f.blk ∧ p ≠ s ∧
    w.cell? ⟨f.blk, 0, none⟩ = some (.slice (some ⟨p, 0, none⟩) 1 pc) ∧ w.cell? ⟨p, 0, none⟩ = some (.slice (some ⟨s, 0, none⟩) f.L.length sc) ∧ Rw w s 0 f.L ∧ f.blk < w.heap.size ∧ p < w.heap.size := by
  obtain ⟨p, pc, s, sc, e1, e2, e3, e4, e5, e6, n1, n2, n3⟩ := h.forms
  have c0 := h.c0
  have o1 := h.own1
  have o2 := h.own2
  rw [e1] at c0 o1
  rw [e3] at o1 o2
  have hp := pi_own o2 h.wp
  have hl : 0 < f.L.length := List.length_pos_iff.2 h.ne
  have hcell : w.cell? ⟨p, 0, none⟩ = some (.slice (some ⟨s, 0, none⟩) f.L.length sc) := by
    have := o1.cells rfl 0 _ rfl
    simpa [Addr.add] using this
  refine ⟨p, pc, s, sc, e1, e2, e3, e4, e5, e6, n1, n2, n3, c0, hcell, ?_, cell_lt c0, cell_lt hcell⟩
  rcases hp.2 with ⟨_, _, _, e⟩ | ⟨b, off, c, e, _, hb, hc⟩
  · rw [e] at hl; simp at hl
  · cases e; exact ⟨hb, hc⟩
theorem clos59 (w : World) (b1 b2 cb p pc s n sc q : Nat) (t x : Int) (h1 : w.cell? ⟨b1, 0, none⟩ = some (.pointer (some ⟨cb, 0, none⟩))) (h2 : w.cell? ⟨b2, 0, none⟩ = some (.int .i64 t)) (hc : w.cell? ⟨cb, 0, none⟩ = some (.slice (some ⟨p, 0, none⟩) 1 pc))
    (_ : 1 ≤ pc) (hp : w.cell? ⟨p, 0, none⟩ = some (.slice (some ⟨s, 0, none⟩) n sc)) (hn0 : 0 < n) (hn : n ≤ 1000000000) (hq : q = (n - 1) * 4) (hx : w.cell? ⟨s, q, none⟩ = some (.int .i64 x)) :
    Calls Try.prog 59 #[.int .i64 0, .pointer (some ⟨b1, 0, none⟩), .pointer (some ⟨b2, 0, none⟩)] w fun e w' => e = .returned (.bool (decide (t ≤ x))) ∧ ∃ n, w' = w.drewN n := by
  obtain ⟨m, rfl⟩ : ∃ m, n = m + 1 := ⟨n - 1, by omega⟩
  rw [show m + 1 - 1 = m from rfl] at hq
  subst hq
  clear hn0
  have hw : IntKind.i64.wrap (((m + 1 : Nat) : Int) - 1) = ((m : Nat) : Int) := by rw [IntKind.wrap_i64]; omega
  have hlt : m < m + 1 := by omega
  go_enter Try.func59, Try.ntmps59
  go_wp2_with fail
  go_quiet (fail)
  go_wp2_with fail
  go_ret
  exact ⟨rfl, _, rfl⟩
theorem search1 (w : World) (B _ : Nat) (cb : Array Value) (q : Bool) (R : Nat) (hR : R = if q = true then 0 else 1) (_ : B ≤ w.heap.size) (hf : ∀ w', Below B w w' → Calls Try.prog 59 (#[.int .i64 0] ++ cb) w' fun e w2 => e = .returned (.bool q) ∧ ∃ n, w2 = w'.drewN n) :
    Calls Try.prog 58 #[.int .i64 1, .func (.func 59) #[] cb] w fun e w' => e = .returned (.int .i64 (R : Nat)) ∧ Below B w w' := by
  subst hR
  have H := Lib.hid hf
  have RB := Lib.hid (Below.refl B w)
  have eg : ∀ args w, (callFunc 59 args).run Try.prog w = .ok (.enter 59 args) w := enters_of Try.func59 (by kernel_rfl) rfl
  clear hf
  cases q
  · go_enter Try.func58, Try.ntmps58
    go_wp2_with fail
    refine wp_loop_rounds 2 ?_
    rw [rounds_succ]
    go_wp2_with fail
    refine (H.out _ RB.out).mono ?_
    rintro e w2 ⟨rfl, n, rfl⟩
    go_wp2_with fail
    rw [rounds_succ]
    go_wp2_with fail
    go_ret
    exact ⟨rfl, bdn RB.out _⟩
  · go_enter Try.func58, Try.ntmps58
    go_wp2_with fail
    refine wp_loop_rounds 2 ?_
    rw [rounds_succ]
    go_wp2_with fail
    refine (H.out _ RB.out).mono ?_
    rintro e w2 ⟨rfl, n, rfl⟩
    go_wp2_with fail
    rw [rounds_succ]
    go_wp2_with fail
    go_ret
    exact ⟨rfl, bdn RB.out _⟩
theorem alloc_cell {w : World} {a : Addr} {v : Value} (o : Obj) (h : w.cell? a = some v) : (w.alloc o).cell? a = some v :=
  (World.cell?_of_block (Below.heap_alloc w o a.block (cell_lt h))).trans h
theorem reach1 (w : World) (f : Co) (h : Cm w f) (t : Int) (hl : f.L.length ≤ 1000000000) : Calls Try.prog 42 #[.pointer (some ⟨f.blk, 0, none⟩), .int .i64 t] w fun e w' => e = .returned (.int .i64 (rch t f.L : Nat)) ∧ Below w.heap.size w w' := by
  obtain ⟨p, pc, s, sc, e1, e2, e3, e4, e5, e6, n1, n2, n3, k0, k1, kr, kb, kp⟩ := Cm.cells h
  have h0 : 0 < f.L.length := List.length_pos_iff.2 h.ne
  have kx := (kr.2 (f.L.length - 1) (by omega)).1
  rw [Nat.zero_add] at kx
  have hd := rch_last h.rise h.ne t
  obtain ⟨x, hx⟩ : ∃ x, x = (f.L.getD (f.L.length - 1) p0).1 := ⟨_, rfl⟩
  rw [← hx] at kx hd
  have hr : rch t f.L = if decide (t ≤ x) = true then 0 else 1 := by unfold rch; rw [hd]; simp
  obtain ⟨R, hR⟩ : ∃ R, R = rch t f.L := ⟨_, rfl⟩
  rw [← hR]
  rw [← hR] at hr
  have H := Lib.hid (fun (w1 : World) (h1 : w1.heap.size = w.heap.size + 2) (hb : Below w.heap.size w w1) (g1 : w1.cell? ⟨w.heap.size, 0, none⟩ = some (.pointer (some ⟨f.blk, 0, none⟩))) (g2 : w1.cell? ⟨w.heap.size + 1, 0, none⟩ = some (.int .i64 t)) =>
    search1 w1 (w.heap.size + 2) 0 #[.pointer (some ⟨w.heap.size, 0, none⟩), .pointer (some ⟨w.heap.size + 1, 0, none⟩)] (decide (t ≤ x)) R hr (by omega) (fun w2 hb2 => by
      have cg : ∀ a v, w1.cell? a = some v → w2.cell? a = some v := fun a v hv => (World.cell?_of_block (hb2.block _ (by have := cell_lt hv; omega))).trans hv
      have cw : ∀ a v, w.cell? a = some v → w2.cell? a = some v := fun a v hv => cg a v ((World.cell?_of_block (hb.block _ (cell_lt hv))).trans hv)
      exact clos59 w2 w.heap.size (w.heap.size + 1) f.blk p pc s f.L.length sc _ t x (cg _ _ g1) (cg _ _ g2) (cw _ _ k0) e2 (cw _ _ k1) h0 hl rfl (cw _ _ kx)))
  clear h hd hr hx kx kr hR
  go_enter Try.func42, Try.ntmps42
  go_wp2_with fail
  refine (H.out _ (by simp) (((Below.refl _ w).alloc (Nat.le_refl _) _).alloc (by simp) _) (alloc_cell _ (cell_new_l _ _ _)) ?_).mono ?_
  · have := cell_new_l (w.alloc (.cells #[.pointer (some ⟨f.blk, 0, none⟩)] 62)) (.int .i64 t) 2
    rwa [World.size_alloc] at this
  rintro e w2 ⟨rfl, hb2⟩
  have HB := Lib.hid ((((Below.refl _ w).alloc (Nat.le_refl _) (.cells #[.pointer (some ⟨f.blk, 0, none⟩)] 62)).alloc (by simp) (.cells #[.int .i64 t] 2)).trans (hb2.mono (by omega)))
  clear hb2
  go_wp2_with fail
  go_ret
  exact ⟨rfl, HB.out⟩
end Lc
end Go.Proofs.Ytloiclmngmnbdaa
