/- play, with the document's cache for none. -/
import Derived.Test.YtloiclmngmnbdaaRe
namespace Go.Proofs.Ytloiclmngmnbdaa
open Go.RowKit Go.Maps Go.ChangeMaps Go.MapKept
namespace Rf
open Jb Ca Ck Ct Cd Ls Lb Lc Ld Li Lj Lk Lm Ln Lo Lp Cq Cr Da Db Dc Ce Cs De Df Dg Dh Ra Rb Rc Rd Tb Re

structure Oc where
  kind : Int
  s : Ky
  p : Pnt
  a : Int
  b : Int
def opa (o : Oc) : Value := .agg #[.int .i64 o.kind, .string o.s.1, .string o.s.2, .int .i64 o.p.1, .int .i64 o.p.2.1, .int .u64 (o.p.2.2.1 : Nat), .string (str o.p.2.2.2), .int .i64 o.a, .int .i64 o.b]
def opc (o : Oc) : List Value := [.int .i64 o.kind, .string o.s.1, .string o.s.2, .int .i64 o.p.1, .int .i64 o.p.2.1, .int .u64 (o.p.2.2.1 : Nat), .string (str o.p.2.2.2), .int .i64 o.a, .int .i64 o.b]
/-- What a call makes of what is seen. -/
def stp (V : Vw) (o : Oc) : Vw := if o.kind = 1 then putV V o.s o.p else if o.kind = 2 then delV V o.s o.a o.b else if o.kind = 3 then V0 V.most else V
theorem R0_chg {w w' : World} {r : Nat} {S : Nat → Prop} (h : R0 w r) (c : Chg w w' S) (hr : ¬ S r) : R0 w' r := by
  have e := c.block r (cell_lt h.c0) hr
  exact ⟨(World.cell?_of_block e).trans h.c0, (World.cell?_of_block e).trans h.c1, (World.frozen?_of_block e).trans h.z0⟩
set_option maxRecDepth 100000
/-- The box of a call above w: its cells, in whatever world has turned nothing but S since. -/
def opO (o : Oc) : Obj := .cells #[.int .i64 o.kind, .string o.s.1, .string o.s.2, .int .i64 o.p.1, .int .i64 o.p.2.1, .int .u64 (o.p.2.2.1 : Nat), .string (str o.p.2.2.2), .int .i64 o.a, .int .i64 o.b] 34
theorem op_cells {w y : World} {S : Nat → Prop} {o : Oc} (hS : ∀ k, S k → k < w.heap.size) (c : Chg (w.alloc (opO o)) y S) :
    y.cell? ⟨w.heap.size, 1, none⟩ = some (.string o.s.1) ∧ y.cell? ⟨w.heap.size, 2, none⟩ = some (.string o.s.2) ∧ (y.cell? ⟨w.heap.size, 3, none⟩ = some (.int .i64 o.p.1) ∧ y.cell? ⟨w.heap.size, 4, none⟩ = some (.int .i64 o.p.2.1) ∧ y.cell? ⟨w.heap.size, 5, none⟩ = some (.int .u64 (o.p.2.2.1 : Nat)) ∧ y.cell? ⟨w.heap.size, 6, none⟩ = some (.string (str o.p.2.2.2))) ∧ y.cell? ⟨w.heap.size, 7, none⟩ = some (.int .i64 o.a) ∧ y.cell? ⟨w.heap.size, 8, none⟩ = some (.int .i64 o.b) := by
  have h : y.heap[w.heap.size]? = some (opO o) := (c.block w.heap.size (by simp) (fun e => by have := hS _ e; omega)).trans (heap_alloc_new w (opO o))
  exact ⟨cell_at h 1, cell_at h 2, ⟨cell_at h 3, cell_at h 4, cell_at h 5, cell_at h 6⟩, cell_at h 7, cell_at h 8⟩
theorem undC {a b : World} {S : Nat → Prop} (c : Chg a.drew b S) : Chg a b S := ⟨c.os, c.tape, c.output, c.size, c.block⟩
theorem play11_1 (w : World) (S : Nat → Prop) (g N r : Nat) (V : Vw) (h : DV w S g N V) (hr : R0 w r) (hS : ¬ S r) (o : Oc) (hk : o.kind = 1) (hs : ok o.s) (hp : Wp o.p) (hl : (V.P o.s).length ≤ 511) (hN : N ≤ 140737488353000) :
    Calls Try.prog 11 #[.pointer (some ⟨g, 0, none⟩), .pointer (some ⟨r, 0, none⟩), opa o] w fun e w' => (∃ x : Bool, e = .returned (.bool x)) ∧ DV w' (New S w w') g (N + 1) (stp V o) ∧ Chg w w' (fun k => S k ∨ k = r) := by
  have HS : Hid (stp V o = putV V o.s o.p) := Lib.hid (by unfold stp; rw [if_pos hk])
  have hlt := h.lt
  have b0 := (Below.refl _ w).alloc (Nat.le_refl _) (opO o)
  have PU := Lib.hid (putD (w.alloc (opO o)).drew S g N V (h.below b0.drew) o.s hs o.p hp hl hN)
  have RP := Lib.hid (fun w1 (h : R0 w1 r) => refput22 w1 r h o.s.1 o.s.2 o.p hp)
  have CX := Lib.hid (fun y (c : Chg (w.alloc (opO o)) y S) => op_cells hlt c)
  have rl : r < w.heap.size := cell_lt hr.c0
  have kX := CX.out (w.alloc (opO o)).drew (Chg.refl _ S).drew
  have R1 := Lib.hid (show R0 (w.alloc (opO o)).drew r from hr.below b0.drew rl)
  have HL := Lib.hid hlt
  obtain ⟨kd, s, p, a, b⟩ := o
  simp only at hk hs hp hl PU RP CX kX
  subst hk
  unfold opa
  unfold pa at PU RP
  unfold opO at PU CX kX R1
  simp only at PU CX kX R1 ⊢
  clear h hr hp hs hl b0 hlt
  go_enter Try.func11, Try.ntmps11
  go_wp2_with fail
  go_region_held (fun y => y.cell? ⟨w.heap.size, 1, none⟩ = some (.string s.1) ∧ y.cell? ⟨w.heap.size, 2, none⟩ = some (.string s.2) ∧ (y.cell? ⟨w.heap.size, 3, none⟩ = some (.int .i64 p.1) ∧ y.cell? ⟨w.heap.size, 4, none⟩ = some (.int .i64 p.2.1) ∧ y.cell? ⟨w.heap.size, 5, none⟩ = some (.int .u64 (p.2.2.1 : Nat)) ∧ y.cell? ⟨w.heap.size, 6, none⟩ = some (.string (str p.2.2.2))) ∧ y.cell? ⟨w.heap.size, 7, none⟩ = some (.int .i64 a) ∧ y.cell? ⟨w.heap.size, 8, none⟩ = some (.int .i64 b))
    (first | exact kX | exact kY | exact kZ)
    (first | (go_at_call 19; refine PU.out.mono ?_; rintro e w1 ⟨rfl, d1, c1⟩; have RR := Lib.hid (R0_chg R1.out c1 hS); replace c1 := undC c1; have kY := CX.out w1 c1; have D1 := Lib.hid d1; have C1 := Lib.hid c1; clear d1 c1) | (go_at_call 22; refine (RP.out w1 RR.out).mono ?_; rintro e w2 ⟨⟨x, rfl⟩, b2⟩; have kZ := CX.out w2 (C1.out.trans (Chg.of_below b2 (Nat.le_refl _) (fun _ => False)) (fun k hk _ => hk.elim)); have B2 := Lib.hid b2; clear b2))
  go_wp2_with fail
  go_ret
  have s1 := C1.out.size
  have s2 := B2.out.size
  simp at s1
  refine ⟨⟨_, rfl⟩, ?_, ?_⟩
  · rw [HS.out]
    refine (D1.out.below B2.out).set (fun k hk => ?_) (fun k hk => ?_)
    · rcases hk with hk | hk
      · exact .inl hk
      · refine .inr ⟨?_, by omega⟩
        have := hk.1; simp at this; omega
    · rcases hk with hk | hk
      · have := HL.out k hk; omega
      · exact hk.2
  · have c0 : Chg w (w.alloc (.cells #[.int .i64 1, .string s.1, .string s.2, .int .i64 p.1, .int .i64 p.2.1, .int .u64 (p.2.2.1 : Nat), .string (str p.2.2.2), .int .i64 a, .int .i64 b] 34)) (fun k => S k ∨ k = r) := (Chg.refl w _).alloc _
    exact (c0.trans C1.out (fun k hk _ => .inl hk)).trans (Chg.of_below B2.out (Nat.le_refl _) (fun _ => False)) (fun k hk _ => hk.elim)
theorem play11_2 (w : World) (S : Nat → Prop) (g N r : Nat) (V : Vw) (h : DV w S g N V) (hr : R0 w r) (hS : ¬ S r) (o : Oc) (hk : o.kind = 2) (hs : ok o.s) (hl : (V.P o.s).length ≤ 1000000) (hsz : (V.P o.s).length ≤ V.size) :
    Calls Try.prog 11 #[.pointer (some ⟨g, 0, none⟩), .pointer (some ⟨r, 0, none⟩), opa o] w fun e w' => (∃ x : Bool, e = .returned (.bool x)) ∧ DV w' (New S w w') g N (stp V o) ∧ Chg w w' (fun k => S k ∨ k = r) := by
  have HS : Hid (stp V o = delV V o.s o.a o.b) := Lib.hid (by unfold stp; rw [if_neg (by omega), if_pos hk])
  have hlt := h.lt
  have b0 := (Below.refl _ w).alloc (Nat.le_refl _) (opO o)
  have PU := Lib.hid (deleteD (w.alloc (opO o)).drew S g N V (h.below b0.drew) o.s hs o.a o.b hl hsz)
  have RP := Lib.hid (fun w1 (h : R0 w1 r) => refdel23 w1 r h o.s.1 o.s.2 o.a o.b)
  have CX := Lib.hid (fun y (c : Chg (w.alloc (opO o)) y S) => op_cells hlt c)
  have CX2 := Lib.hid (fun y (c : Chg (w.alloc (opO o)) y (fun k => S k ∨ k = r)) => op_cells (fun k hk => hk.elim (hlt k) (fun e => e ▸ cell_lt hr.c0)) c)
  have rl : r < w.heap.size := cell_lt hr.c0
  have kX := CX.out (w.alloc (opO o)).drew (Chg.refl _ S).drew
  have R1 := Lib.hid (show R0 (w.alloc (opO o)).drew r from hr.below b0.drew rl)
  have HL := Lib.hid hlt
  have NR := Lib.hid (show ∀ w1 k, New S (w.alloc (opO o)).drew w1 k → Chg (w.alloc (opO o)) w1 S → k = r → False from fun w1 k hk _ e => by
    rcases hk with hk | hk
    · exact hS (e ▸ hk)
    · have := hk.1; simp at this; omega)
  obtain ⟨kd, s, p, a, b⟩ := o
  simp only at hk hs hl hsz PU RP CX CX2 kX
  subst hk
  unfold opa
  unfold opO at PU CX CX2 kX R1 NR
  simp only at PU CX CX2 kX R1 NR ⊢
  clear h hr hs hl hsz b0 hlt
  go_enter Try.func11, Try.ntmps11
  go_wp2_with fail
  go_region_held (fun y => y.cell? ⟨w.heap.size, 1, none⟩ = some (.string s.1) ∧ y.cell? ⟨w.heap.size, 2, none⟩ = some (.string s.2) ∧ (y.cell? ⟨w.heap.size, 3, none⟩ = some (.int .i64 p.1) ∧ y.cell? ⟨w.heap.size, 4, none⟩ = some (.int .i64 p.2.1) ∧ y.cell? ⟨w.heap.size, 5, none⟩ = some (.int .u64 (p.2.2.1 : Nat)) ∧ y.cell? ⟨w.heap.size, 6, none⟩ = some (.string (str p.2.2.2))) ∧ y.cell? ⟨w.heap.size, 7, none⟩ = some (.int .i64 a) ∧ y.cell? ⟨w.heap.size, 8, none⟩ = some (.int .i64 b))
    (first | exact kX | exact kY | exact kZ)
    (first | (go_at_call 21; refine PU.out.mono ?_; rintro e w1 ⟨rfl, d1, c1⟩; have RR := Lib.hid (R0_chg R1.out c1 hS); replace c1 := undC c1; have kY := CX.out w1 c1; have D1 := Lib.hid d1; have C1 := Lib.hid c1; clear d1 c1) | (go_at_call 23; refine (RP.out w1 RR.out).mono ?_; rintro e w2 ⟨⟨x, rfl⟩, n2, hw2⟩; have b2 : Chg w1 w2 (fun k => k = r) := (by rw [hw2]; exact ((Chg.refl w1 (fun k => k = r)).drewN n2).setCell rfl _); have kZ := CX2.out w2 ((C1.out.imp (S' := fun k => S k ∨ k = r) (fun k hk _ => .inl hk)).trans b2 (fun k hk _ => .inr hk)); have B2 := Lib.hid b2; clear b2 hw2))
  go_wp2_with fail
  go_ret
  have s1 := C1.out.size
  have s2 := B2.out.size
  simp at s1
  refine ⟨⟨_, rfl⟩, ?_, ?_⟩
  · rw [HS.out]
    refine (D1.out.chg B2.out (fun k hk e => NR.out w1 k hk C1.out e)).set (fun k hk => ?_) (fun k hk => ?_)
    · rcases hk with hk | hk
      · exact .inl hk
      · refine .inr ⟨?_, by omega⟩
        have := hk.1; simp at this; omega
    · rcases hk with hk | hk
      · have := HL.out k hk; omega
      · exact hk.2
  · have c0 : Chg w (w.alloc (.cells #[.int .i64 2, .string s.1, .string s.2, .int .i64 p.1, .int .i64 p.2.1, .int .u64 (p.2.2.1 : Nat), .string (str p.2.2.2), .int .i64 a, .int .i64 b] 34)) (fun k => S k ∨ k = r) := (Chg.refl w _).alloc _
    exact (c0.trans C1.out (fun k hk _ => .inl hk)).trans B2.out (fun k hk _ => .inr hk)
end Rf
end Go.Proofs.Ytloiclmngmnbdaa
