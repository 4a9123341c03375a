/- between. -/
import Derived.Test.YtloiclmngmnbdaaDa
import Derived.Test.YtloiclmngmnbdaaLk
namespace Go.Proofs.Ytloiclmngmnbdaa
open Go.RowKit Go.Maps Go.ChangeMaps Go.MapKept
namespace Db
open Jb Ca Ck Ct Cd Ls Lb Lc Ld Li Lj Lk Da

theorem und {X x : World} {B : Nat} (hx : Below B X.drew x) : Below B X x := ⟨hx.os, hx.tape, hx.output, hx.size, hx.block⟩
set_option maxRecDepth 100000
theorem between26_0 (w : World) (cb : Nat) (s t : Int) (hc : w.cell? ⟨cb, 0, none⟩ = some (.slice none 0 0)) : Calls Try.prog 26 #[.pointer (some ⟨cb, 0, none⟩), .int .i64 s, .int .i64 t] w fun e w' => ∃ r, e = .returned r ∧ w'.ownsRow w.heap.size 32 4 r 0 [] ∧ Below w.heap.size w w' := by
  have RE := Lib.hid (reach0 w.drew cb s hc)
  have kb : cb < w.heap.size := cell_lt hc
  have CN := Lib.hid (fun w => concat44_nil w)
  go_enter Try.func26, Try.ntmps26
  go_wp2_with fail
  go_region_held (fun y => y.cell? ⟨cb, 0, none⟩ = some (.slice none 0 0)) (first | exact hc | exact c1) (first | (go_at_call 42; refine RE.out.mono ?_; rintro e w1 ⟨rfl, b1⟩; have B1 := Lib.hid (und b1); have c1 := (b1.cell (p := ⟨cb, 0, none⟩) kb).trans hc; clear b1))
  go_wp2_with fail
  refine wp_loop_rounds 1 ?_
  rw [rounds_succ]
  go_wp2_with fail
  refine (CN.out _).mono ?_
  rintro e w2 ⟨r, rfl, o2, b2⟩
  have O2 := Lib.hid (own_base o2 B1.out.size)
  have B2 := Lib.hid (B1.out.trans (b2.mono B1.out.size))
  clear o2 b2
  go_wp2_with fail
  go_ret
  exact ⟨_, rfl, O2.out, B2.out⟩
theorem between26_end (w : World) (f : Co) (h : Cm w f) (s t : Int) (hl : f.L.length ≤ 1000000) (hr : ¬ cnt s f.L < f.L.length) : Calls Try.prog 26 #[.pointer (some ⟨f.blk, 0, none⟩), .int .i64 s, .int .i64 t] w fun e w' => ∃ r, e = .returned r ∧ w'.ownsRow w.heap.size 32 4 r 0 [] ∧ Below w.heap.size w w' := by
  obtain ⟨P, pc, ss, sc, e1, e2, e3, e4, e5, e6, n1, n2, n3, k0, k1, kr, kb, kp⟩ := Cm.cells h
  have RE := reach1 w.drew f (h.move fun _ _ => rfl) s (by omega)
  rw [show rch s f.L = 1 from if_neg hr] at RE
  replace RE := Lib.hid RE
  have CN := Lib.hid (fun w => concat44_nil w)
  have K0 := Lib.hid k0
  clear h kr hr k0 k1
  go_enter Try.func26, Try.ntmps26
  by_cases hpc : pc = 1
  · subst hpc
    go_wp2_with fail
    go_region_held (fun y => y.cell? ⟨f.blk, 0, none⟩ = some (.slice (some ⟨P, 0, none⟩) 1 1)) (first | exact K0.out | exact c1) (first | (go_at_call 42; refine RE.out.mono ?_; rintro e w1 ⟨rfl, b1⟩; have B1 := Lib.hid (und b1); have c1 := (b1.cell (p := ⟨f.blk, 0, none⟩) kb).trans K0.out; clear b1))
    go_wp2_with fail
    refine wp_loop_rounds 1 ?_
    rw [rounds_succ]
    go_wp2_with fail
    refine (CN.out _).mono ?_
    rintro e w2 ⟨r, rfl, o2, b2⟩
    have O2 := Lib.hid (own_base o2 B1.out.size)
    have B2 := Lib.hid (B1.out.trans (b2.mono B1.out.size))
    clear o2 b2
    go_wp2_with fail
    go_ret
    exact ⟨_, rfl, O2.out, B2.out⟩
  · go_wp2_with fail
    go_region_held (fun y => y.cell? ⟨f.blk, 0, none⟩ = some (.slice (some ⟨P, 0, none⟩) 1 pc)) (first | exact K0.out | exact c1) (first | (go_at_call 42; refine RE.out.mono ?_; rintro e w1 ⟨rfl, b1⟩; have B1 := Lib.hid (und b1); have c1 := (b1.cell (p := ⟨f.blk, 0, none⟩) kb).trans K0.out; clear b1))
    go_wp2_with fail
    refine wp_loop_rounds 1 ?_
    rw [rounds_succ]
    go_wp2_with fail
    refine (CN.out _).mono ?_
    rintro e w2 ⟨r, rfl, o2, b2⟩
    have O2 := Lib.hid (own_base o2 B1.out.size)
    have B2 := Lib.hid (B1.out.trans (b2.mono B1.out.size))
    clear o2 b2
    go_wp2_with fail
    go_ret
    exact ⟨_, rfl, O2.out, B2.out⟩
theorem between26_out (w : World) (f : Co) (h : Cm w f) (s t : Int) (hl : f.L.length ≤ 1000000) (hr : cnt s f.L < f.L.length) (ht : t < (f.L.getD 0 p0).1) : Calls Try.prog 26 #[.pointer (some ⟨f.blk, 0, none⟩), .int .i64 s, .int .i64 t] w fun e w' => ∃ r, e = .returned r ∧ w'.ownsRow w.heap.size 32 4 r 0 [] ∧ Below w.heap.size w w' := by
  obtain ⟨P, pc, ss, sc, e1, e2, e3, e4, e5, e6, n1, n2, n3, k0, k1, kr, kb, kp⟩ := Cm.cells h
  have RE := reach1 w.drew f (h.move fun _ _ => rfl) s (by omega)
  rw [show rch s f.L = 0 from if_pos hr] at RE
  replace RE := Lib.hid RE
  have CN := Lib.hid (fun w => concat44_nil w)
  have K0 := Lib.hid k0
  have K1 := Lib.hid k1
  have KR := Lib.hid kr
  have h0 : 0 < f.L.length := List.length_pos_iff.2 h.ne
  obtain ⟨x, hx⟩ : ∃ x, x = (f.L.getD 0 p0).1 := ⟨_, rfl⟩
  rw [← hx] at ht
  have KX := Lib.hid (show ∀ w1, Below w.heap.size w w1 → w1.cell? ⟨ss, 0, none⟩ = some (.int .i64 x) from fun w1 b1 => by
    have := ((kr.below b1 kr.1).2 0 h0).1
    simp only [Nat.zero_add, Nat.zero_mul] at this
    rw [this, hx])
  generalize f.L.length = n at *
  clear h kr hr k0 k1 hx
  go_enter Try.func26, Try.ntmps26
  go_wp2_with fail
  go_region_held (fun y => y.cell? ⟨f.blk, 0, none⟩ = some (.slice (some ⟨P, 0, none⟩) 1 pc)) (first | exact K0.out | exact c1) (first | (go_at_call 42; refine RE.out.mono ?_; rintro e w1 ⟨rfl, b1⟩; have B1 := Lib.hid (und b1); have c1 := (b1.cell (p := ⟨f.blk, 0, none⟩) kb).trans K0.out; clear b1))
  have c2 := (B1.out.cell (p := ⟨P, 0, none⟩) kp).trans K1.out
  have c3 := KX.out w1 B1.out
  go_wp2_with fail
  refine wp_loop_rounds 1 ?_
  rw [rounds_succ]
  go_wp2_with fail
  refine (CN.out _).mono ?_
  rintro e w2 ⟨r, rfl, o2, b2⟩
  have O2 := Lib.hid (own_base o2 B1.out.size)
  have B2 := Lib.hid (B1.out.trans (b2.mono B1.out.size))
  clear o2 b2
  go_wp2_with fail
  go_ret
  exact ⟨_, rfl, O2.out, B2.out⟩
end Db
end Go.Proofs.Ytloiclmngmnbdaa
