/- remove, where nothing goes. -/
import Derived.Test.YtloiclmngmnbdaaRa
import Derived.Test.YtloiclmngmnbdaaDc
import Derived.Test.YtloiclmngmnbdaaLn
namespace Go.Proofs.Ytloiclmngmnbdaa
open Go.RowKit Go.Maps Go.ChangeMaps Go.MapKept
namespace Rb
open Jb Ca Ck Ct Cd Ls Lb Lc Ld Li Lj Lk Lm Ln Da Db Dc Ra

set_option maxRecDepth 100000
theorem remove37_0 (w : World) (cb : Nat) (a b : Int) (hc : w.cell? ⟨cb, 0, none⟩ = some (.slice none 0 0)) (hz : w.frozen? ⟨cb, 0, none⟩ = false) : Calls Try.prog 37 #[.pointer (some ⟨cb, 0, none⟩), .int .i64 a, .int .i64 b] w fun e w' => e = .returned (.int .i64 0) ∧ Chg w w' (fun k => k = cb) := by
  have RE := Lib.hid (reach0 w cb a hc)
  have RP := Lib.hid (fun w => replace57_nil w)
  have kb : cb < w.heap.size := cell_lt hc
  have HC := Lib.hid hc
  have HZ := Lib.hid hz
  clear hc hz
  go_enter Try.func37, Try.ntmps37
  go_wp2_with fail
  refine RE.out.mono ?_
  rintro e w1 ⟨rfl, b1⟩
  have c1 := (b1.cell (p := ⟨cb, 0, none⟩) kb).trans HC.out
  have z1 := (World.frozen?_of_block (a := ⟨cb, 0, none⟩) (b1.block cb kb)).trans HZ.out
  have B1 := Lib.hid (Chg.of_below b1 (Nat.le_refl _) (fun k => k = cb))
  clear b1
  go_wp2_with fail
  refine wp_loop_rounds 1 ?_
  rw [rounds_succ]
  go_wp2_with fail
  refine (RP.out _).mono ?_
  rintro e w' ⟨rfl, rfl⟩
  go_wp2_with fail
  go_ret
  exact ⟨rfl, B1.out.setCell rfl _⟩
/-- The same column again: its pieces' slice is laid as it was. -/
theorem same_put {w w1 : World} {f : Co} (h : Cm w f) (b : Below w.heap.size w w1) : Put w f.blk (foot f) f.L (w1.setCell ⟨f.blk, 0, none⟩ f.pv) := by
  have h1 := h.below b (Nat.le_refl _)
  refine ⟨f, rfl, rfl, ⟨cell_same h1.c0, by simpa using h1.z0, ?_, ?_, h.ne, h.wp, h.rise, h.a1, h.a2, h.a3⟩, (Chg.of_below b (Nat.le_refl _) (foot f)).setCell (.inl rfl) _, fun k hk => .inl hk⟩
  · exact own_of_block h1.own1 fun k hk => heap_setCell_ne (fun e => h.a1 (e ▸ hk))
  · exact own_of_block h1.own2 fun k hk => heap_setCell_ne (fun e => h.a2 (e ▸ hk))
theorem cut_none {L : List Pnt} {a b : Int} (h : rng a b L = []) : cut a b L = L := by
  unfold rng at h
  unfold cut
  rw [List.filter_eq_self]
  intro x hx
  rw [List.filter_eq_nil_iff] at h
  have := h x hx
  simpa using this
theorem remove37_end (w : World) (f : Co) (h : Cm w f) (a b : Int) (hl : f.L.length ≤ 1000000) (hr : ¬ cnt a f.L < f.L.length) : Calls Try.prog 37 #[.pointer (some ⟨f.blk, 0, none⟩), .int .i64 a, .int .i64 b] w fun e w' => e = .returned (.int .i64 0) ∧ Put w f.blk (foot f) f.L w' := by
  obtain ⟨P, pc, ss, sc, e1, e2, e3, e4, e5, e6, n1, n2, n3, k0, k1, kr, kb, kp⟩ := Cm.cells h
  have RE := reach1 w f h a (by omega)
  rw [show rch a f.L = 1 from if_neg hr] at RE
  replace RE := Lib.hid RE
  have RP := Lib.hid (fun w => replace57_1 w P pc e2)
  have K0 := Lib.hid k0
  have HZ := Lib.hid h.z0
  have FIN := Lib.hid (fun w1 (b : Below w.heap.size w w1) => same_put h b)
  rw [e1] at FIN
  clear h kr hr k0 k1
  go_enter Try.func37, Try.ntmps37
  go_wp2_with fail
  refine RE.out.mono ?_
  rintro e w1 ⟨rfl, b1⟩
  have c1 := (b1.cell (p := ⟨f.blk, 0, none⟩) kb).trans K0.out
  have z1 := (World.frozen?_of_block (a := ⟨f.blk, 0, none⟩) (b1.block _ kb)).trans HZ.out
  have B1 := Lib.hid (FIN.out w1 b1)
  clear b1
  go_wp2_with fail
  refine wp_loop_rounds 1 ?_
  rw [rounds_succ]
  go_wp2_with fail
  refine (RP.out _).mono ?_
  rintro e w' ⟨rfl, rfl⟩
  go_wp2_with fail
  go_ret
  exact ⟨rfl, B1.out⟩
theorem remove37_out (w : World) (f : Co) (h : Cm w f) (a b : Int) (hl : f.L.length ≤ 1000000) (hr : cnt a f.L < f.L.length) (ht : b < (f.L.getD 0 p0).1) : Calls Try.prog 37 #[.pointer (some ⟨f.blk, 0, none⟩), .int .i64 a, .int .i64 b] w fun e w' => e = .returned (.int .i64 0) ∧ Put w f.blk (foot f) f.L w' := by
  obtain ⟨P, pc, ss, sc, e1, e2, e3, e4, e5, e6, n1, n2, n3, k0, k1, kr, kb, kp⟩ := Cm.cells h
  have RE := reach1 w f h a (by omega)
  rw [show rch a f.L = 0 from if_pos hr] at RE
  replace RE := Lib.hid RE
  have RP := Lib.hid (fun w => replace57_0 w P pc e2)
  have K0 := Lib.hid k0
  have K1 := Lib.hid k1
  have HZ := Lib.hid h.z0
  have FIN := Lib.hid (fun w1 (b : Below w.heap.size w w1) => same_put h b)
  rw [e1] at FIN
  have h0 : 0 < f.L.length := List.length_pos_iff.2 h.ne
  obtain ⟨x, hx⟩ : ∃ x, x = (f.L.getD 0 p0).1 := ⟨_, rfl⟩
  rw [← hx] at ht
  have KX := Lib.hid (show ∀ w1, Below w.heap.size w w1 → w1.cell? ⟨ss, 0, none⟩ = some (.int .i64 x) from fun w1 b1 => by
    have := ((kr.below b1 kr.1).2 0 h0).1
    simp only [Nat.zero_add, Nat.zero_mul] at this
    rw [this, hx])
  obtain ⟨n, hn⟩ : ∃ n, n = f.L.length := ⟨_, rfl⟩
  rw [← hn] at K1 h0
  clear h kr hr k0 k1 hx hn
  go_enter Try.func37, Try.ntmps37
  go_wp2_with fail
  refine RE.out.mono ?_
  rintro e w1 ⟨rfl, b1⟩
  have c1 := (b1.cell (p := ⟨f.blk, 0, none⟩) kb).trans K0.out
  have c2 := (b1.cell (p := ⟨P, 0, none⟩) kp).trans K1.out
  have c3 := KX.out w1 b1
  have z1 := (World.frozen?_of_block (a := ⟨f.blk, 0, none⟩) (b1.block _ kb)).trans HZ.out
  have FB := Lib.hid (FIN.out w1 b1)
  clear b1
  go_wp2_with fail
  refine wp_loop_rounds 1 ?_
  rw [rounds_succ]
  go_wp2_with fail
  refine (RP.out _).mono ?_
  rintro e w' ⟨rfl, rfl⟩
  go_wp2_with fail
  go_ret
  exact ⟨rfl, FB.out⟩
end Rb
end Go.Proofs.Ytloiclmngmnbdaa
