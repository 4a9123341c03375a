/- empty, takes, has. -/
import Derived.Test.YtloiclmngmnbdaaLc
import Derived.Test.YtloiclmngmnbdaaCf
namespace Go.Proofs.Ytloiclmngmnbdaa
open Go.RowKit Go.Maps Go.ChangeMaps Go.MapKept
namespace Ld
open Jb Ca Ck Ct Cd Ls Lb Lc

set_option maxRecDepth 100000
theorem empty38_0 (w : World) (cb : Nat) (hc : w.cell? ⟨cb, 0, none⟩ = some (.slice none 0 0)) : Calls Try.prog 38 #[.pointer (some ⟨cb, 0, none⟩)] w fun e w' => e = .returned (.bool true) ∧ w' = w := by
  go_enter Try.func38, Try.ntmps38
  go_wp2_with fail
  go_ret
  simp
theorem empty38_1 (w : World) (f : Co) (h : Cm w f) : Calls Try.prog 38 #[.pointer (some ⟨f.blk, 0, none⟩)] w fun e w' => e = .returned (.bool false) ∧ w' = w := by
  obtain ⟨p, pc, s, sc, e1, e2, e3, e4, e5, e6, n1, n2, n3, k0, k1, kr, kb, kp⟩ := Cm.cells h
  clear h kr k1
  go_enter Try.func38, Try.ntmps38
  go_wp2_with fail
  go_ret
  simp
theorem takes32_0 (w : World) (cb : Nat) (k : Int) (hc : w.cell? ⟨cb, 0, none⟩ = some (.slice none 0 0)) : Calls Try.prog 32 #[.pointer (some ⟨cb, 0, none⟩), .int .i64 k] w fun e w' => e = .returned (.bool true) ∧ w' = w := by
  have H := Lib.hid (empty38_0 w cb hc)
  clear hc
  go_enter Try.func32, Try.ntmps32
  go_wp2_with (go_at_call 38; refine (H.out).mono ?_; rintro e w' ⟨rfl, rfl⟩)
  go_ret
  simp
theorem takes32_1 (w : World) (f : Co) (h : Cm w f) (k : Int) : Calls Try.prog 32 #[.pointer (some ⟨f.blk, 0, none⟩), .int .i64 k] w fun e w' => e = .returned (.bool (decide ((f.L.getD 0 p0).2.1 = k))) ∧ Below w.heap.size w w' := by
  obtain ⟨p, pc, s, sc, e1, e2, e3, e4, e5, e6, n1, n2, n3, k0, k1, kr, kb, kp⟩ := Cm.cells h
  have H := Lib.hid (empty38_1 w f h)
  have h0 : 0 < f.L.length := List.length_pos_iff.2 h.ne
  obtain ⟨_, kx, _⟩ := kr.2 0 h0
  simp only [Nat.zero_add, Nat.zero_mul] at kx
  generalize (f.L.getD 0 p0).2.1 = K at *
  generalize f.L.length = n at *
  have RB := Lib.hid (Below.refl w.heap.size w)
  clear h kr
  by_cases hK : K = k
  · subst hK
    rw [decide_eq_true rfl]
    go_enter Try.func32, Try.ntmps32
    go_wp2_with (go_at_call 38; refine (H.out).mono ?_; rintro e w' ⟨rfl, rfl⟩)
    go_ret
    exact ⟨rfl, RB.out⟩
  · rw [decide_eq_false hK]
    go_enter Try.func32, Try.ntmps32
    go_wp2_with (go_at_call 38; refine (H.out).mono ?_; rintro e w' ⟨rfl, rfl⟩)
    go_ret
    exact ⟨Cf.ret_bool (show (K == k) = false by simpa using hK), RB.out⟩
theorem has33_0 (w : World) (cb : Nat) (t : Int) (hc : w.cell? ⟨cb, 0, none⟩ = some (.slice none 0 0)) : Calls Try.prog 33 #[.pointer (some ⟨cb, 0, none⟩), .int .i64 t] w fun e w' => e = .returned (.bool false) ∧ Below w.heap.size w w' := by
  have H := Lib.hid (reach0 w cb t hc)
  have HC := Lib.hid hc
  have kb : cb < w.heap.size := cell_lt hc
  clear hc
  go_enter Try.func33, Try.ntmps33
  go_wp2_with fail
  refine H.out.mono ?_
  rintro e w1 ⟨rfl, hb⟩
  have HB := Lib.hid hb
  have c1 := (hb.cell (p := ⟨cb, 0, none⟩) kb).trans HC.out
  clear hb
  go_wp2_with fail
  go_ret
  exact ⟨rfl, HB.out⟩
theorem has33_1 (w : World) (f : Co) (h : Cm w f) (t : Int) (hl : f.L.length ≤ 1000000000) : Calls Try.prog 33 #[.pointer (some ⟨f.blk, 0, none⟩), .int .i64 t] w fun e w' => e = .returned (.bool (has t f.L)) ∧ Below w.heap.size w w' := by
  obtain ⟨p, pc, s, sc, e1, e2, e3, e4, e5, e6, n1, n2, n3, k0, k1, kr, kb, kp⟩ := Cm.cells h
  have H := Lib.hid (reach1 w f h t hl)
  have hh := has_iff h.rise t
  have HS := Lib.hid (fun (w1 : World) (hr : Rw w1 s 0 f.L) => seek52 w1 s 0 sc f.L t hr h.rise hl)
  have KR := Lib.hid kr
  have K0 := Lib.hid k0
  have K1 := Lib.hid k1
  have h0 : 0 < f.L.length := List.length_pos_iff.2 h.ne
  obtain ⟨R, hR⟩ : ∃ R, R = rch t f.L := ⟨_, rfl⟩
  rw [← hR] at H
  unfold rch at hR
  generalize hq : has t f.L = Q at *
  generalize cnt t f.L = C at *
  generalize hn : f.L.length = n at *
  clear h kr k0 k1 hq
  by_cases hC : C < n
  · rw [if_pos hC] at hR
    subst hR
    clear hh hC hn
    go_enter Try.func33, Try.ntmps33
    go_wp2_with fail
    refine H.out.mono ?_
    rintro e w1 ⟨rfl, hb⟩
    have HB := Lib.hid hb
    have c0 := (hb.cell (p := ⟨f.blk, 0, none⟩) kb).trans K0.out
    have c1 := (hb.cell (p := ⟨p, 0, none⟩) kp).trans K1.out
    clear hb
    go_wp2_with fail
    refine (HS.out _ (KR.out.below HB.out KR.out.1)).mono ?_
    rintro e w2 ⟨rfl, hb2⟩
    have HB2 := Lib.hid (HB.out.trans (hb2.mono HB.out.size))
    clear hb2
    go_wp2_with fail
    go_ret
    exact ⟨rfl, HB2.out⟩
  · rw [if_neg hC] at hR
    subst hR
    have hQ : Q = false := by
      cases Q
      · rfl
      · exact absurd (hh.1 rfl).1 hC
    subst hQ
    clear hh hC hn
    go_enter Try.func33, Try.ntmps33
    go_wp2_with fail
    refine H.out.mono ?_
    rintro e w1 ⟨rfl, hb⟩
    have HB := Lib.hid hb
    have c0 := (hb.cell (p := ⟨f.blk, 0, none⟩) kb).trans K0.out
    clear hb
    go_wp2_with fail
    go_ret
    exact ⟨rfl, HB.out⟩
end Ld
end Go.Proofs.Ytloiclmngmnbdaa
