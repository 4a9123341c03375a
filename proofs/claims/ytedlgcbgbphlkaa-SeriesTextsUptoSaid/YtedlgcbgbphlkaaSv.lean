/- The law SeriesTexts. -/
import Derived.Test.YtedlgcbgbphlkaaSu
namespace Go.Proofs.Ytedlgcbgbphlkaa
open Go.RowKit
namespace Sv
open Jb Sa Sb Sc Sd Se Sf Sg Sh Si Sj Sk Sl Sm Sn So Sp Sq Sr' St

set_option maxRecDepth 100000 in
set_option maxHeartbeats 2000000 in
theorem texts3 (w : World) (nm t : ByteArray) (v : Value) (L : List Tg) (h : Ti w v L) (hn : nm.size ≤ 140737488355328) (hz : ∀ x ∈ L, x.1.size ≤ 140737488355328 ∧ x.2.size ≤ 140737488355328) (hl : L.length ≤ 140737488355328) (ht : t.size ≤ 70368744177664) :
    Calls Try.prog 3 #[.agg #[.string nm, v], .string t] w fun e w' => e = .returned (.bool true) ∧ Below w.heap.size w w' := by
  obtain ⟨a, c, rfl⟩ := h.forms
  obtain ⟨n, hN⟩ : ∃ n, n = L.length := ⟨_, rfl⟩
  obtain ⟨x, hx⟩ : ∃ x, x = w.heap.size := ⟨_, rfl⟩
  obtain ⟨W, hW⟩ : ∃ W, W = w.alloc (.cells #[.string nm, .slice a L.length c] 24) := ⟨_, rfl⟩
  have BW := Lib.hid (show Below w.heap.size w W by rw [hW]; exact (Below.refl _ w).alloc (Nat.le_refl _) _)
  have SW := Lib.hid (show W.heap.size = x + 1 by rw [hW, hx]; simp)
  have HX := Lib.hid hx
  have AW := Lib.hid (awake8 W)
  have X9 := Lib.hid (fun (y : World) (b : Below w.heap.size w y) => text9 y nm _ L (h.below b) hn hz hl)
  have X10 := Lib.hid (fun (y : World) (b : Below w.heap.size w y) => text10 y nm _ L (h.below b) hn hz hl)
  have F11 := Lib.hid (fun (y : World) (b : Below w.heap.size w y) => formed11 y nm _ L (h.below b) hn hz hl)
  have F12 := Lib.hid (fun (y : World) (b : Below w.heap.size w y) => formed12 y nm _ L (h.below b) hn hz hl)
  have E13 := Lib.hid (fun (y : World) => escape13 y t ht)
  have E14 := Lib.hid (fun (y : World) => escape14 y t ht)
  have c0 : W.cell? ⟨x, 0, none⟩ = some (.string nm) := by rw [hW, hx]; exact new_cell _ _ _ 0 _ rfl
  have c1 : W.cell? ⟨x, 1, none⟩ = some (.slice a L.length c) := by rw [hW, hx]; exact new_cell _ _ _ 1 _ rfl
  have CC := Lib.hid (fun (y : World) (b : Below W.heap.size W y) => (show (y.cell? ⟨x, 0, none⟩ = some (.string nm) ∧ y.cell? ⟨x, 1, none⟩ = some (.slice a L.length c)) ∧ Below w.heap.size w y from
    ⟨⟨(b.cell (p := ⟨x, 0, none⟩) (by rw [SW.out]; exact Nat.lt_succ_self _)).trans c0, (b.cell (p := ⟨x, 1, none⟩) (by rw [SW.out]; exact Nat.lt_succ_self _)).trans c1⟩, BW.out.trans (b.mono (by rw [SW.out, HX.out]; exact Nat.le_succ _))⟩))
  rw [← hN] at hW CC X9 X10 F11 F12 ⊢
  generalize tstr (nm, L) = T at *
  generalize terr (nm, L) = E at *
  generalize fm (nm, L) = F at *
  generalize ba (esc (bl t)) = X at *
  have QT : (T.toList == T.toList) = true := by simp
  have QX : (X.toList == X.toList) = true := by simp
  have QF : (F == F) = true := by simp
  have QE : (E == E) = true := by simp
  clear h hN c0 c1 hz hn hl ht
  go_enter Try.func3, Try.ntmps3
  go_upto_region 1 with (fail)
  rw [← hW, ← hx]
  clear hW hx
  go_upto_region 3 with (go_at_call 8; refine AW.out.mono ?_; clear AW; rintro e w1 ⟨rfl, b1⟩; have B1 := Lib.hid b1; clear b1)
  obtain ⟨⟨z0, z1⟩, q1⟩ := CC.out w1 B1.out
  have CA := Lib.hid (X9.out w1 q1)
  clear q1
  go_upto_region 4 with (go_at_call 9; refine CA.out.mono ?_; clear CA; rintro e w2 ⟨rfl, b2⟩; have B2 := Lib.hid (B1.out.trans (b2.mono B1.out.size)); clear b2)
  clear z0 z1
  obtain ⟨⟨z0, z1⟩, q2⟩ := CC.out w2 B2.out
  have CB := Lib.hid (X10.out w2 q2)
  clear q2
  go_upto_region 5 with (go_at_call 10; refine CB.out.mono ?_; clear CB; rintro e w3 ⟨rfl, b3⟩; have B3 := Lib.hid (B2.out.trans (b3.mono B2.out.size)); clear b3)
  clear z0 z1
  have G0 := Lib.hid (show Below W.heap.size W w3.drew from ⟨B3.out.os, B3.out.tape, B3.out.output, B3.out.size, B3.out.block⟩)
  obtain ⟨⟨x0, x1⟩, q3⟩ := CC.out w3.drew G0.out
  have Q3 := Lib.hid q3
  clear q3
  go_region_held (fun y => y.cell? ⟨x, 0, none⟩ = some (.string nm) ∧ y.cell? ⟨x, 1, none⟩ = some (.slice a n c)) (first | exact ⟨x0, x1⟩ | exact ⟨y10, y11⟩ | exact ⟨y20, y21⟩ | exact ⟨y30, y31⟩ | exact ⟨y40, y41⟩)
    (first
    | (go_at_call 13; refine (E13.out y3).mono ?_; rintro e y4 ⟨rfl, b4⟩; have G4 := Lib.hid (G3.out.trans (b4.mono G3.out.size)); obtain ⟨⟨y40, y41⟩, _⟩ := CC.out y4 G4.out; clear b4)
    | (go_at_call 14; refine (E14.out y3).mono ?_; rintro e y4 ⟨rfl, b4⟩; have G4 := Lib.hid (G3.out.trans (b4.mono G3.out.size)); obtain ⟨⟨y40, y41⟩, _⟩ := CC.out y4 G4.out; clear b4)
    | (go_at_call 13; refine (E13.out y2).mono ?_; rintro e y3 ⟨rfl, b3⟩; have G3 := Lib.hid (G2.out.trans (b3.mono G2.out.size)); obtain ⟨⟨y30, y31⟩, _⟩ := CC.out y3 G3.out; clear b3)
    | (go_at_call 14; refine (E14.out y2).mono ?_; rintro e y3 ⟨rfl, b3⟩; have G3 := Lib.hid (G2.out.trans (b3.mono G2.out.size)); obtain ⟨⟨y30, y31⟩, _⟩ := CC.out y3 G3.out; clear b3)
    | (go_at_call 11; refine (F11.out y1 R1.out).mono ?_; rintro e y2 ⟨rfl, b2⟩; have G2 := Lib.hid (G1.out.trans (b2.mono G1.out.size)); obtain ⟨⟨y20, y21⟩, _⟩ := CC.out y2 G2.out; clear b2)
    | (go_at_call 12; refine (F12.out y1 R1.out).mono ?_; rintro e y2 ⟨rfl, b2⟩; have G2 := Lib.hid (G1.out.trans (b2.mono G1.out.size)); obtain ⟨⟨y20, y21⟩, _⟩ := CC.out y2 G2.out; clear b2)
    | (go_at_call 11; refine (F11.out _ Q3.out).mono ?_; rintro e y1 ⟨rfl, b1⟩; have G1 := Lib.hid (G0.out.trans (b1.mono G0.out.size)); obtain ⟨⟨y10, y11⟩, r1⟩ := CC.out y1 G1.out; have R1 := Lib.hid r1; clear b1 r1)
    | (go_at_call 12; refine (F12.out _ Q3.out).mono ?_; rintro e y1 ⟨rfl, b1⟩; have G1 := Lib.hid (G0.out.trans (b1.mono G0.out.size)); obtain ⟨⟨y10, y11⟩, r1⟩ := CC.out y1 G1.out; have R1 := Lib.hid r1; clear b1 r1))
  all_goals
    go_wp2_with fail
    go_ret
    exact ⟨by simp, (CC.out _ G4.out).2⟩
end Sv
end Go.Proofs.Ytedlgcbgbphlkaa
