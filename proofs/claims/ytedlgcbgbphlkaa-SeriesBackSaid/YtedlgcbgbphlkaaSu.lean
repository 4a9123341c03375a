/- The law SeriesBack. -/
import Derived.Test.YtedlgcbgbphlkaaSt
namespace Go.Proofs.Ytedlgcbgbphlkaa
open Go.RowKit
namespace Su
open Jb Sa Sb Sc Sd Se Sf Sg Sh Si Sj Sk Sl Sm Sn So Sp Sq Sr' St

set_option maxRecDepth 100000 in
set_option maxHeartbeats 2000000 in
theorem back5 (w : World) (nm t : ByteArray) (v : Value) (L : List Tg) (h : Ti w v L) (hn : nm.size ≤ 140737488355328) (hz : ∀ x ∈ L, x.1.size ≤ 140737488355328 ∧ x.2.size ≤ 140737488355328) (hl : L.length ≤ 140737488355328) (ht : t.size ≤ 140737488355328) :
    Calls Try.prog 5 #[.agg #[.string nm, v], .string t] w fun e w' => e = .returned (.bool true) ∧ Below w.heap.size w w' := by
  obtain ⟨a, c, rfl⟩ := h.forms
  obtain ⟨n, hN⟩ : ∃ n, n = L.length := ⟨_, rfl⟩
  obtain ⟨x, hx⟩ : ∃ x, x = w.heap.size := ⟨_, rfl⟩
  obtain ⟨W, hW⟩ : ∃ W, W = w.alloc (.cells #[.string nm, .slice a L.length c] 24) := ⟨_, rfl⟩
  have BW := Lib.hid (show Below w.heap.size w W by rw [hW]; exact (Below.refl _ w).alloc (Nat.le_refl _) _)
  have SW := Lib.hid (show W.heap.size = x + 1 by rw [hW, hx]; simp)
  have HX := Lib.hid hx
  have AW := Lib.hid (awake8 W)
  have TX1 := Lib.hid (fun (y : World) (b : Below w.heap.size w y) => text10 y nm _ L (h.below b) hn hz hl)
  have SM := Lib.hid (fun (y : World) (b : Below w.heap.size w y) (v' : Value) (h' : Ti y v' L) => same17 y nm nm v' _ L L h' (h.below b) hl hl)
  have TF1 := Lib.hid (fun (w : World) (v : Value) (h : Ti w v L) => h.forms)
  have c0 : W.cell? ⟨x, 0, none⟩ = some (.string nm) := by rw [hW, hx]; exact new_cell _ _ _ 0 _ rfl
  have c1 : W.cell? ⟨x, 1, none⟩ = some (.slice a L.length c) := by rw [hW, hx]; exact new_cell _ _ _ 1 _ rfl
  have CC := Lib.hid (fun (y : World) (b : Below W.heap.size W y) => (show (y.cell? ⟨x, 0, none⟩ = some (.string nm) ∧ y.cell? ⟨x, 1, none⟩ = some (.slice a L.length c)) ∧ Below w.heap.size w y from
    ⟨⟨(b.cell (p := ⟨x, 0, none⟩) (by rw [SW.out]; exact Nat.lt_succ_self _)).trans c0, (b.cell (p := ⟨x, 1, none⟩) (by rw [SW.out]; exact Nat.lt_succ_self _)).trans c1⟩, BW.out.trans (b.mono (by rw [SW.out, HX.out]; exact Nat.le_succ _))⟩))
  rw [← hN] at hW CC TX1 SM TF1 ⊢
  clear h hN c0 c1 hz hn hl
  go_enter Try.func5, Try.ntmps5
  go_upto_region 1 with (fail)
  rw [← hW, ← hx]
  clear hW hx
  go_upto_region 3 with (go_at_call 8; refine AW.out.mono ?_; clear AW; rintro e w1 ⟨rfl, b1⟩; have B1 := Lib.hid b1; clear b1)
  obtain ⟨⟨z0, z1⟩, q1⟩ := CC.out w1 B1.out
  have CA := Lib.hid (TX1.out w1 q1)
  clear q1
  cases hf : fm (nm, L) with
  | false =>
    have e1 : tstr (nm, L) = ⟨#[]⟩ := by unfold tstr; rw [hf]; rfl
    have e2 : terr (nm, L) = 1 := by unfold terr; rw [hf]; rfl
    rw [e1, e2] at CA
    clear hf e1 e2
    go_upto_region 8 with (go_at_call 10; refine CA.out.mono ?_; clear CA; rintro e wz ⟨rfl, b2⟩; have BZ := Lib.hid ((CC.out w1 B1.out).2.trans (b2.mono (CC.out w1 B1.out).2.size)); clear b2)
    clear z0 z1
    have P16 := Lib.hid (fun (y : World) => parse16 y t ht)
    by_cases hY : ∃ s, rd (bl t) = some s ∧ fm s = true
    · obtain ⟨⟨nn, M⟩, g1, g2⟩ := hY
      have PY := Lib.hid (show ∀ y, Calls Try.prog 16 #[.string t] y fun e w' => (∃ v, e = .returned (.tuple #[.agg #[.string nn, v], .int .i64 0]) ∧ Ti w' v M) ∧ Below y.heap.size y w' from fun y => (P16.out y).mono fun e w' ⟨p, b⟩ => ⟨yes_of g1 g2 p, b⟩)
      have FP := Lib.hid (fm_parts g2)
      have TX := Lib.hid (fun (y : World) (v : Value) (h : Ti y v M) => (show Calls Try.prog 10 #[.agg #[.string nn, v]] y fun e w' => e = .returned (.tuple #[.string t, .int .i64 0]) ∧ Below y.heap.size y w' from by
        have hz : ∀ x ∈ M, x.1.size ≤ 140737488355328 ∧ x.2.size ≤ 140737488355328 := fun x hx => by
          obtain ⟨i, hi, rfl⟩ := List.getElem_of_mem hx
          have := FP.out.2.2 i hi
          simp only [List.getD_eq_getElem?_getD] at this
          rw [List.getElem?_eq_getElem hi] at this
          simp only [Option.getD_some] at this
          omega
        have := text10 y nn v M h (by have := FP.out.1; simp only at this; omega) hz (by have := FP.out.2.1; simp only at this; omega)
        have e1 : tstr (nn, M) = t := by unfold tstr; rw [g2, if_pos rfl, ← rd_is g1, ba_bl]
        have e2 : terr (nn, M) = 0 := by unfold terr; rw [g2, if_pos rfl]
        rwa [e1, e2] at this))
      have TF := Lib.hid (fun (w : World) (v : Value) (h : Ti w v M) => h.forms)
      obtain ⟨m, hm⟩ : ∃ m, m = M.length := ⟨_, rfl⟩
      rw [← hm] at TF
      have QE : (t.toList == t.toList) = true := by simp
      clear hm g1 g2 P16
      go_upto_region 9 with (go_at_call 16; refine (PY.out _).mono ?_; clear PY; rintro e w5 ⟨⟨v2, rfl, t2⟩, b5⟩; have B5 := Lib.hid (BZ.out.trans (b5.mono BZ.out.size)); have T2 := Lib.hid t2; (obtain ⟨a2, k2, rfl⟩ := TF.out w5 v2 t2); clear b5 t2)
      obtain ⟨y2, hy2⟩ : ∃ y, y = w5.heap.size := ⟨_, rfl⟩
      obtain ⟨W5, hW5⟩ : ∃ W, W = w5.alloc (.cells #[.string nn, .slice a2 m k2] 24) := ⟨_, rfl⟩
      have b55 := (show Below w5.heap.size w5 W5 by rw [hW5]; exact (Below.refl _ w5).alloc (Nat.le_refl _) _)
      have CT := Lib.hid (TX.out W5 _ (T2.out.below b55))
      have d0 : W5.cell? ⟨y2, 0, none⟩ = some (.string nn) := by rw [hW5, hy2]; exact new_cell _ _ _ 0 _ rfl
      have d1 : W5.cell? ⟨y2, 1, none⟩ = some (.slice a2 m k2) := by rw [hW5, hy2]; exact new_cell _ _ _ 1 _ rfl
      have BW5 := Lib.hid (B5.out.trans (b55.mono B5.out.size))
      rw [← hW5, ← hy2]
      clear b55 hW5 hy2
      go_wp2_with (go_at_call 10; refine CT.out.mono ?_; clear CT; rintro e w6 ⟨rfl, b6⟩; have B6 := Lib.hid b6; clear b6)
      go_ret
      exact ⟨rfl, BW5.out.trans (B6.out.mono BW5.out.size)⟩
    · have hn : ∀ s, rd (bl t) = some s → fm s = false := fun s hs => by
        cases hf : fm s with
        | false => rfl
        | true => exact absurd ⟨s, hs, hf⟩ hY
      have PN := Lib.hid (show ∀ y, Calls Try.prog 16 #[.string t] y fun e w' => e = .returned (.tuple #[.agg #[.string ⟨#[]⟩, .slice none 0 0], .int .i64 2]) ∧ Below y.heap.size y w' from fun y => (P16.out y).mono fun e w' ⟨p, b⟩ => ⟨no_of hn p, b⟩)
      clear hn hY P16
      go_upto_region 9 with (go_at_call 16; refine (PN.out _).mono ?_; clear PN; rintro e w5 ⟨rfl, b5⟩; have B5 := Lib.hid (BZ.out.trans (b5.mono BZ.out.size)); clear b5)
      obtain ⟨y2, hy2⟩ : ∃ y, y = w5.heap.size := ⟨_, rfl⟩
      obtain ⟨W5, hW5⟩ : ∃ W, W = w5.alloc (.cells #[.string ⟨#[]⟩, .slice none 0 0] 24) := ⟨_, rfl⟩
      have b55 := (show Below w5.heap.size w5 W5 by rw [hW5]; exact (Below.refl _ w5).alloc (Nat.le_refl _) _)
      have d0 : W5.cell? ⟨y2, 0, none⟩ = some (.string ⟨#[]⟩) := by rw [hW5, hy2]; exact new_cell _ _ _ 0 _ rfl
      have d1 : W5.cell? ⟨y2, 1, none⟩ = some (.slice none 0 0) := by rw [hW5, hy2]; exact new_cell _ _ _ 1 _ rfl
      have BW5 := Lib.hid (B5.out.trans (b55.mono B5.out.size))
      rw [← hW5, ← hy2]
      clear b55 hW5 hy2
      go_wp2_with fail
      go_ret
      exact ⟨rfl, BW5.out⟩
  | true =>
    obtain ⟨T, hT⟩ : ∃ T, T = ba (txt (nm, L)) := ⟨_, rfl⟩
    have e1 : tstr (nm, L) = T := by unfold tstr; rw [hf, hT]; rfl
    have e2 : terr (nm, L) = 0 := by unfold terr; rw [hf]; rfl
    have hr : rd (bl T) = some (nm, L) := by rw [hT, bl_ba]; exact rd_of _
    have tl : T.size ≤ 140737488355328 := by rw [hT, ba_size]; have := fm_len hf; omega
    have PT := Lib.hid (show ∀ y, Calls Try.prog 16 #[.string T] y fun e w' => (∃ v, e = .returned (.tuple #[.agg #[.string nm, v], .int .i64 0]) ∧ Ti w' v L) ∧ Below y.heap.size y w' from fun y => (parse16 y T tl).mono fun e w' ⟨p, b⟩ => ⟨yes_of hr hf p, b⟩)
    rw [e1, e2] at CA
    clear hf e1 e2 hr tl hT
    go_upto_region 5 with (go_at_call 10; refine CA.out.mono ?_; clear CA; rintro e w2 ⟨rfl, b2⟩; have B2 := Lib.hid (B1.out.trans (b2.mono B1.out.size)); clear b2)
    go_upto_region 6 with (go_at_call 16; refine (PT.out _).mono ?_; clear PT; rintro e w3 ⟨⟨v1, rfl, t1⟩, b3⟩; have B3 := Lib.hid (B2.out.trans (b3.mono B2.out.size)); have T1 := Lib.hid t1; (obtain ⟨a1, k1, rfl⟩ := TF1.out w3 v1 t1); clear b3 t1)
    obtain ⟨y1, hy1⟩ : ∃ y, y = w3.heap.size := ⟨_, rfl⟩
    obtain ⟨W3, hW3⟩ : ∃ W, W = w3.alloc (.cells #[.string nm, .slice a1 n k1] 24) := ⟨_, rfl⟩
    have b33 := (show Below w3.heap.size w3 W3 by rw [hW3]; exact (Below.refl _ w3).alloc (Nat.le_refl _) _)
    have T1' := T1.out.below b33
    have x0 : W3.cell? ⟨y1, 0, none⟩ = some (.string nm) := by rw [hW3, hy1]; exact new_cell _ _ _ 0 _ rfl
    have x1 : W3.cell? ⟨y1, 1, none⟩ = some (.slice a1 n k1) := by rw [hW3, hy1]; exact new_cell _ _ _ 1 _ rfl
    have BW3 := Lib.hid (B3.out.trans (b33.mono B3.out.size))
    clear z0 z1
    obtain ⟨⟨z0, z1⟩, q3⟩ := CC.out W3 BW3.out
    have CS := Lib.hid (SM.out W3 q3 _ T1')
    simp only [decide_true] at CS
    have Q3 := Lib.hid q3
    rw [← hW3, ← hy1]
    clear b33 hW3 hy1 T1' q3
    go_upto_region 8 with (go_at_call 17; refine CS.out.mono ?_; clear CS; rintro e wz ⟨rfl, b4⟩; have BZ := Lib.hid (Q3.out.trans (b4.mono Q3.out.size)); clear b4)
    clear z0 z1 x0 x1
    have P16 := Lib.hid (fun (y : World) => parse16 y t ht)
    by_cases hY : ∃ s, rd (bl t) = some s ∧ fm s = true
    · obtain ⟨⟨nn, M⟩, g1, g2⟩ := hY
      have PY := Lib.hid (show ∀ y, Calls Try.prog 16 #[.string t] y fun e w' => (∃ v, e = .returned (.tuple #[.agg #[.string nn, v], .int .i64 0]) ∧ Ti w' v M) ∧ Below y.heap.size y w' from fun y => (P16.out y).mono fun e w' ⟨p, b⟩ => ⟨yes_of g1 g2 p, b⟩)
      have FP := Lib.hid (fm_parts g2)
      have TX := Lib.hid (fun (y : World) (v : Value) (h : Ti y v M) => (show Calls Try.prog 10 #[.agg #[.string nn, v]] y fun e w' => e = .returned (.tuple #[.string t, .int .i64 0]) ∧ Below y.heap.size y w' from by
        have hz : ∀ x ∈ M, x.1.size ≤ 140737488355328 ∧ x.2.size ≤ 140737488355328 := fun x hx => by
          obtain ⟨i, hi, rfl⟩ := List.getElem_of_mem hx
          have := FP.out.2.2 i hi
          simp only [List.getD_eq_getElem?_getD] at this
          rw [List.getElem?_eq_getElem hi] at this
          simp only [Option.getD_some] at this
          omega
        have := text10 y nn v M h (by have := FP.out.1; simp only at this; omega) hz (by have := FP.out.2.1; simp only at this; omega)
        have e1 : tstr (nn, M) = t := by unfold tstr; rw [g2, if_pos rfl, ← rd_is g1, ba_bl]
        have e2 : terr (nn, M) = 0 := by unfold terr; rw [g2, if_pos rfl]
        rwa [e1, e2] at this))
      have TF := Lib.hid (fun (w : World) (v : Value) (h : Ti w v M) => h.forms)
      obtain ⟨m, hm⟩ : ∃ m, m = M.length := ⟨_, rfl⟩
      rw [← hm] at TF
      have QE : (t.toList == t.toList) = true := by simp
      clear hm g1 g2 P16
      go_upto_region 9 with (go_at_call 16; refine (PY.out _).mono ?_; clear PY; rintro e w5 ⟨⟨v2, rfl, t2⟩, b5⟩; have B5 := Lib.hid (BZ.out.trans (b5.mono BZ.out.size)); have T2 := Lib.hid t2; (obtain ⟨a2, k2, rfl⟩ := TF.out w5 v2 t2); clear b5 t2)
      obtain ⟨y2, hy2⟩ : ∃ y, y = w5.heap.size := ⟨_, rfl⟩
      obtain ⟨W5, hW5⟩ : ∃ W, W = w5.alloc (.cells #[.string nn, .slice a2 m k2] 24) := ⟨_, rfl⟩
      have b55 := (show Below w5.heap.size w5 W5 by rw [hW5]; exact (Below.refl _ w5).alloc (Nat.le_refl _) _)
      have CT := Lib.hid (TX.out W5 _ (T2.out.below b55))
      have d0 : W5.cell? ⟨y2, 0, none⟩ = some (.string nn) := by rw [hW5, hy2]; exact new_cell _ _ _ 0 _ rfl
      have d1 : W5.cell? ⟨y2, 1, none⟩ = some (.slice a2 m k2) := by rw [hW5, hy2]; exact new_cell _ _ _ 1 _ rfl
      have BW5 := Lib.hid (B5.out.trans (b55.mono B5.out.size))
      rw [← hW5, ← hy2]
      clear b55 hW5 hy2
      go_wp2_with (go_at_call 10; refine CT.out.mono ?_; clear CT; rintro e w6 ⟨rfl, b6⟩; have B6 := Lib.hid b6; clear b6)
      go_ret
      exact ⟨rfl, BW5.out.trans (B6.out.mono BW5.out.size)⟩
    · have hn : ∀ s, rd (bl t) = some s → fm s = false := fun s hs => by
        cases hf : fm s with
        | false => rfl
        | true => exact absurd ⟨s, hs, hf⟩ hY
      have PN := Lib.hid (show ∀ y, Calls Try.prog 16 #[.string t] y fun e w' => e = .returned (.tuple #[.agg #[.string ⟨#[]⟩, .slice none 0 0], .int .i64 2]) ∧ Below y.heap.size y w' from fun y => (P16.out y).mono fun e w' ⟨p, b⟩ => ⟨no_of hn p, b⟩)
      clear hn hY P16
      go_upto_region 9 with (go_at_call 16; refine (PN.out _).mono ?_; clear PN; rintro e w5 ⟨rfl, b5⟩; have B5 := Lib.hid (BZ.out.trans (b5.mono BZ.out.size)); clear b5)
      obtain ⟨y2, hy2⟩ : ∃ y, y = w5.heap.size := ⟨_, rfl⟩
      obtain ⟨W5, hW5⟩ : ∃ W, W = w5.alloc (.cells #[.string ⟨#[]⟩, .slice none 0 0] 24) := ⟨_, rfl⟩
      have b55 := (show Below w5.heap.size w5 W5 by rw [hW5]; exact (Below.refl _ w5).alloc (Nat.le_refl _) _)
      have d0 : W5.cell? ⟨y2, 0, none⟩ = some (.string ⟨#[]⟩) := by rw [hW5, hy2]; exact new_cell _ _ _ 0 _ rfl
      have d1 : W5.cell? ⟨y2, 1, none⟩ = some (.slice none 0 0) := by rw [hW5, hy2]; exact new_cell _ _ _ 1 _ rfl
      have BW5 := Lib.hid (B5.out.trans (b55.mono B5.out.size))
      rw [← hW5, ← hy2]
      clear b55 hW5 hy2
      go_wp2_with fail
      go_ret
      exact ⟨rfl, BW5.out⟩
end Su
end Go.Proofs.Ytedlgcbgbphlkaa
