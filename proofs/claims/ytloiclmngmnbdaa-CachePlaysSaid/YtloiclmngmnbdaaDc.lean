/- between, where there may be some. -/
import Derived.Test.YtloiclmngmnbdaaDb
namespace Go.Proofs.Ytloiclmngmnbdaa
open Go.RowKit Go.Maps Go.ChangeMaps Go.MapKept
namespace Dc
open Jb Ca Ck Ct Cd Ls Lb Lc Ld Li Lj Lk Da Db

set_option maxRecDepth 100000
theorem between26_in (w : World) (f : Co) (h : Cm w f) (s t : Int) (hl : f.L.length ≤ 1000000) (hr : cnt s f.L < f.L.length) (ht : (f.L.getD 0 p0).1 ≤ t) : Calls Try.prog 26 #[.pointer (some ⟨f.blk, 0, none⟩), .int .i64 s, .int .i64 t] w fun e w' => ∃ r, e = .returned r ∧ w'.ownsRow w.heap.size 32 4 r (rng s t f.L).length (pcs (rng s t f.L)) ∧ Below w.heap.size w w' := by
  obtain ⟨P, pc, ss, sc, e1, e2, e3, e4, e5, e6, n1, n2, n3, k0, k1, kr, kb, kp⟩ := Cm.cells h
  have RE := reach1 w.drew f (h.move fun _ _ => rfl) s (by omega)
  rw [show rch s f.L = 0 from if_pos hr] at RE
  replace RE := Lib.hid RE
  have K0 := Lib.hid k0
  have K1 := Lib.hid k1
  have KR := Lib.hid kr
  have h0 : 0 < f.L.length := List.length_pos_iff.2 h.ne
  obtain ⟨x, hx⟩ : ∃ x, x = (f.L.getD 0 p0).1 := ⟨_, rfl⟩
  rw [← hx] at ht
  have KX := Lib.hid (show ∀ w1, Below w.heap.size w w1 → w1.cell? ⟨ss, 0, none⟩ = some (.int .i64 x) from fun w1 b1 => by
    have := ((kr.below b1 kr.1).2 0 h0).1
    simp only [Nat.zero_add, Nat.zero_mul] at this
    rw [this, hx])
  have SP := Lib.hid (show ∀ w1, Below w.heap.size w w1 → _ from fun w1 b1 => span43 w1 ss 0 sc f.L s t (kr.below b1 kr.1) h.rise (by omega))
  have hrg := rng_eq h.rise s t
  have hcm : max (cnt s f.L) (upto t f.L) ≤ f.L.length := by
    have := upto_le h.rise t; omega
  have o2 := h.own2
  rw [e3] at o2
  obtain ⟨A, hA⟩ : ∃ A, A = cnt s f.L := ⟨_, rfl⟩
  obtain ⟨M, hM⟩ : ∃ M, M = max (cnt s f.L) (upto t f.L) := ⟨_, rfl⟩
  rw [← hA] at hr
  have hAM : A ≤ M := by rw [hA, hM]; exact Nat.le_max_left _ _
  rw [← hM] at hcm
  rw [← hM, ← hA] at SP
  rw [← hM, ← hA] at hrg
  have hlen : (rng s t f.L).length = M - A := by rw [← hrg, List.length_drop, List.length_take]; omega
  have hPz := Lib.hid (show ∀ w1, Below w.heap.size w w1 → Pz w1 (.slice (some ⟨ss, A * 4, none⟩) (M - A) (sc - A)) (rng s t f.L) from fun w1 b1 => by
    have sl : ss < w.heap.size := (own_lt o2 rfl).2
    refine ⟨ss, sc - A, A * 4, by rw [hlen], Nat.lt_of_lt_of_le sl b1.size, fun j u hj => ?_⟩
    rw [World.cell?_of_block (b1.block ss sl)]
    rw [← hrg, ← pcs_drop, ← pcs_take, List.getElem?_drop, List.getElem?_take] at hj
    split at hj
    · rw [o2.cellAt _ (by omega)]; exact hj
    · cases hj)
  have CO := Lib.hid (show ∀ w3 q qc, w3.ownsRow 0 43 1 (.slice (some ⟨q, 0, none⟩) 1 qc) 1 [.slice (some ⟨ss, A * 4, none⟩) (M - A) (sc - A)] → Below w.heap.size w w3 → Calls Try.prog 44 #[.slice (some ⟨q, 0, none⟩) 1 qc] w3 fun e w' => ∃ r, e = .returned r ∧ w'.ownsRow w3.heap.size 32 4 r (rng s t f.L).length (pcs (rng s t f.L)) ∧ Below w3.heap.size w3 w' from fun w3 q qc o b3 => by
    have := concat44 w3 q 1 qc [rng s t f.L] rfl (by decide) (by simp; omega) (own_lt o rfl).2 (fun i hi => by
      obtain rfl : i = 0 := by omega
      exact ⟨_, o.cellAt 0 (by decide), hPz.out w3 b3⟩)
    simpa using this)
  obtain ⟨LL, hLL⟩ : ∃ LL, LL = rng s t f.L := ⟨_, rfl⟩
  rw [← hLL] at CO ⊢
  have hcA : ¬ sc = A := by omega
  generalize f.L.length = n at *
  clear h kr k0 k1 hx hrg o2 hlen hA hM hLL
  go_enter Try.func26, Try.ntmps26
  go_wp2_with fail
  go_region_held (fun y => y.cell? ⟨f.blk, 0, none⟩ = some (.slice (some ⟨P, 0, none⟩) 1 pc)) (first | exact K0.out | exact c1) (first | (go_at_call 42; refine RE.out.mono ?_; rintro e w1 ⟨rfl, b1⟩; have B1 := Lib.hid (und b1); have c1 := (b1.cell (p := ⟨f.blk, 0, none⟩) kb).trans K0.out; clear b1))
  have c2 := (B1.out.cell (p := ⟨P, 0, none⟩) kp).trans K1.out
  have c3 := KX.out w1 B1.out
  go_wp2_with fail
  refine wp_loop_rounds 2 ?_
  rw [rounds_succ]
  go_wp2_with fail
  refine (SP.out w1 B1.out).mono ?_
  rintro e w2 ⟨rfl, b2⟩
  have B2 := Lib.hid (B1.out.trans (b2.mono B1.out.size))
  clear b2
  obtain ⟨S, hS⟩ : ∃ S, S = Value.slice (some ⟨ss, A * 4, none⟩) (M - A) (sc - A) := ⟨_, rfl⟩
  have hb3 : Below w.heap.size w (w2.alloc (.cells #[S] 43)) := B2.out.alloc B2.out.size _
  obtain ⟨v', w3, hrun, q, qc, rfl, o3, b3, q1, q2⟩ := app_nil (w2.alloc (.cells #[S] 43)) w2.heap.size S (by rw [hS]; rfl) (cell_new_l _ _ _) 85
  have hb4 := hb3.trans (b3.mono hb3.size)
  rw [hS] at o3 hrun
  have CC := Lib.hid (CO.out w3 q qc o3 hb4)
  have B4 := Lib.hid hb4
  clear hS hb3 o3 b3 q1 q2 hb4
  go_wp2_with (at_builtin; refine Lib.wpList_append_run _ rfl _ _ _ _ rfl _ _ rfl rfl _ _ hrun ?_)
  rw [rounds_succ]
  go_wp2_with fail
  refine CC.out.mono ?_
  rintro e w5 ⟨r, rfl, o5, b5⟩
  have O5 := Lib.hid (own_base o5 B4.out.size)
  have B5 := Lib.hid (B4.out.trans (b5.mono B4.out.size))
  clear o5 b5
  go_wp2_with fail
  go_ret
  exact ⟨_, rfl, O5.out, B5.out⟩
/-- Nothing lies in a range that ends ahead of the first point, or begins behind the last one. -/
theorem rng_none_out {L : List Pnt} (h : Rise L) (s t : Int) (ht : t < (L.getD 0 p0).1) : rng s t L = [] := by
  unfold rng
  rw [List.filter_eq_nil_iff]
  intro p hp hx
  obtain ⟨i, hi, rfl⟩ := List.getElem_of_mem hp
  have hg : (L.getD i p0) = L[i] := by simp [List.getD_eq_getElem?_getD, hi]
  unfold inr at hx
  simp only [Bool.and_eq_true, decide_eq_true_eq] at hx
  by_cases e : i = 0
  · subst e; rw [hg] at ht; omega
  · have := rise_get h (show 0 < i by omega) hi
    rw [hg] at this; omega
theorem rng_none_end {L : List Pnt} (h : Rise L) (s t : Int) (hr : ¬ cnt s L < L.length) : rng s t L = [] := by
  unfold rng
  rw [List.filter_eq_nil_iff]
  intro p hp hx
  obtain ⟨i, hi, rfl⟩ := List.getElem_of_mem hp
  have hg : (L.getD i p0) = L[i] := by simp [List.getD_eq_getElem?_getD, hi]
  unfold inr at hx
  simp only [Bool.and_eq_true, decide_eq_true_eq] at hx
  have := (cnt_spec h s).1 i (by omega)
  rw [hg] at this; omega
theorem between26 (w : World) (f : Co) (h : Cm w f) (s t : Int) (hl : f.L.length ≤ 1000000) : Calls Try.prog 26 #[.pointer (some ⟨f.blk, 0, none⟩), .int .i64 s, .int .i64 t] w fun e w' => ∃ r, e = .returned r ∧ w'.ownsRow w.heap.size 32 4 r (rng s t f.L).length (pcs (rng s t f.L)) ∧ Below w.heap.size w w' := by
  by_cases hr : cnt s f.L < f.L.length
  · by_cases ht : t < (f.L.getD 0 p0).1
    · rw [rng_none_out h.rise s t ht]
      exact between26_out w f h s t hl hr ht
    · exact between26_in w f h s t hl hr (by omega)
  · rw [rng_none_end h.rise s t hr]
    exact between26_end w f h s t hl hr
end Dc
end Go.Proofs.Ytloiclmngmnbdaa
