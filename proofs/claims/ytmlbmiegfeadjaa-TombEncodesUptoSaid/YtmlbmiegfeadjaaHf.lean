/- What is found; a time within spans. -/
import Derived.Test.YtmlbmiegfeadjaaHe
namespace Go.Proofs.Ytmlbmiegfeadjaa
open Go.RowKit Go.Sort Go.Shelf
namespace Hf
open Jb Ca Cz Ga Gm Gn Gt Gw Gy Gz Hb Hc He

/-- Spans, for reading. -/
def Si (w : World) (v : Value) (S : List Spn) : Prop :=
  ∃ a c, v = .slice a S.length c ∧ ∀ i, i < S.length → ∃ b, a = some ⟨b, 0, none⟩ ∧ S.length ≤ c ∧ b < w.heap.size ∧ w.cell? ⟨b, i * 2, none⟩ = some (.int .i64 (S.getD i s0).1) ∧ w.cell? ⟨b, i * 2 + 1, none⟩ = some (.int .i64 (S.getD i s0).2)
theorem Si.below {w w' : World} {v : Value} {S : List Spn} (h : Si w v S) (b : Below w.heap.size w w') : Si w' v S := by
  obtain ⟨a, c, rfl, h⟩ := h
  refine ⟨a, c, rfl, fun i hi => ?_⟩
  obtain ⟨q, rfl, h1, h2, h3, h4⟩ := h i hi
  exact ⟨q, rfl, h1, Nat.lt_of_lt_of_le h2 b.size, (b.cell h2).trans h3, (b.cell h2).trans h4⟩
theorem si_nil (w : World) : Si w (.slice none 0 0) [] := ⟨none, 0, rfl, fun i hi => by simp at hi⟩
theorem si_own {w : World} {B : Nat} {v : Value} {S : List Spn} (h : w.ownsRow B 96 2 v S.length (scs S)) : Si w v S := by
  obtain ⟨a, c, hv⟩ := own_forms h
  refine ⟨a, c, hv, fun i hi => ?_⟩
  obtain ⟨b, c2, e⟩ := Go.Joins.ownsRow_form h (by omega)
  rw [hv] at e
  cases e
  rw [hv] at h
  have hc : S.length ≤ c := by
    rcases h.2 with ⟨e, _⟩ | ⟨_, _, _, e, _, _, hc, _⟩
    · cases e
    · cases e; exact hc
  exact ⟨b, rfl, hc, (Gt.own_lt h rfl).2, (h.cellAt (i * 2) (by omega)).trans (scs_get S i 0 hi (by decide)), (h.cellAt (i * 2 + 1) (by omega)).trans (scs_get S i 1 hi (by decide))⟩
set_option maxRecDepth 100000
set_option maxHeartbeats 8000000
theorem find49 (w : World) (B : Nat) (v : Value) (R : List Gc) (k : Ky) (H : GR w B v R) (hk : (tabG R).Pairwise (fun a b => klt a.1 b.1 = true)) (hn : R.length ≤ 4000000000000) :
    Calls Try.prog 49 #[v, .string k.1, .string k.2] w fun e w' => ∃ r, e = .returned r ∧ Si w' r (lk (tabG R) k) ∧ Below w.heap.size w w' := by
  have BS := Lib.hid (bsf56 w B v R k H hk hn)
  obtain ⟨a, c, rfl, hat⟩ := grv_at H
  have AT := Lib.hid hat
  have FO := Lib.hid (show ∀ i, i < R.length → (R.getD i gz).1 = k → ∀ y, Below w.heap.size w y → Si y (R.getD i gz).2.2 (lk (tabG R) k) from fun i hi e y hy => by
    have := look_found hk (i := i) (by rw [tabG_len]; exact hi) (k := k) (by rw [tabG_get]; exact e)
    rw [this, tabG_get]
    exact (si_own (H.rows _ (getD_in hi))).below hy)
  obtain ⟨n, hne⟩ : ∃ n, n = R.length := ⟨_, rfl⟩
  rw [← hne] at AT FO BS hn ⊢
  obtain ⟨LK, hLK⟩ : ∃ LK, LK = lk (tabG R) k := ⟨_, rfl⟩
  rw [← hLK] at FO BS ⊢
  clear H hat hk hne hLK
  obtain ⟨k0, k1⟩ := k
  simp only at BS ⊢
  go_enter Try.func49, Try.ntmps49
  go_wp2_with fail
  refine BS.out.mono ?_
  rintro e w1 ⟨lo, fd, rfl, h1, h2, b1⟩
  cases fd with
  | false =>
    have E := Lib.hid (h2 rfl)
    have B1 := Lib.hid b1
    clear h1 h2 b1 BS
    go_wp2_with fail
    go_ret
    exact ⟨_, rfl, by rw [E.out]; exact si_nil _, B1.out⟩
  | true =>
    obtain ⟨hlo, hke⟩ := h1 rfl
    obtain ⟨b, ua, un, uc, rfl, hnc, hb, hu, hcell⟩ := AT.out lo hlo
    obtain ⟨x0, x1, x2⟩ := hcell w1 b1
    have F := Lib.hid (FO.out lo hlo hke w1 b1)
    rw [hu] at F
    have B1 := Lib.hid b1
    clear h1 h2 b1 BS hcell hu hke AT FO
    go_wp2_with fail
    go_ret
    exact ⟨_, rfl, F.out, B1.out⟩
theorem closure59 (w : World) (p q b : Nat) (_ : Option Addr) (n c i : Nat) (t x : Int) (hs : w.cell? ⟨p, 0, none⟩ = some (.slice (some ⟨b, 0, none⟩) n c)) (ht : w.cell? ⟨q, 0, none⟩ = some (.int .i64 t)) (hi : i < n) (_ : n ≤ c) (_ : n ≤ 4000000000000) (hx : w.cell? ⟨b, i * 2, none⟩ = some (.int .i64 x)) :
    Calls Try.prog 59 #[.int .i64 (i : Nat), .pointer (some ⟨p, 0, none⟩), .pointer (some ⟨q, 0, none⟩)] w fun e w' => e = .returned (.bool (decide (x > t))) ∧ ∃ m, w' = w.drewN m := by
  go_enter Try.func59, Try.ntmps59
  go_wp2_with fail
  go_quiet (fail)
  go_wp2_with fail
  go_ret
  exact ⟨rfl, _, rfl⟩
theorem grow_none (w : World) : grow w #[] = w := by simp [grow]
theorem within50 (w : World) (v : Value) (S : List Spn) (t : Int) (h : Si w v S) (hg : Gd S) (hn : S.length ≤ 4000000000000) :
    Calls Try.prog 50 #[v, .int .i64 t] w fun e w' => e = .returned (.bool (inS S t)) ∧ Below w.heap.size w w' := by
  have WE := Lib.hid (within_eq hg t)
  have hm := fun a b h1 h2 => mono_get hg t a b h1 h2
  have CL := cnt_le S t
  obtain ⟨a, c, rfl, hcl⟩ := h
  obtain ⟨n, hne⟩ : ∃ n, n = S.length := ⟨_, rfl⟩
  rw [← hne] at hcl hn CL ⊢
  have ha := heap_alloc_new (w.alloc (.cells #[.slice a n c] 91)) (.cells #[.int .i64 t] 2)
  have hb := (Below.heap_alloc (w.alloc (.cells #[.slice a n c] 91)) (.cells #[.int .i64 t] 2) w.heap.size (by simp)).trans (heap_alloc_new w (.cells #[.slice a n c] 91))
  have bA := ((Below.refl w.heap.size w).alloc (Nat.le_refl _) (.cells #[.slice a n c] 91)).alloc (by simp) (.cells #[.int .i64 t] 2)
  simp only [World.size_alloc] at ha
  obtain ⟨W, hW⟩ : ∃ W, W = (w.alloc (.cells #[.slice a n c] 91)).alloc (.cells #[.int .i64 t] 2) := ⟨_, rfl⟩
  rw [← hW] at ha hb bA
  have hWs : W.heap.size = w.heap.size + 2 := by rw [hW]; simp
  have eg : ∀ args w, (callFunc 59 args).run Try.prog w = .ok (.enter 59 args) w := Go.Proofs.enters_of Try.func59 (by kernel_rfl) rfl
  have CELLS := Lib.hid (show ∀ y, Below W.heap.size W y → y.cell? ⟨w.heap.size, 0, none⟩ = some (.slice a n c) ∧ y.cell? ⟨w.heap.size + 1, 0, none⟩ = some (.int .i64 t) ∧ ∀ i, i < n → ∃ b, a = some ⟨b, 0, none⟩ ∧ n ≤ c ∧ y.cell? ⟨b, i * 2, none⟩ = some (.int .i64 (S.getD i s0).1) ∧ y.cell? ⟨b, i * 2 + 1, none⟩ = some (.int .i64 (S.getD i s0).2) from fun y hy => by
    refine ⟨?_, ?_, fun i hi => ?_⟩
    · exact cell_at ((hy.block w.heap.size (by omega)).trans hb) 0
    · exact cell_at ((hy.block (w.heap.size + 1) (by omega)).trans ha) 0
    · obtain ⟨b, e, h1, h2, h3, h4⟩ := hcl i hi
      have hy2 := bA.trans (hy.mono (by omega))
      exact ⟨b, e, h1, (hy2.cell h2).trans h3, (hy2.cell h2).trans h4⟩)
  have SE := Any.sort_Search Try.schPl 59 #[.pointer (some ⟨w.heap.size, 0, none⟩), .pointer (some ⟨w.heap.size + 1, 0, none⟩)] n (fun i => decide ((S.getD i s0).1 > t)) W eg (by omega) (fun m os i hi => by
      obtain ⟨c1, c2, c3⟩ := CELLS.out (grow (W.drewN m) os) (grow_below W m os)
      obtain ⟨b, rfl, h1, h2, _⟩ := c3 i hi
      refine (closure59 _ w.heap.size (w.heap.size + 1) b none n c i t _ c1 c2 hi h1 hn h2).mono ?_
      rintro e w' ⟨rfl, q, rfl⟩
      exact ⟨rfl, q, #[], (grow_none _).symm⟩) (fun a b h1 h2 => hm a b h1 (by omega))
  change Calls Try.prog 58 _ _ _ at SE
  have ecnt : (List.range n).countP (fun i => !decide ((S.getD i s0).1 > t)) = cnt S t := by unfold cnt; rw [hne]
  rw [ecnt] at SE
  have SS := Lib.hid SE
  have BA := Lib.hid bA
  obtain ⟨C, hC⟩ : ∃ C, C = cnt S t := ⟨_, rfl⟩
  rw [← hC] at SS CL WE
  obtain ⟨I, hI⟩ : ∃ I, I = inS S t := ⟨_, rfl⟩
  rw [← hI] at WE ⊢
  clear SE ecnt hcl hg hm ha hb hC hne bA hI
  go_enter Try.func50, Try.ntmps50
  go_upto_region 1 with (fail)
  rw [← hW]
  obtain ⟨c1, c2, _⟩ := CELLS.out W (Below.refl _ _)
  have HWW := Lib.hid hW
  clear hW
  go_wp2_with (go_at_call 58; refine SS.out.mono ?_; rintro e w' ⟨rfl, q, os, hw'⟩; have hbw := grow_below W q os; rw [← hw'] at hbw; obtain ⟨d1, d2, d3⟩ := CELLS.out w' hbw; have HB := Lib.hid (BA.out.trans (hbw.mono (by omega))); clear hw' hbw c1 c2)
  rcases Nat.eq_zero_or_pos C with rfl | h0
  · have hI : I = false := by rw [← WE.out]; rfl
    subst hI
    clear d3 CELLS SS WE
    go_quiet (fail)
    go_wp2_with fail
    go_ret
    exact ⟨rfl, bdn HB.out _⟩
  · obtain ⟨D, rfl⟩ : ∃ D, C = D + 1 := ⟨C - 1, by omega⟩
    obtain ⟨b, rfl, h1, y0, y1⟩ := d3 D (by omega)
    have hI : I = decide (t ≤ (S.getD D s0).2) := by
      rw [← WE.out, Nat.add_sub_cancel, decide_eq_true h0, Bool.true_and]
    obtain ⟨z, hz⟩ : ∃ z, z = (S.getD D s0).2 := ⟨_, rfl⟩
    rw [← hz] at y1 hI
    clear hz
    subst hI
    have hi1 : (0 : Int) < (D : Int) + 1 := by omega
    have hi2 : decide ((D : Int) + 1 > 0) = true := decide_eq_true (by omega)
    have hi3 : (D : Int) < (n : Int) := by omega
    clear d3 CELLS SS WE h0
    go_quiet (fail)
    go_wp2_with fail
    go_ret
    exact ⟨rfl, bdn HB.out _⟩
end Hf
end Go.Proofs.Ytmlbmiegfeadjaa
