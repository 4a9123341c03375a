/- The laws SeriesApart, SeriesParses. -/
import Derived.Test.YtedlgcbgbphlkaaSr
namespace Go.Proofs.Ytedlgcbgbphlkaa
open Go.RowKit
namespace St
open Jb Sa Sb Sc Sd Se Sf Sg Sh Si Sj Sk Sl Sm Sn So Sp Sq Sr'

theorem yes_of {w' : World} {t : List UInt8} {e : Ending} {s : Sr} (h : rd t = some s) (hf : fm s = true) (p : PaE w' t e) : ∃ v, e = .returned (.tuple #[.agg #[.string s.1, v], .int .i64 0]) ∧ Ti w' v s.2 := by
  rcases p with ⟨s', v, h1, _, h3, h4⟩ | ⟨h1, _⟩
  · rw [h] at h1
    cases h1
    exact ⟨v, h3, h4⟩
  · rw [h1 s h] at hf; cases hf
theorem no_of {w' : World} {t : List UInt8} {e : Ending} (h : ∀ s, rd t = some s → fm s = false) (p : PaE w' t e) : e = .returned (.tuple #[.agg #[.string ⟨#[]⟩, .slice none 0 0], .int .i64 2]) := by
  rcases p with ⟨s', v, h1, h2, _⟩ | ⟨_, h2⟩
  · rw [h s' h1] at h2; cases h2
  · exact h2
/-- Two boxes. -/
theorem boxes {w W1 W : World} {c1 c2 : Array Value} (hW1 : W1 = w.alloc (.cells c1 24)) (hW : W = W1.alloc (.cells c2 24)) :
    W.heap.size = w.heap.size + 2 ∧ (∀ i u, c1[i]? = some u → W.cell? ⟨w.heap.size, i, none⟩ = some u) ∧ (∀ i u, c2[i]? = some u → W.cell? ⟨w.heap.size + 1, i, none⟩ = some u) ∧ Below w.heap.size w W := by
  have e1 : W1.heap.size = w.heap.size + 1 := by rw [hW1]; simp
  have h1 : W1.heap[w.heap.size]? = some (.cells c1 24 (0, 0)) := by rw [hW1]; exact heap_alloc_new _ _
  have h2 : W.heap[w.heap.size]? = some (.cells c1 24 (0, 0)) := by rw [hW, Lib.alloc_old _ _ _ (by omega)]; exact h1
  have h3 : W.heap[w.heap.size + 1]? = some (.cells c2 24 (0, 0)) := by rw [hW, ← e1]; exact heap_alloc_new _ _
  refine ⟨by rw [hW]; simp [e1], fun i u h => by rw [Lib.cell_of_heap h2]; exact h, fun i u h => by rw [Lib.cell_of_heap h3]; exact h, ?_⟩
  rw [hW]
  refine Below.alloc ?_ (by omega) _
  rw [hW1]; exact (Below.refl _ w).alloc (Nat.le_refl _) _
set_option maxRecDepth 100000 in
set_option maxHeartbeats 1000000 in
theorem apart7 (w : World) (n1 n2 : ByteArray) (v1 v2 : Value) (L1 L2 : List Tg) (h1 : Ti w v1 L1) (h2 : Ti w v2 L2)
    (hn1 : n1.size ≤ 140737488355328) (hz1 : ∀ x ∈ L1, x.1.size ≤ 140737488355328 ∧ x.2.size ≤ 140737488355328) (hl1 : L1.length ≤ 140737488355328)
    (hn2 : n2.size ≤ 140737488355328) (hz2 : ∀ x ∈ L2, x.1.size ≤ 140737488355328 ∧ x.2.size ≤ 140737488355328) (hl2 : L2.length ≤ 140737488355328) :
    Calls Try.prog 7 #[.agg #[.string n1, v1], .agg #[.string n2, v2]] w fun e w' => e = .returned (.bool true) ∧ Below w.heap.size w w' := by
  obtain ⟨a1, k1, rfl⟩ := h1.forms
  obtain ⟨a2, k2, rfl⟩ := h2.forms
  obtain ⟨W1, hW1⟩ : ∃ W, W = w.alloc (.cells #[.string n1, .slice a1 L1.length k1] 24) := ⟨_, rfl⟩
  obtain ⟨W, hW⟩ : ∃ W, W = W1.alloc (.cells #[.string n2, .slice a2 L2.length k2] 24) := ⟨_, rfl⟩
  obtain ⟨b1, b2, b3, b4⟩ := boxes hW1 hW
  obtain ⟨x, hx⟩ : ∃ x, x = w.heap.size := ⟨_, rfl⟩
  rw [← hx] at b1 b2 b3
  have c0 := b2 0 _ rfl
  have c1 := b2 1 _ rfl
  have c2 := b3 0 _ rfl
  have c3 := b3 1 _ rfl
  have AW := Lib.hid (awake8 W)
  have TA := Lib.hid (fun (y : World) (b : Below w.heap.size w y) => text10 y n1 _ L1 (h1.below b) hn1 hz1 hl1)
  have TB := Lib.hid (fun (y : World) (b : Below w.heap.size w y) => text10 y n2 _ L2 (h2.below b) hn2 hz2 hl2)
  have SM := Lib.hid (fun (y : World) (b : Below w.heap.size w y) => same17 y n1 n2 _ _ L1 L2 (h1.below b) (h2.below b) hl1 hl2)
  have CC := Lib.hid (fun (y : World) (b : Below W.heap.size W y) => (show (y.cell? ⟨x, 0, none⟩ = some (.string n1) ∧ y.cell? ⟨x, 1, none⟩ = some (.slice a1 L1.length k1) ∧ y.cell? ⟨x + 1, 0, none⟩ = some (.string n2) ∧ y.cell? ⟨x + 1, 1, none⟩ = some (.slice a2 L2.length k2)) ∧ Below w.heap.size w y from
    ⟨⟨(b.cell (p := ⟨x, 0, none⟩) (by show x < _; omega)).trans c0, (b.cell (p := ⟨x, 1, none⟩) (by show x < _; omega)).trans c1, (b.cell (p := ⟨x + 1, 0, none⟩) (by show x + 1 < _; omega)).trans c2, (b.cell (p := ⟨x + 1, 1, none⟩) (by show x + 1 < _; omega)).trans c3⟩, b4.trans (b.mono (by omega))⟩))
  obtain ⟨y, hy⟩ : ∃ y, y = x + 1 := ⟨_, rfl⟩
  rw [← hy] at CC
  obtain ⟨m1, hm1⟩ : ∃ m, m = L1.length := ⟨_, rfl⟩
  obtain ⟨m2, hm2⟩ : ∃ m, m = L2.length := ⟨_, rfl⟩
  rw [← hm1] at hW1 CC TA SM ⊢
  rw [← hm2] at hW CC TB SM ⊢
  obtain ⟨T1, hT1⟩ : ∃ T, T = tstr (n1, L1) := ⟨_, rfl⟩
  obtain ⟨T2, hT2⟩ : ∃ T, T = tstr (n2, L2) := ⟨_, rfl⟩
  obtain ⟨E1, hE1⟩ : ∃ T, T = terr (n1, L1) := ⟨_, rfl⟩
  obtain ⟨E2, hE2⟩ : ∃ T, T = terr (n2, L2) := ⟨_, rfl⟩
  obtain ⟨D, hD⟩ : ∃ D, D = decide (((n1, L1) : Sr) = (n2, L2)) := ⟨_, rfl⟩
  rw [← hT1, ← hE1] at TA
  rw [← hT2, ← hE2] at TB
  rw [← hD] at SM
  have FA := Lib.hid (show (fm (n1, L1) = true ∧ E1 = 0 ∧ T1 = ba (txt (n1, L1))) ∨ (E1 = 1) by
    rw [hE1, hT1, terr, tstr]
    cases fm (n1, L1) with
    | true => exact .inl ⟨rfl, rfl, rfl⟩
    | false => exact .inr rfl)
  have FB := Lib.hid (show (fm (n2, L2) = true ∧ E2 = 0 ∧ T2 = ba (txt (n2, L2))) ∨ (E2 = 1) by
    rw [hE2, hT2, terr, tstr]
    cases fm (n2, L2) with
    | true => exact .inl ⟨rfl, rfl, rfl⟩
    | false => exact .inr rfl)
  have HD := Lib.hid hD
  clear h1 h2 b1 b2 b3 b4 c0 c1 c2 c3 hm1 hm2 hT1 hT2 hE1 hE2 hD hn1 hn2 hz1 hz2 hl1 hl2
  go_enter Try.func7, Try.ntmps7
  go_upto_region 1 with (fail)
  rw [← hW1, ← hW, ← hx, ← hy]
  clear hW1 hW hx hy
  go_upto_region 3 with (go_at_call 8; refine AW.out.mono ?_; clear AW; rintro e w1 ⟨rfl, b1⟩; have B1 := Lib.hid b1; clear b1)
  obtain ⟨⟨z0, z1, z2, z3⟩, q1⟩ := CC.out w1 B1.out
  have CA := Lib.hid (TA.out w1 q1)
  clear q1
  go_upto_region 4 with (go_at_call 10; refine CA.out.mono ?_; clear CA; rintro e w2 ⟨rfl, b2⟩; have B2 := Lib.hid (B1.out.trans (b2.mono B1.out.size)); clear b2)
  clear z0 z1 z2 z3
  obtain ⟨⟨z0, z1, z2, z3⟩, q2⟩ := CC.out w2 B2.out
  have CB := Lib.hid (TB.out w2 q2)
  clear q2
  go_upto_region 5 with (go_at_call 10; refine CB.out.mono ?_; clear CB; rintro e w3 ⟨rfl, b3⟩; have B3 := Lib.hid (B2.out.trans (b3.mono B2.out.size)); clear b3)
  clear z0 z1 z2 z3
  obtain ⟨⟨z0, z1, z2, z3⟩, q3⟩ := CC.out w3 B3.out
  have CS := Lib.hid (SM.out w3 q3)
  have Q3 := Lib.hid q3
  clear q3
  rcases FA.out with ⟨f1, rfl, e1⟩ | rfl
  · rcases FB.out with ⟨f2, rfl, e2⟩ | rfl
    · have QQ : (T1.toList == T2.toList) = D := by
        rw [beq_eq, HD.out, e1, e2]
        exact decide_eq_decide.2 ⟨fun h => txt_inj (ba_inj h), fun h => by rw [h]⟩
      clear e1 e2 f1 f2
      go_wp2_with (go_at_call 17; refine CS.out.mono ?_; clear CS; rintro e w4 ⟨rfl, b4⟩; have B4 := Lib.hid b4; clear b4)
      go_ret
      exact ⟨by simp, Q3.out.trans (B4.out.mono Q3.out.size)⟩
    · clear f1 e1
      go_wp2_with fail
      go_ret
      exact ⟨rfl, Q3.out⟩
  · go_wp2_with fail
    go_ret
    exact ⟨rfl, Q3.out⟩
/-- What both Parses answer. -/
theorem both (t : ByteArray) (ht : t.size ≤ 140737488351232) : ∃ (nm : ByteArray) (L : List Tg) (E : Int), L.length ≤ 8 ∧
    (∀ y, Calls Try.prog 15 #[.string t] y fun e w' => (∃ v, e = .returned (.tuple #[.agg #[.string nm, v], .int .i64 E]) ∧ Ti w' v L) ∧ Below y.heap.size y w') ∧
    (∀ y, Calls Try.prog 16 #[.string t] y fun e w' => (∃ v, e = .returned (.tuple #[.agg #[.string nm, v], .int .i64 E]) ∧ Ti w' v L) ∧ Below y.heap.size y w') := by
  by_cases h : ∃ s, rd (bl t) = some s ∧ fm s = true
  · obtain ⟨⟨nm, L⟩, h1, h2⟩ := h
    refine ⟨nm, L, 0, (fm_parts h2).2.1, fun y => (parse15 y t ht).mono ?_, fun y => (parse16 y t (by omega)).mono ?_⟩ <;>
    · rintro e w' ⟨p, b⟩
      exact ⟨yes_of h1 h2 p, b⟩
  · have hn : ∀ s, rd (bl t) = some s → fm s = false := fun s hs => by
      cases hf : fm s with
      | false => rfl
      | true => exact absurd ⟨s, hs, hf⟩ h
    refine ⟨⟨#[]⟩, [], 2, by simp, fun y => (parse15 y t ht).mono ?_, fun y => (parse16 y t (by omega)).mono ?_⟩ <;>
    · rintro e w' ⟨p, b⟩
      exact ⟨⟨_, no_of hn p, .inl ⟨_, _, rfl, rfl⟩⟩, b⟩
set_option maxRecDepth 100000 in
set_option maxHeartbeats 1000000 in
theorem parses4 (w : World) (t : ByteArray) (ht : t.size ≤ 140737488351232) : Calls Try.prog 4 #[.string t] w fun e w' => e = .returned (.bool true) ∧ Below w.heap.size w w' := by
  obtain ⟨nm, L, E, hL, P15, P16⟩ := both t ht
  have P15 := Lib.hid P15
  have P16 := Lib.hid P16
  have AW := Lib.hid (awake8 w)
  have SM := Lib.hid (fun (y : World) (v1 v2 : Value) (h1 : Ti y v1 L) (h2 : Ti y v2 L) => same17 y nm nm v1 v2 L L h1 h2 (by omega) (by omega))
  have TF := Lib.hid (fun (w : World) (v : Value) (h : Ti w v L) => h.forms)
  obtain ⟨m, hm⟩ : ∃ m, m = L.length := ⟨_, rfl⟩
  rw [← hm] at TF
  clear hL ht hm
  go_enter Try.func4, Try.ntmps4
  go_upto_region 3 with (go_at_call 8; refine AW.out.mono ?_; clear AW; rintro e w1 ⟨rfl, b1⟩; have B1 := Lib.hid b1; clear b1)
  go_upto_region 4 with (go_at_call 15; refine (P15.out _).mono ?_; clear P15; rintro e w2 ⟨⟨v1, rfl, t1⟩, b2⟩; have B2 := Lib.hid (B1.out.trans (b2.mono B1.out.size)); have T1 := Lib.hid t1; (obtain ⟨a1, k1, rfl⟩ := TF.out w2 v1 t1); clear b2 t1)
  obtain ⟨y1, hy1⟩ : ∃ y, y = w2.heap.size := ⟨_, rfl⟩
  obtain ⟨W2, hW2⟩ : ∃ W, W = w2.alloc (.cells #[.string nm, .slice a1 m k1] 24) := ⟨_, rfl⟩
  have b22 := (show Below w2.heap.size w2 W2 by rw [hW2]; exact (Below.refl _ w2).alloc (Nat.le_refl _) _)
  have T1' := Lib.hid (T1.out.below b22)
  have c0 : W2.cell? ⟨y1, 0, none⟩ = some (.string nm) := by rw [hW2, hy1]; exact new_cell _ _ _ 0 _ rfl
  have c1 : W2.cell? ⟨y1, 1, none⟩ = some (.slice a1 m k1) := by rw [hW2, hy1]; exact new_cell _ _ _ 1 _ rfl
  have YL := Lib.hid (show y1 < W2.heap.size by rw [hW2, hy1]; simp)
  have BW2 := Lib.hid (B2.out.trans (b22.mono B2.out.size))
  rw [← hW2, ← hy1]
  clear b22 hW2 hy1 T1 B1 B2
  go_upto_region 5 with (go_at_call 16; refine (P16.out _).mono ?_; clear P16; rintro e w3 ⟨⟨v2, rfl, t2⟩, b3⟩; have B3 := Lib.hid b3; have T2 := Lib.hid t2; (obtain ⟨a2, k2, rfl⟩ := TF.out w3 v2 t2); clear b3 t2)
  obtain ⟨y2, hy2⟩ : ∃ y, y = w3.heap.size := ⟨_, rfl⟩
  obtain ⟨W3, hW3⟩ : ∃ W, W = w3.alloc (.cells #[.string nm, .slice a2 m k2] 24) := ⟨_, rfl⟩
  have b33 := (show Below w3.heap.size w3 W3 by rw [hW3]; exact (Below.refl _ w3).alloc (Nat.le_refl _) _)
  have T2' := Lib.hid (T2.out.below b33)
  have b23 := B3.out.trans (b33.mono B3.out.size)
  have T1'' := Lib.hid (T1'.out.below b23)
  have d0 : W3.cell? ⟨y2, 0, none⟩ = some (.string nm) := by rw [hW3, hy2]; exact new_cell _ _ _ 0 _ rfl
  have d1 : W3.cell? ⟨y2, 1, none⟩ = some (.slice a2 m k2) := by rw [hW3, hy2]; exact new_cell _ _ _ 1 _ rfl
  have d2 : W3.cell? ⟨y1, 0, none⟩ = some (.string nm) := (b23.cell (p := ⟨y1, 0, none⟩) YL.out).trans c0
  have d3 : W3.cell? ⟨y1, 1, none⟩ = some (.slice a1 m k1) := (b23.cell (p := ⟨y1, 1, none⟩) YL.out).trans c1
  have BW3 := Lib.hid (BW2.out.trans (b23.mono BW2.out.size))
  have CS := Lib.hid (SM.out W3 _ _ T2'.out T1''.out)
  simp only [decide_true] at CS
  rw [← hW3, ← hy2]
  clear b33 b23 hW3 hy2 c0 c1
  go_wp2_with (go_at_call 17; refine CS.out.mono ?_; clear CS; rintro e w4 ⟨rfl, b4⟩; have B4 := Lib.hid b4; clear b4)
  go_ret
  exact ⟨by simp, BW3.out.trans (B4.out.mono BW3.out.size)⟩
end St
end Go.Proofs.Ytedlgcbgbphlkaa
