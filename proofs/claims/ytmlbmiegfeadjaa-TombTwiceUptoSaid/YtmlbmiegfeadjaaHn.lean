/- The law TombTwice. -/
import Derived.Test.YtmlbmiegfeadjaaHm
namespace Go.Proofs.Ytmlbmiegfeadjaa
open Go.RowKit
namespace Hn
open Jb Ca Cz Ga Gm Gn Gt Gu Gw Gx Gy Gz Hb Hc Hd He Hf Hg Hh Hi Hj Hk Hl Hm

theorem pnt_in {P : List Pnt} {k : Nat} (h : k < P.length) : P.getD k p0 ∈ P := by
  rw [List.getD_eq_getElem?_getD, List.getElem?_eq_getElem h]; exact List.getElem_mem _
theorem keep_keep (f : Int → Bool) (P : List Pnt) : keep f (keep f P) = keep f P := by
  unfold keep
  rw [List.filter_filter]
  congr 1
  funext x
  simp
theorem apl_apl (f : Ky → Int → Bool) (C : List Kp) : apl f (apl f C) = apl f C := by
  unfold apl
  induction C with
  | nil => rfl
  | cons c r ih =>
    simp only [List.map_cons, List.filter_cons]
    cases h : (keep (f c.1) c.2).isEmpty with
    | true => simp only [Bool.not_true, Bool.false_eq_true, if_false]; exact ih
    | false =>
      simp only [Bool.not_false, if_true, List.map_cons, List.filter_cons, keep_keep, h]
      rw [ih]
theorem apl_mem {f : Ky → Int → Bool} {C : List Kp} {c : Kp} (h : c ∈ apl f C) : c.2 ≠ [] ∧ ∀ p ∈ c.2, f c.1 p.1 = false := by
  unfold apl at h
  obtain ⟨h1, h2⟩ := List.mem_filter.1 h
  obtain ⟨d, _, rfl⟩ := List.mem_map.1 h1
  refine ⟨fun e => ?_, fun p hp => ?_⟩
  · simp only at e
    simp [e] at h2
  · have := (List.mem_filter.1 hp).2
    simpa using this
/-- Only the points of the first i columns have turned. -/
structure Tw (w6 wr : World) (R : List Col) (i : Nat) : Prop where
  os : wr.os = w6.os
  tape : wr.tape = w6.tape
  output : wr.output = w6.output
  size : wr.heap.size = w6.heap.size
  block : ∀ k, (∀ c ∈ R.take i, c.2.2.ownBlock ≠ some k) → wr.heap[k]? = w6.heap[k]?
theorem Tw.refl (w : World) (R : List Col) : Tw w w R 0 := ⟨rfl, rfl, rfl, rfl, fun _ _ => rfl⟩
theorem Tw.step {w6 wr : World} {R : List Col} {i : Nat} (h : Tw w6 wr R i) (hi : i < R.length) (b o : Nat) (v : Value) (hb : (R.getD i cz).2.2.ownBlock = some b) : Tw w6 (wr.setCell ⟨b, o, none⟩ v) R (i + 1) := by
  refine ⟨h.os, h.tape, h.output, by simpa using h.size, fun k hk => ?_⟩
  have e : R.take (i + 1) = R.take i ++ [R.getD i cz] := by
    rw [List.take_add_one, List.getElem?_eq_getElem hi, List.getD_eq_getElem?_getD, List.getElem?_eq_getElem hi]; rfl
  rw [e] at hk
  have h1 := hk (R.getD i cz) (by simp)
  rw [heap_setCell_other _ _ _ _ (by intro e; apply h1; rw [hb, e])]
  exact h.block k fun c hc => hk c (by simp [hc])
/-- Below what is one's own nothing has turned. -/
theorem Tw.below {w6 wr : World} {B : Nat} {v : Value} {R : List Col} {i : Nat} (h : Tw w6 wr R i) (H : Ot w6 B v R) {B' : Nat} (hB : B' ≤ B) : Below B' w6 wr :=
  ⟨h.os, h.tape, h.output, Nat.le_of_eq h.size.symm, fun k hk => h.block k fun c hc e => by have := (Gt.own_lt (H.rows c (List.mem_of_mem_take hc)).1 e).1; omega⟩
/-- Columns behind those that turn stay. -/
theorem Tw.other {w6 wr : World} {B2 : Nat} {u : Value} {R R2 : List Col} {i : Nat} (h : Tw w6 wr R i) (hl : ∀ c ∈ R, ∀ j, c.2.2.ownBlock = some j → j < B2) (H2 : Ot w6 B2 u R2) : Ot wr B2 u R2 :=
  H2.move fun k hk _ => h.block k fun c hc e => by have := hl c (List.mem_of_mem_take hc) k e; omega
set_option maxRecDepth 100000
set_option maxHeartbeats 8000000
/-- The column i, not yet turned. -/
theorem tw_at {w6 wr : World} {B n c xb : Nat} {R : List Col} {i : Nat} (h : Tw w6 wr R i) (H : Ot w6 B (.slice (some ⟨xb, 0, none⟩) n c) R) (hi : i < R.length) (hne : (R.getD i cz).2.1 ≠ []) :
    ∃ rb rc, (R.getD i cz).2.2 = .slice (some ⟨rb, 0, none⟩) (R.getD i cz).2.1.length rc ∧ wr.cell? ⟨xb, i * 3 + 2, none⟩ = some (.slice (some ⟨rb, 0, none⟩) (R.getD i cz).2.1.length rc) ∧ (R.getD i cz).2.1.length ≤ rc ∧ wr.cell? ⟨rb, 0, none⟩ = some (.int .i64 ((R.getD i cz).2.1.getD 0 p0).1) ∧ wr.frozen? ⟨rb, 0, none⟩ = false ∧ n = R.length ∧ R.length ≤ c := by
  obtain ⟨r1, _, _⟩ := H.rows _ (col_in hi)
  have hl := List.length_pos_iff.2 hne
  obtain ⟨rb, rc, hr⟩ := Go.Joins.ownsRow_form r1 hl
  have hn : n = R.length := by
    rcases H.own.2 with ⟨e, _⟩ | ⟨_, _, _, e, _⟩
    · cases e
    · injection e
  subst hn
  have o := H.own
  have hc : R.length ≤ c := by
    rcases o.2 with ⟨e, _⟩ | ⟨_, _, _, e, _, _, hc, _⟩
    · cases e
    · cases e; exact hc
  have hrc : (R.getD i cz).2.1.length ≤ rc := by
    rcases r1.2 with ⟨e, _⟩ | ⟨_, _, _, e, _, _, hc, _⟩
    · rw [hr] at e; cases e
    · rw [hr] at e; cases e; exact hc
  rw [hr] at r1
  have hx : wr.heap[xb]? = w6.heap[xb]? := h.block xb fun d hd e => apart o (H.rows d (List.mem_of_mem_take hd)).1 (by decide) rfl e
  have hrb : wr.heap[rb]? = w6.heap[rb]? := h.block rb fun d hd e => by
    obtain ⟨j, hj, rfl⟩ := List.getElem_of_mem hd
    have hj' : j < i := by have := hj; rw [List.length_take] at this; omega
    have h2 := List.pairwise_iff_getElem.1 H.ap j i (by omega) hi hj'
    rw [List.getElem_take] at e
    have e2 : R[i].2.2.ownBlock = some rb := by
      have : R.getD i cz = R[i] := by rw [List.getD_eq_getElem?_getD, List.getElem?_eq_getElem hi]; rfl
      rw [← this, hr]; rfl
    exact h2 rb e e2
  refine ⟨rb, rc, hr, ?_, hrc, ?_, ?_, rfl, hc⟩
  · rw [World.cell?_of_block (a := ⟨xb, i * 3 + 2, none⟩) hx, ← hr]
    exact (o.cellAt (i * 3 + 2) (by omega)).trans (ccl_get R i 2 (by decide) hi)
  · rw [World.cell?_of_block (a := ⟨rb, 0, none⟩) hrb]
    have := pcs_get (R.getD i cz).2.1 0 0 hl (by decide)
    exact (r1.cellAt 0 (by omega)).trans this
  · rw [World.frozen?_of_block (a := ⟨rb, 0, none⟩) hrb]
    rcases r1.2 with ⟨e, _⟩ | ⟨_, _, _, e, _, hh, _⟩
    · cases e
    · cases e; simp [World.frozen?, hh]
theorem twice7 (w : World) (lv cv : Value) (L : List Tmb) (C : List Kp) (hL : Ti w lv L) (hn : L.length * 56 ≤ 140737488355328) (hC : Ci w cv C) (hc : C.length * 56 ≤ 140737488355328) :
    Calls Try.prog 7 #[lv, cv] w fun e w' => e = .returned (.bool true) ∧ Below w.heap.size w w' := by
  have A9 := Lib.hid (awake9 w)
  have TH := Lib.hid (fun (y : World) (hy : Below w.heap.size w y) => theirs12 y lv L (hL.below hy) (by omega))
  have AP := Lib.hid (fun (y : World) (B : Nat) r v D (h : y.ownsRow B 57 4 r L.length (tcs L)) (h2 : Ci y v D) (h3 : List.length D ≤ C.length) => apply18 y B r v L D h hL.1 hn h2 (by omega))
  have CV := Lib.hid (fun (y : World) (B : Nat) r (h : y.ownsRow B 57 4 r L.length (tcs L)) (k : Ky) (t : Int) => covers20 y r L (ti_own h hL.1) k t (by omega))
  have SM := Lib.hid (fun (y : World) v u D (h1 : Ci y v D) (h2 : Ci y u D) (h3 : List.length D ≤ C.length) => same17 y v u D h1 h2 (by omega))
  have HC := Lib.hid hC
  have LE := Lib.hid (show (apl (cov L) C).length ≤ C.length by
    unfold apl
    refine Nat.le_trans (List.length_filter_le _ _) ?_
    rw [List.length_map]; exact Nat.le_refl _)
  have AA := Lib.hid (apl_apl (cov L) C)
  have AM := Lib.hid (fun c (h : c ∈ apl (cov L) C) => apl_mem h)
  obtain ⟨f, hf⟩ : ∃ f, f = cov L := ⟨_, rfl⟩
  rw [← hf] at AP CV LE AA AM
  have hc9 : C.length ≤ 3000000000000 := by omega
  clear hL hn hC hc hf
  go_enter Try.func7, Try.ntmps7
  go_wp2_with fail
  refine A9.out.mono ?_
  rintro e w1 ⟨rfl, b1⟩
  have B1 := Lib.hid b1
  clear b1 A9
  go_wp2_with fail
  refine (TH.out w1 B1.out).mono ?_
  rintro e w2 ⟨tv, rfl, o2, b2⟩
  have B2 := Lib.hid (B1.out.trans (b2.mono B1.out.size))
  have A2 := Lib.hid (AP.out w2 w1.heap.size tv cv C o2 (HC.out.below B2.out) (Nat.le_refl _))
  have O2 := Lib.hid o2
  clear o2 b2 TH
  go_wp2_with fail
  refine A2.out.mono ?_
  rintro e w3 ⟨xv, R, rfl, t3, e3, b3⟩
  have B23 := Lib.hid b3
  have T3 := Lib.hid t3
  have E3 := Lib.hid e3
  obtain ⟨xa, xc, hxv⟩ := own_forms t3.own
  obtain ⟨n, hN⟩ : ∃ n, n = R.length := ⟨_, rfl⟩
  have HN := Lib.hid hN
  have hn9 : n ≤ C.length := by rw [hN, ← tab_len, e3]; exact LE.out
  have hn8 : n ≤ 3000000000000 := by omega
  subst hxv
  have CI := Lib.hid (ot_ci t3)
  rw [← hN] at T3 CI ⊢
  clear b3 t3 e3 A2 hN
  have EL := Lib.hid (show ∀ i, i < n → ∃ (b off : Nat) (s t : ByteArray) (ra : Option Addr) (rc l : Nat), xa = some ⟨b, off, none⟩ ∧ n ≤ xc ∧ l ≤ 4000000000000 ∧ (∀ y, Below w3.heap.size w3 y → y.cell? ⟨b, off + i * 3, none⟩ = some (.string s) ∧ y.cell? ⟨b, off + i * 3 + 1, none⟩ = some (.string t) ∧ y.cell? ⟨b, off + i * 3 + 2, none⟩ = some (.slice ra l rc)) ∧ ∀ k, k < l → ∃ (pb po : Nat) (z : Int), ra = some ⟨pb, po, none⟩ ∧ l ≤ rc ∧ f (s, t) z = false ∧ ∀ y, Below w3.heap.size w3 y → y.cell? ⟨pb, po + k * 4, none⟩ = some (.int .i64 z) from fun i hi => by
    obtain ⟨a, c, e, h⟩ := CI.out
    have hti : i < (tab R).length := by rw [tab_len, ← HN.out]; exact hi
    obtain ⟨b, off, ra, rc, e1, h1, h2, h3, h4, h5, h6, h7⟩ := h i hti
    have hm : (tab R).getD i c0 ∈ apl f C := by
      rw [← E3.out, List.getD_eq_getElem?_getD, List.getElem?_eq_getElem hti]; exact List.getElem_mem _
    obtain ⟨_, hfa⟩ := AM.out _ hm
    rw [tab_len, ← HN.out] at e
    cases e
    rw [tab_len, ← HN.out] at h1
    refine ⟨b, off, _, _, ra, rc, _, e1, h1, by omega, fun y hy => ⟨(hy.cell h2).trans h4, (hy.cell h2).trans h5, (hy.cell h2).trans h6⟩, fun k hk => ?_⟩
    obtain ⟨pa, pc', e, hp⟩ := pi_get h7
    cases e
    obtain ⟨pb, po, g1, g2, g3, g4⟩ := hp k hk
    exact ⟨pb, po, _, g1, g2, hfa _ (pnt_in hk), fun y hy => (g4 y hy).1⟩)
  have OT := Lib.hid (show ∀ y, Below w2.heap.size w2 y → y.ownsRow w1.heap.size 57 4 tv L.length (tcs L) from fun y hy => Hc.own_of_block O2.out fun j hj => hy.block j (Gt.own_lt O2.out hj).2)
  go_wp2_with fail
  go_loopw [20] (fun i wr => ∃ k, k ≤ n ∧ i = .int .i64 (k : Nat) ∧ Hid (Below w3.heap.size w3 wr)) (fun i _ => n - (intOf i).toNat)
  case atStart => exact ⟨0, Nat.zero_le _, rfl, Lib.hid (Below.refl _ _)⟩
  case round =>
    obtain ⟨i, hi, rfl, HB⟩ := hrel
    obtain ⟨w4, rfl⟩ : ∃ w4, w4 = wr := ⟨_, rfl⟩
    by_cases hin : i < n
    case pos =>
      obtain ⟨b, off, s, t, ra, rc, l, hxa, hnc, hl9, hcell, hpts⟩ := EL.out i hin
      cases hxa
      obtain ⟨y0, y1, y2⟩ := hcell w4 HB.out
      have HCL := Lib.hid hcell
      have HPT := Lib.hid hpts
      clear hcell hpts EL AP SM AA AM CI
      go_wp2_with fail
      clear y0 y1 y2
      go_loopw [29] (fun j wr => ∃ k, k ≤ l ∧ j = .int .i64 (k : Nat) ∧ Hid (Below w3.heap.size w3 wr)) (fun j _ => l - (intOf j).toNat)
      case atStart => exact ⟨0, Nat.zero_le _, rfl, Lib.hid HB.out⟩
      case round =>
        obtain ⟨k, hk, rfl, HB2⟩ := hrel
        obtain ⟨wi, rfl⟩ : ∃ wi, wi = wr := ⟨_, rfl⟩
        by_cases hkl : k < l
        case neg =>
          obtain rfl : k = l := by omega
          clear HPT HCL
          go_wp2_with fail
          go_roundw
          case rel => exact ⟨i + 1, by omega, by go_num, Lib.hid HB2.out⟩
          case measure => simp [intOf]; omega
        obtain ⟨pb, po, z, hra, hlc, hfz, hz⟩ := HPT.out k hkl
        cases hra
        have KX := Lib.hid (show ∀ y, Below w3.heap.size w3 y → y.cell? ⟨b, off + i * 3, none⟩ = some (.string s) ∧ y.cell? ⟨b, off + i * 3 + 1, none⟩ = some (.string t) ∧ y.cell? ⟨b, off + i * 3 + 2, none⟩ = some (.slice (some ⟨pb, po, none⟩) l rc) ∧ y.cell? ⟨pb, po + k * 4, none⟩ = some (.int .i64 z) from fun y hy => by
          obtain ⟨a1, a2, a3⟩ := HCL.out y hy
          exact ⟨a1, a2, a3, hz y hy⟩)
        have kX := KX.out wi.drew HB2.out.drew
        have CC := Lib.hid (show Calls Try.prog 20 #[tv, .string s, .string t, .int .i64 z] wi.drew fun e w' => e = .returned (.bool false) ∧ Below wi.drew.heap.size wi.drew w' from by
          have := CV.out wi.drew w1.heap.size tv (OT.out _ (B23.out.trans (HB2.out.drew.mono B23.out.size))) (s, t) z
          rwa [hfz] at this)
        clear hz HPT HCL CV OT hfz
        go_upto_region 11 with (fail)
        go_region_held (fun y : World => y.cell? ⟨b, off + i * 3, none⟩ = some (.string s) ∧ y.cell? ⟨b, off + i * 3 + 1, none⟩ = some (.string t) ∧ y.cell? ⟨b, off + i * 3 + 2, none⟩ = some (.slice (some ⟨pb, po, none⟩) l rc) ∧ y.cell? ⟨pb, po + k * 4, none⟩ = some (.int .i64 z))
          (first | exact kX | exact kY)
          (first | (go_at_call 20; refine CC.out.mono ?_; rintro e w5 ⟨rfl, b5⟩; have B5 := Lib.hid (HB2.out.drew.trans (b5.mono HB2.out.size)); have kY := KX.out w5 B5.out; clear b5))
        all_goals
          go_wp2_with fail
          go_roundw
        case rel => exact ⟨k + 1, by omega, by go_num, Lib.hid B5.out⟩
        case measure => simp [intOf]; omega
    obtain rfl : i = n := by omega
    have B24 := Lib.hid (B23.out.trans (HB.out.mono B23.out.size))
    have tle : (tab R).length ≤ C.length := by rw [tab_len, ← HN.out]; exact hn9
    have A4 := Lib.hid (AP.out w4 w1.heap.size tv _ (tab R) (OT.out _ B24.out) (CI.out.below HB.out) tle)
    clear EL CV
    go_wp2_with fail
    refine A4.out.mono ?_
    rintro e w5 ⟨yv, R5, rfl, t5, e5, b5⟩
    have HB5 := Lib.hid (HB.out.trans (b5.mono HB.out.size))
    have T5 := Lib.hid t5
    have E5 := Lib.hid (show tab R5 = tab R by rw [e5, E3.out]; exact AA.out)
    have S5 := Lib.hid (SM.out w5 _ yv (tab R) (CI.out.below HB5.out) (by rw [← E5.out]; exact ot_ci t5) tle)
    clear t5 e5 b5 A4
    go_wp2_with fail
    refine S5.out.mono ?_
    rintro e w6 ⟨rfl, b6⟩
    have HB6 := Lib.hid (HB5.out.trans (b6.mono HB5.out.size))
    have T6 := Lib.hid (T3.out.below HB6.out)
    have Y6 := Lib.hid (T5.out.below b6)
    have LT := Lib.hid (show ∀ c ∈ R, ∀ j, c.2.2.ownBlock = some j → j < w4.heap.size from fun c hc j hj => Nat.lt_of_lt_of_le (Gt.own_lt (T3.out.rows c hc).1 hj).2 HB.out.size)
    clear b6 S5 T5 CI
    -- what each column's first point holds
    have NE := Lib.hid (show ∀ i, i < R.length → (R.getD i cz).2.1 ≠ [] from fun i hi => by
      have hm : ((R.getD i cz).1, (R.getD i cz).2.1) ∈ apl f C := by
        rw [← E3.out, ← tab_get, List.getD_eq_getElem?_getD, List.getElem?_eq_getElem (by rw [tab_len]; exact hi)]; exact List.getElem_mem _
      exact (AM.out _ hm).1)
    clear AM
    go_wp2_with fail
    go_loopw [64] (fun j wr => ∃ k, k ≤ i ∧ j = .int .i64 (k : Nat) ∧ Hid (Tw w6 wr R k)) (fun j _ => i - (intOf j).toNat)
    case atStart => exact ⟨0, Nat.zero_le _, rfl, Lib.hid (Tw.refl _ _)⟩
    case round =>
      obtain ⟨k, hk, rfl, HT⟩ := hrel
      obtain ⟨w7, rfl⟩ : ∃ w7, w7 = wr := ⟨_, rfl⟩
      by_cases hki : k < i
      case pos =>
        obtain ⟨xb, hxb⟩ : ∃ xb, xa = some ⟨xb, 0, none⟩ := by
          have o := T6.out.own
          rw [← HN.out] at o
          obtain ⟨b, c, e⟩ := Go.Joins.ownsRow_form o (by omega)
          cases e; exact ⟨b, rfl⟩
        subst hxb
        obtain ⟨rb, rc, hr, y2, hrc, y0, yz, _, hxc⟩ := tw_at HT.out T6.out (i := k) (by rw [← HN.out]; exact hki) (NE.out k (by rw [← HN.out]; exact hki))
        have STEP := Lib.hid (fun v => HT.out.step (i := k) (by rw [← HN.out]; exact hki) rb 0 v (by rw [hr]; rfl))
        have hl0 := List.length_pos_iff.2 (NE.out k (by rw [← HN.out]; exact hki))
        rw [← HN.out] at hxc
        generalize (R.getD k cz).2.1.length = l at y2 hrc hl0
        have hl1 : (0 : Int) < (l : Int) := by omega
        generalize ((R.getD k cz).2.1.getD 0 p0).1 = z at y0
        clear hr NE
        go_wp2_with fail
        go_roundw
        case rel => exact ⟨k + 1, by omega, by go_num, Lib.hid (STEP.out _)⟩
        case measure => simp [intOf]; omega
      obtain rfl : k = i := by omega
      have B26 := Lib.hid (B23.out.trans (HB6.out.mono B23.out.size))
      have BT := HT.out.below T6.out (Nat.le_refl _)
      have B27 := Lib.hid (show Below w2.heap.size w2 w7 from B26.out.trans BT)
      have B07 := Lib.hid (B2.out.trans (B27.out.mono B2.out.size))
      have Y7 := Lib.hid (HT.out.other LT.out Y6.out)
      have A7 := Lib.hid (AP.out w7 w1.heap.size tv cv C (OT.out _ B27.out) (HC.out.below B07.out) (Nat.le_refl _))
      clear NE
      go_wp2_with fail
      refine A7.out.mono ?_
      rintro e w8 ⟨zv, R8, rfl, t8, e8, b8⟩
      have B8 := Lib.hid (B07.out.trans (b8.mono B07.out.size))
      have S8 := Lib.hid (SM.out w8 zv yv (tab R) (by rw [E3.out, ← e8]; exact ot_ci t8) (by rw [← E5.out]; exact (ot_ci Y7.out).below b8) tle)
      clear t8 e8 b8 A7
      go_wp2_with fail
      refine S8.out.mono ?_
      rintro e w9 ⟨rfl, b9⟩
      have B9 := Lib.hid (B8.out.trans (b9.mono B8.out.size))
      clear b9
      go_wp2_with fail
      go_ret
      exact ⟨rfl, B9.out⟩
end Hn
end Go.Proofs.Ytmlbmiegfeadjaa
