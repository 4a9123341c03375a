/- Apply of the document. -/
import Derived.Test.YtmlbmiegfeadjaaHi
namespace Go.Proofs.Ytmlbmiegfeadjaa
open Go.RowKit
namespace Hj
open Jb Ca Cz Ga Gm Gn Gt Gw Gy Gz Hb Hc Hd He Hf Hg Hh Hi

/-- A column's box behind the world wa, with the points that stay so far. -/
structure In (wa y : World) (s t : ByteArray) (o : Value) (M : List Pnt) : Prop where
  bl : Below wa.heap.size wa y
  lt : wa.heap.size < y.heap.size
  b0 : y.cell? ⟨wa.heap.size, 0, none⟩ = some (.string s)
  b1 : y.cell? ⟨wa.heap.size, 1, none⟩ = some (.string t)
  b2 : y.cell? ⟨wa.heap.size, 2, none⟩ = some o
  z2 : y.frozen? ⟨wa.heap.size, 2, none⟩ = false
  own : y.ownsRow (wa.heap.size + 1) 50 4 o M.length (pcs M)
theorem In.first (wa : World) (s t : ByteArray) : In wa (wa.alloc (.cells #[.string s, .string t, .slice none 0 0] 53)) s t (.slice none 0 0) [] := by
  have ha := heap_alloc_new wa (.cells #[.string s, .string t, .slice none 0 0] 53)
  have bA := (Below.refl wa.heap.size wa).alloc (Nat.le_refl _) (.cells #[.string s, .string t, .slice none 0 0] 53)
  exact ⟨bA, by simp, cell_at ha 0, cell_at ha 1, cell_at ha 2, frozen_of_row _ _ _ _ _ ha, World.ownsRow_nil _ _ _ _⟩
theorem In.below {wa y y' : World} {s t : ByteArray} {o : Value} {M : List Pnt} (h : In wa y s t o M) (b : Below y.heap.size y y') : In wa y' s t o M :=
  ⟨h.bl.trans (b.mono h.bl.size), Nat.lt_of_lt_of_le h.lt b.size, (b.cell h.lt).trans h.b0, (b.cell h.lt).trans h.b1, (b.cell h.lt).trans h.b2, (World.frozen?_of_block (a := ⟨wa.heap.size, 2, none⟩) (b.block _ h.lt)).trans h.z2, Hc.own_of_block h.own fun j hj => b.block j (Gt.own_lt h.own hj).2⟩
/-- A point laid to it. -/
theorem In.app {wa y w6 : World} {s t : ByteArray} {o v' : Value} {M : List Pnt} (h : In wa y s t o M) (p : Pnt) (ho : w6.ownsRow (wa.heap.size + 1) 50 4 v' (M.length + 1) (pcs M ++ Ca.pc p)) (hg : y.grownBy w6 o.ownBlock) :
    (w6.cell? ⟨wa.heap.size, 2, none⟩ = some o ∧ w6.frozen? ⟨wa.heap.size, 2, none⟩ = false) ∧ In wa (w6.setCell ⟨wa.heap.size, 2, none⟩ v') s t v' (M ++ [p]) := by
  have hb : w6.heap[wa.heap.size]? = y.heap[wa.heap.size]? := hg.block _ h.lt fun e => by have := (Gt.own_lt h.own e.symm).1; omega
  have c2 := (World.cell?_of_block (a := ⟨wa.heap.size, 2, none⟩) hb).trans h.b2
  have z2 := (World.frozen?_of_block (a := ⟨wa.heap.size, 2, none⟩) hb).trans h.z2
  refine ⟨⟨c2, z2⟩, ⟨⟨hg.os.trans h.bl.os, hg.tape.trans h.bl.tape, hg.output.trans h.bl.output, by simpa using Nat.le_trans h.bl.size hg.size, fun k hk => ?_⟩, by simpa using Nat.lt_of_lt_of_le h.lt hg.size, (cell_other (by simp)).trans ((World.cell?_of_block (a := ⟨wa.heap.size, 0, none⟩) hb).trans h.b0), (cell_other (by simp)).trans ((World.cell?_of_block (a := ⟨wa.heap.size, 1, none⟩) hb).trans h.b1), cell_same c2, by simpa using z2, ?_⟩⟩
  · rw [heap_setCell_other _ _ _ _ (by simp; omega), hg.block k (Nat.lt_of_lt_of_le hk h.bl.size) (fun e => by have := (Gt.own_lt h.own e.symm).1; omega)]
    exact h.bl.block k hk
  · rw [List.length_append, pcs_snoc]
    exact Hc.own_of_block ho fun j hj => heap_setCell_other _ _ _ _ (by have := (Gt.own_lt ho hj).1; simp; omega)
set_option maxRecDepth 100000
set_option maxHeartbeats 8000000
theorem refapply19 (w : World) (lv cv : Value) (L : List Tmb) (C : List Kp) (hL : Ti w lv L) (hn : L.length * 48 ≤ 140737488355328) (hC : Ci w cv C) (hc : C.length * 56 ≤ 140737488355328) :
    Calls Try.prog 19 #[lv, cv] w fun e w' => ∃ r R, e = .returned r ∧ Ot w' w.heap.size r R ∧ tab R = apl (cov L) C ∧ Below w.heap.size w w' := by
  obtain ⟨i0, hi, hz0, hz1, hz2⟩ := info_parts info53
  obtain ⟨j0, hj0, jz0, jz1, jz2⟩ := info_parts infoP
  have COV := Lib.hid (fun (y : World) (hy : Below w.heap.size w y) (k : Ky) (t : Int) => refcovers21 y lv L (hL.below hy) k t hn)
  obtain ⟨la, lc, hlv⟩ := hL.forms
  rw [hlv] at COV ⊢
  obtain ⟨ca, cc, rfl, hat⟩ := hC
  obtain ⟨n, hN⟩ : ∃ n, n = C.length := ⟨_, rfl⟩
  have HN := Lib.hid hN
  have AT := Lib.hid (show ∀ y, Below w.heap.size w y → ∀ i, i < n → ∃ b off ra rc, ca = some ⟨b, off, none⟩ ∧ n ≤ cc ∧ b < w.heap.size ∧ (C.getD i c0).2.length * 40 ≤ 140737488355328 ∧ y.cell? ⟨b, off + i * 3, none⟩ = some (.string (C.getD i c0).1.1) ∧ y.cell? ⟨b, off + i * 3 + 1, none⟩ = some (.string (C.getD i c0).1.2) ∧ y.cell? ⟨b, off + i * 3 + 2, none⟩ = some (.slice ra (C.getD i c0).2.length rc) ∧ Pi y (.slice ra (C.getD i c0).2.length rc) (C.getD i c0).2 from fun y hy i hi => by
    obtain ⟨q, off, ra, rc, e, h1, h2, h3, h4, h5, h6, h7⟩ := hat i (by omega)
    exact ⟨q, off, ra, rc, e, by omega, h2, h3, (hy.cell h2).trans h4, (hy.cell h2).trans h5, (hy.cell h2).trans h6, h7.below hy⟩)
  rw [← hN] at hc ⊢
  generalize cov L = f at COV ⊢
  generalize L.length = ln at COV ⊢
  clear hL hn hat hN hlv
  go_enter Try.func19, Try.ntmps19
  go_wp2_with fail
  go_loopw [5, 12] (fun o i wr => ∃ k R, k ≤ n ∧ i = .int .i64 (k : Nat) ∧ Hid (Ot wr w.heap.size o R) ∧ Hid (tab R = apl f (C.take k)) ∧ Hid (Below w.heap.size w wr)) (fun _ i _ => n - (intOf i).toNat)
  case atStart => exact ⟨0, [], Nat.zero_le _, rfl, Lib.hid (Ot.nil _ _), Lib.hid rfl, Lib.hid (Below.refl _ _)⟩
  case round =>
    obtain ⟨k, R, hk, rfl, HO, HT, HB⟩ := hrel
    by_cases hkn : k < n
    case neg =>
      obtain rfl : k = n := by omega
      go_wp2_with fail
      go_ret
      refine ⟨_, R, rfl, HO.out, ?_, HB.out⟩
      have := HT.out
      rwa [List.take_of_length_le (by rw [HN.out]; exact Nat.le_refl _)] at this
    obtain ⟨wa, rfl⟩ : ∃ wa, wa = wr := ⟨_, rfl⟩
    obtain ⟨b, off, ra, rc, rfl, hnc, hb, hl40, y0, y1, y2, hpi⟩ := AT.out wa HB.out k hkn
    have KT := Lib.hid (apl_take f C (k := k) (by rw [← HN.out]; exact hkn))
    have zb := HB.out.size
    have hbz : b < wa.heap.size := Nat.lt_of_lt_of_le hb zb
    have RL := Lib.hid (show R.length ≤ k by
      have h1 : R.length = (apl f (C.take k)).length := by rw [← HT.out, tab_len]
      rw [h1]
      unfold apl
      refine Nat.le_trans (List.length_filter_le _ _) ?_
      rw [List.length_map, List.length_take]; omega)
    obtain ⟨oa, oc, rfl⟩ := own_forms HO.out.own
    generalize C.getD k c0 = x at hl40 y0 y1 y2 hpi KT
    obtain ⟨⟨s, t⟩, P⟩ := x
    simp only at hl40 y0 y1 y2 hpi
    generalize hpl : P.length = l at hl40 y2 hpi
    have HPL := Lib.hid hpl
    have I0 := Lib.hid (In.first wa s t)
    have RD := Lib.hid (show ∀ y j, Below wa.heap.size wa y → j < l → ∃ pb po, ra = some ⟨pb, po, none⟩ ∧ l ≤ rc ∧ pb < wa.heap.size ∧ PAt y pb (po + j * 4) (P.getD j p0) from fun y j hy hj => by
      obtain ⟨a, c, e, h⟩ := pi_get hpi
      cases e
      obtain ⟨pb, po, h1, h2, h3, h4⟩ := h j (by omega)
      exact ⟨pb, po, h1, by omega, h3, h4 y hy⟩)
    have HWP := Lib.hid hpi.1
    have x2 := (I0.out.bl.cell (p := ⟨b, off + k * 3 + 2, none⟩) hbz).trans y2
    go_upto_region 7 with (fail)
    obtain ⟨W1, hW1⟩ : ∃ W1, W1 = wa.alloc (.cells #[.string s, .string t, .slice none 0 0] 53) := ⟨_, rfl⟩
    rw [← hW1] at I0 x2 ⊢
    have W1e := Lib.hid hW1
    clear hW1 hpl hpi y0 y1 y2
    go_wp2_with fail
    go_loopw [26] (fun i wr2 => ∃ j o, j ≤ l ∧ i = .int .i64 (j : Nat) ∧ Hid (In wa wr2 s t o (keep (f (s, t)) (P.take j)))) (fun i _ => l - (intOf i).toNat)
    case atStart => exact ⟨0, _, Nat.zero_le _, rfl, Lib.hid I0.out⟩
    case round =>
      obtain ⟨j, o, hj, rfl, HI⟩ := hrel
      by_cases hjl : j < l
      case pos =>
        obtain ⟨wi, rfl⟩ : ∃ wi, wi = wr := ⟨_, rfl⟩
        obtain ⟨pb, po, rfl, hlc, hpb, q0, q1, q2, q3⟩ := RD.out wi j HI.out.bl hjl
        have KT2 := Lib.hid (keep_take (f (s, t)) P (k := j) (by rw [HPL.out]; exact hjl))
        have KL := keep_len (f (s, t)) P j
        have hWx := getD_wp HWP.out j
        obtain ⟨om, ok, rfl⟩ := own_forms HI.out.own
        generalize P.getD j p0 = x at q0 q1 q2 q3 KT2 hWx
        obtain ⟨x0, x1, x2, x3⟩ := x
        simp only at q0 q1 q2 q3
        have hpz : pb < wi.heap.size := Nat.lt_of_lt_of_le hpb HI.out.bl.size
        have bA := (Below.refl wi.heap.size wi).alloc (Nat.le_refl _) (.cells #[.int .i64 x0, .int .i64 x1, .int .u64 (x2 : Nat), .string (str x3)] 50)
        have ha := heap_alloc_new wi (.cells #[.int .i64 x0, .int .i64 x1, .int .u64 (x2 : Nat), .string (str x3)] 50)
        obtain ⟨V, hV⟩ : ∃ V, V = wi.alloc (.cells #[.int .i64 x0, .int .i64 x1, .int .u64 (x2 : Nat), .string (str x3)] 50) := ⟨_, rfl⟩
        rw [← hV] at bA ha
        have hVs : V.heap.size = wi.heap.size + 1 := by rw [hV]; simp
        have I1 := Lib.hid (HI.out.below bA)
        have CC := Lib.hid (COV.out V (HB.out.trans (I1.out.bl.mono zb)) (s, t) x0)
        obtain ⟨_, _, b0, b1, b2, zf, _⟩ := I1.out
        have z0 : V.cell? ⟨wi.heap.size, 0, none⟩ = some (.int .i64 x0) := cell_at ha 0
        have z1 : V.cell? ⟨wi.heap.size, 1, none⟩ = some (.int .i64 x1) := cell_at ha 1
        have z2 : V.cell? ⟨wi.heap.size, 2, none⟩ = some (.int .u64 (x2 : Nat)) := cell_at ha 2
        have z3 : V.cell? ⟨wi.heap.size, 3, none⟩ = some (.string (str x3)) := cell_at ha 3
        simp only at CC
        have hne : wi.heap.size ≠ wa.heap.size := by have := HI.out.lt; omega
        clear ha RD HWP hVs
        go_upto_region 10 with (fail)
        rw [← hV]
        have HVV := Lib.hid hV
        clear hV
        cases hf : f (s, t) x0 with
        | true =>
          rw [hf] at CC
          have KT3 := Lib.hid (show keep (f (s, t)) (P.take (j + 1)) = keep (f (s, t)) (P.take j) by rw [KT2.out]; simp only; rw [if_pos hf, List.append_nil])
          clear KT2 hf
          go_wp2_with (go_at_call 21; refine CC.out.mono ?_; rintro e w3 ⟨rfl, rfl⟩)
          go_roundw
          case rel => exact ⟨j + 1, _, by omega, by go_num, by rw [KT3.out]; exact Lib.hid I1.out⟩
          case measure => simp [intOf]; omega
        | false =>
          rw [hf] at CC
          have KT3 := Lib.hid (show keep (f (s, t)) (P.take (j + 1)) = keep (f (s, t)) (P.take j) ++ [(x0, x1, x2, x3)] by rw [KT2.out]; simp only; rw [hf]; rfl)
          generalize keep (f (s, t)) (P.take j) = M at *
          clear KT2 hf
          have NEWC : ∀ j u, (Ca.pc (x0, x1, x2, x3))[j]? = some u → (V.alloc (.cells #[.int .i64 x0, .int .i64 x1, .int .u64 (x2 : Nat), .string (str x3)] 50)).cell? ((⟨V.heap.size, 0, none⟩ : Addr).add j) = some u := fun j u hj => by
            have hb := heap_alloc_new V (.cells #[.int .i64 x0, .int .i64 x1, .int .u64 (x2 : Nat), .string (str x3)] 50)
            match j, hj with
            | 0, hj => cases hj; exact cell_at hb 0
            | 1, hj => cases hj; exact cell_at hb 1
            | 2, hj => cases hj; exact cell_at hb 2
            | 3, hj => cases hj; exact cell_at hb 3
          have I2 := Lib.hid (I1.out.below ((Below.refl V.heap.size V).alloc (Nat.le_refl _) (.cells #[.int .i64 x0, .int .i64 x1, .int .u64 (x2 : Nat), .string (str x3)] 50)))
          have hbw : wa.heap.size + 1 ≤ (V.alloc (.cells #[.int .i64 x0, .int .i64 x1, .int .u64 (x2 : Nat), .string (str x3)] 50)).heap.size := by have := I1.out.lt; simp; omega
          have NX := Lib.hid (show ∀ v' w6, w6.ownsRow (wa.heap.size + 1) 50 4 v' (M.length + 1) (pcs M ++ Ca.pc (x0, x1, x2, x3)) → (V.alloc (.cells #[.int .i64 x0, .int .i64 x1, .int .u64 (x2 : Nat), .string (str x3)] 50)).grownBy w6 (Value.slice om M.length ok).ownBlock → (w6.cell? ⟨wa.heap.size, 2, none⟩ = some (.slice om M.length ok) ∧ w6.frozen? ⟨wa.heap.size, 2, none⟩ = false) ∧ In wa (w6.setCell ⟨wa.heap.size, 2, none⟩ v') s t v' (M ++ [(x0, x1, x2, x3)]) from fun v' w6 h1 h2 => I2.out.app (x0, x1, x2, x3) h1 h2)
          go_upto_region 11 with (go_at_call 21; refine CC.out.mono ?_; rintro e w3 ⟨rfl, hw3⟩; subst hw3)
          go_wp2_with (at_builtin; (refine wpList_append_own _ rfl (.tmp 40) (.tmp 42) 51 rfl (wa.heap.size + 1) 50 j0 _ 4 40 Try.underlying51 hj0 jz0 jz1 jz2 rfl (by decide) (.slice om M.length ok) M.length (pcs M) (by simp [Act.eval]) I2.out.own ⟨w3.heap.size, 0, none⟩ 1 1 (Ca.pc (x0, x1, x2, x3)) rfl rfl NEWC ?c2 ?c3 ?c4 ?c5 ?_))
          case c2 => exact pc_one _
          case c3 => unfold maxLen; omega
          case c4 => omega
          case c5 => exact hbw
          intro v' w6 hown6 hgrow _
          obtain ⟨⟨d2, df⟩, fin⟩ := NX.out v' w6 hown6 hgrow
          obtain ⟨vm, vk, rfl⟩ := own_forms hown6
          have FN := Lib.hid fin
          clear hown6 hgrow fin
          go_wp2_with fail
          go_roundw
          case rel => exact ⟨j + 1, _, by omega, by go_num, by rw [KT3.out]; exact Lib.hid FN.out⟩
          case measure => simp [intOf]; omega
      case neg =>
        obtain rfl : j = l := by omega
        obtain ⟨w4, rfl⟩ : ∃ w4, w4 = wr := ⟨_, rfl⟩
        have I4 := Lib.hid (show In wa w4 s t o (keep (f (s, t)) P) from by have := HI.out; rwa [List.take_of_length_le (by rw [HPL.out]; exact Nat.le_refl _)] at this)
        have HPW := Lib.hid (And.intro (show ∀ x ∈ keep (f (s, t)) P, Wp x from keep_wp HWP.out) (show (keep (f (s, t)) P).length * 40 ≤ 140737488355328 from by
          have := keep_len (f (s, t)) P P.length
          rw [List.take_length] at this
          have := HPL.out
          omega))
        have ROWS := Lib.hid (show ∀ c ∈ R, ∀ j, c.2.2.ownBlock = some j → j < wa.heap.size from fun c hc j hj => (Gt.own_lt (HO.out.rows c hc).1 hj).2)
        have KT := Lib.hid (show apl f (C.take (k + 1)) = apl f (C.take k) ++ (if keep (f (s, t)) P = [] then [] else [((s, t), keep (f (s, t)) P)]) from KT.out)
        generalize keep (f (s, t)) P = M at KT I4 HPW
        obtain ⟨ma, mc, rfl⟩ := own_forms I4.out.own
        have O4 := Lib.hid (HO.out.below I4.out.bl)
        have B4 := Lib.hid (HB.out.trans (I4.out.bl.mono zb))
        obtain ⟨_, hlt4, b0, b1, b2, _, _⟩ := I4.out
        clear HI I0 RD HWP HO HB HPL
        by_cases hM : M = []
        · have KT2 := Lib.hid (show apl f (C.take (k + 1)) = apl f (C.take k) by rw [KT.out, if_pos hM, List.append_nil])
          subst hM
          clear KT
          go_wp2_with fail
          go_roundw
          case rel => exact ⟨k + 1, R, by omega, by go_num, Lib.hid O4.out, by rw [KT2.out]; exact HT, Lib.hid B4.out⟩
          case measure => simp [intOf]; omega
        have KT2 := Lib.hid (show apl f (C.take (k + 1)) = apl f (C.take k) ++ [((s, t), M)] by rw [KT.out, if_neg hM])
        have hl0 : (0 : Int) < (M.length : Int) := by have := List.length_pos_iff.2 hM; omega
        clear KT hM
        have hb4 := B4.out.size
        have NEWC : ∀ j u, [Value.string s, .string t, .slice ma (List.length M) mc][j]? = some u → (w4.alloc (.cells #[.string s, .string t, .slice ma (List.length M) mc] 53)).cell? ((⟨w4.heap.size, 0, none⟩ : Addr).add j) = some u := fun j u hj => by
          have hb := heap_alloc_new w4 (.cells #[.string s, .string t, .slice ma (List.length M) mc] 53)
          match j, hj with
          | 0, hj => cases hj; exact cell_at hb 0
          | 1, hj => cases hj; exact cell_at hb 1
          | 2, hj => cases hj; exact cell_at hb 2
        have OWN := Lib.hid (O4.out.own.alloc (.cells #[.string s, .string t, .slice ma (List.length M) mc] 53))
        have hbw : w.heap.size ≤ (w4.alloc (.cells #[.string s, .string t, .slice ma (List.length M) mc] 53)).heap.size := by simp; omega
        have hR9 := RL.out
        have NX := Lib.hid (show ∀ v' w6, w6.ownsRow w.heap.size 53 3 v' (R.length + 1) (ccl R ++ [.string s, .string t, .slice ma (List.length M) mc]) → (w4.alloc (.cells #[.string s, .string t, .slice ma (List.length M) mc] 53)).grownBy w6 (Value.slice oa R.length oc).ownBlock → Ot w6 w.heap.size v' (R ++ [((s, t), M, .slice ma (List.length M) mc)]) ∧ tab (R ++ [((s, t), M, .slice ma (List.length M) mc)]) = apl f (C.take (k + 1)) ∧ Below w.heap.size w w6 from fun v' w6 h1 h2 => by
          refine ⟨(O4.out.below ((Below.refl _ _).alloc (Nat.le_refl _) (.cells #[.string s, .string t, .slice ma (List.length M) mc] 53))).snoc (s, t) M ROWS.out ((Hc.own_base I4.out.own (by omega)).alloc (.cells #[.string s, .string t, .slice ma (List.length M) mc] 53)) (fun j hj => by have := (Gt.own_lt I4.out.own hj).1; omega) HPW.out.1 HPW.out.2 h1 h2, by rw [tab_snoc, HT.out, KT2.out], (B4.out.alloc hb4 (.cells #[.string s, .string t, .slice ma (List.length M) mc] 53)).grown h2 hbw (fun j ej => (Gt.own_lt O4.out.own ej).1)⟩)
        clear HPW ROWS
        go_wp2_with (at_builtin; refine wpList_append_own _ rfl (.tmp 50) (.tmp 52) 38 rfl w.heap.size 53 i0 _ 3 56 Try.underlying38 hi hz0 hz1 hz2 rfl (by decide) (.slice oa R.length oc) R.length (ccl R) (by simp [Act.eval]) OWN.out ⟨w4.heap.size, 0, none⟩ 1 1 [.string s, .string t, .slice ma (List.length M) mc] rfl rfl NEWC ?c2 ?c3 ?c4 ?c5 ?_)
        case c2 => intro u hu; simp at hu; rcases hu with rfl | rfl | rfl <;> rfl
        case c3 => unfold maxLen; omega
        case c4 => omega
        case c5 => exact hbw
        intro v' w6 hown6 hgrow _
        have FN := Lib.hid (NX.out v' w6 hown6 hgrow)
        clear hown6 hgrow
        go_wp2_with fail
        go_roundw
        case rel => exact ⟨k + 1, _, by omega, by go_num, Lib.hid FN.out.1, Lib.hid FN.out.2.1, Lib.hid FN.out.2.2⟩
        case measure => simp [intOf]; omega
end Hj
end Go.Proofs.Ytmlbmiegfeadjaa
