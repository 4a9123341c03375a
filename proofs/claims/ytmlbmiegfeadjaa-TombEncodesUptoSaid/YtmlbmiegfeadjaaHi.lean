/- Apply of the program. -/
import Derived.Test.YtmlbmiegfeadjaaHh
namespace Go.Proofs.Ytmlbmiegfeadjaa
open Go.RowKit
namespace Hi
open Jb Ca Cz Ga Gm Gn Gt Gw Gy Gz Hb Hc Hd He Hf Hg Hh

/-- What the graves do to a column's points, in each world behind. -/
def Lf (w : World) (gv : Value) (f : Ky → Int → Bool) : Prop :=
  ∀ y, Below w.heap.size w y → ∀ (k : Ky) (pa : Option Addr) (pn pc : Nat) (P : List Pnt), Pi y (.slice pa pn pc) P → pn * 40 ≤ 140737488355328 →
    Calls Try.prog 31 #[gv, .agg #[.string k.1, .string k.2, .slice pa pn pc]] y fun e w' => ∃ r, e = .returned r ∧ w'.ownsRow y.heap.size 50 4 r (keep (f k) P).length (pcs (keep (f k) P)) ∧ Below y.heap.size y w'
theorem lk_len {G : List Gv} {m : Nat} (h : ∀ g ∈ G, g.2.length ≤ m) (k : Ky) : (lk G k).length ≤ m := by
  unfold lk
  cases e : G.find? (fun g => decide (g.1 = k)) with
  | none => simp
  | some g => exact h g (List.mem_of_find?_eq_some e)
theorem graves_lf (w : World) (B0 : Nat) (v : Value) (L : List Tmb) (ho : w.ownsRow B0 57 4 v L.length (tcs L)) (hw : ∀ x ∈ L, Wt x) (hn : L.length * 56 ≤ 140737488355328) :
    Calls Try.prog 30 #[v] w fun e w' => ∃ a n c, e = .returned (.slice a n c) ∧ Lf w' (.slice a n c) (cov L) ∧ Below w.heap.size w w' := by
  refine (gravesOf30 w B0 v L ho hw hn).mono ?_
  rintro e w' ⟨r, ys, R, rfl, hp, hs, hG, hT, hB⟩
  have inv := inv_build ys hs
  obtain ⟨l1, l2⟩ := build_len ys
  have hyl := hp.length_eq
  have hRl : R.length ≤ ys.length := by rw [← tabG_len R, hT]; exact l1
  obtain ⟨a, c, hf⟩ := own_forms hG.own
  refine ⟨a, R.length, c, by rw [hf], ?_, hB⟩
  rw [hf] at hG
  intro y hy k pa pn pc P hP hp40
  have h := left31 y w.heap.size _ R k pa pn pc P (cov L k) (hG.below hy) (by rw [hT]; exact inv.keys) (fun k => by rw [hT]; exact good_look inv k) (fun k => by rw [hT]; have := lk_len l2 k; omega) (by omega) (fun t => by rw [hT]; exact cov_eq hp inv k t) hP hp40
  exact h
set_option maxRecDepth 100000
set_option maxHeartbeats 8000000
theorem apply18 (w : World) (B0 : Nat) (tv cv : Value) (L : List Tmb) (C : List Kp) (ho : w.ownsRow B0 57 4 tv L.length (tcs L)) (hw : ∀ x ∈ L, Wt x) (hn : L.length * 56 ≤ 140737488355328) (hC : Ci w cv C) (hc : C.length * 56 ≤ 140737488355328) :
    Calls Try.prog 18 #[tv, cv] w fun e w' => ∃ r R, e = .returned r ∧ Ot w' w.heap.size r R ∧ tab R = apl (cov L) C ∧ Below w.heap.size w w' := by
  obtain ⟨i0, hi, hz0, hz1, hz2⟩ := info_parts info53
  have G30 := Lib.hid (graves_lf w B0 tv L ho hw hn)
  have HC := Lib.hid hC
  obtain ⟨ca, cc, rfl, hat⟩ := hC
  obtain ⟨n, hN⟩ : ∃ n, n = C.length := ⟨_, rfl⟩
  have HN := Lib.hid hN
  have AT := Lib.hid (show ∀ y, Below w.heap.size w y → ∀ i, i < n → ∃ b off ra rc, ca = some ⟨b, off, none⟩ ∧ n ≤ cc ∧ b < w.heap.size ∧ (C.getD i c0).2.length * 40 ≤ 140737488355328 ∧ y.cell? ⟨b, off + i * 3, none⟩ = some (.string (C.getD i c0).1.1) ∧ y.cell? ⟨b, off + i * 3 + 1, none⟩ = some (.string (C.getD i c0).1.2) ∧ y.cell? ⟨b, off + i * 3 + 2, none⟩ = some (.slice ra (C.getD i c0).2.length rc) ∧ Pi y (.slice ra (C.getD i c0).2.length rc) (C.getD i c0).2 from fun y hy i hi => by
    obtain ⟨q, off, ra, rc, e, h1, h2, h3, h4, h5, h6, h7⟩ := hat i (by omega)
    exact ⟨q, off, ra, rc, e, by omega, h2, h3, (hy.cell h2).trans h4, (hy.cell h2).trans h5, (hy.cell h2).trans h6, h7.below hy⟩)
  rw [← hN] at hc ⊢
  generalize cov L = f at G30 ⊢
  clear ho hw hn hat hN HC
  go_enter Try.func18, Try.ntmps18
  go_wp2_with fail
  refine G30.out.mono ?_
  rintro e w1 ⟨ga, gn, gc, rfl, lf, b1⟩
  have LF := Lib.hid lf
  have B1 := Lib.hid b1
  clear lf b1 G30
  go_wp2_with fail
  go_loopw [6, 13] (fun o i wr => ∃ k R, k ≤ n ∧ i = .int .i64 (k : Nat) ∧ Hid (Ot wr w1.heap.size o R) ∧ Hid (tab R = apl f (C.take k)) ∧ Hid (Below w1.heap.size w1 wr)) (fun _ i _ => n - (intOf i).toNat)
  case atStart => exact ⟨0, [], Nat.zero_le _, rfl, Lib.hid (Ot.nil _ _), Lib.hid rfl, Lib.hid (Below.refl _ _)⟩
  case round =>
    obtain ⟨k, R, hk, rfl, HO, HT, HB⟩ := hrel
    by_cases hkn : k < n
    case neg =>
      obtain rfl : k = n := by omega
      go_wp2_with fail
      go_ret
      refine ⟨_, R, rfl, HO.out.base B1.out.size, ?_, B1.out.trans (HB.out.mono B1.out.size)⟩
      have := HT.out
      rwa [List.take_of_length_le (by rw [HN.out]; exact Nat.le_refl _)] at this
    obtain ⟨wa, rfl⟩ : ∃ wa, wa = wr := ⟨_, rfl⟩
    have b0a := B1.out.trans (HB.out.mono B1.out.size)
    obtain ⟨b, off, ra, rc, rfl, hnc, hb, hl40, y0, y1, y2, hpi⟩ := AT.out wa b0a k hkn
    have KT := Lib.hid (apl_take f C (k := k) (by rw [← HN.out]; exact hkn))
    have hbz : b < wa.heap.size := Nat.lt_of_lt_of_le hb b0a.size
    have zb := HB.out.size
    have RL := Lib.hid (show R.length ≤ k by
      have h1 : R.length = (apl f (C.take k)).length := by rw [← HT.out, tab_len]
      rw [h1]
      unfold apl
      refine Nat.le_trans (List.length_filter_le _ _) ?_
      rw [List.length_map, List.length_take]; omega)
    obtain ⟨oa, oc, rfl⟩ := own_forms HO.out.own
    generalize C.getD k c0 = x at hl40 y0 y1 y2 hpi KT
    obtain ⟨⟨s, t⟩, P⟩ := x
    simp only at hl40 y0 y1 y2 hpi
    generalize hpl : P.length = l at hl40 y2 hpi
    have ha := heap_alloc_new wa (.cells #[.string s, .string t, .slice ra l rc] 53)
    have bA := (Below.refl wa.heap.size wa).alloc (Nat.le_refl _) (.cells #[.string s, .string t, .slice ra l rc] 53)
    obtain ⟨W, hW⟩ : ∃ W, W = wa.alloc (.cells #[.string s, .string t, .slice ra l rc] 53) := ⟨_, rfl⟩
    rw [← hW] at ha bA
    have hWs : W.heap.size = wa.heap.size + 1 := by rw [hW]; simp
    have bW := HB.out.trans (bA.mono zb)
    have CALL := Lib.hid (LF.out W bW (s, t) ra l rc P (hpi.below bA) hl40)
    have BX := Lib.hid (show ∀ y, Below W.heap.size W y → y.cell? ⟨wa.heap.size, 0, none⟩ = some (.string s) ∧ y.cell? ⟨wa.heap.size, 1, none⟩ = some (.string t) ∧ y.cell? ⟨wa.heap.size, 2, none⟩ = some (.slice ra l rc) ∧ y.frozen? ⟨wa.heap.size, 2, none⟩ = false from fun y hy => by
      have hb := (hy.block wa.heap.size (by omega)).trans ha
      exact ⟨cell_at hb 0, cell_at hb 1, cell_at hb 2, by simp [World.frozen?, hb]⟩)
    -- the world behind the store
    have ST := Lib.hid (show ∀ y r M, Below W.heap.size W y → y.ownsRow W.heap.size 50 4 r (List.length M) (pcs M) → Below wa.heap.size wa (y.setCell ⟨wa.heap.size, 2, none⟩ r) ∧ Below w1.heap.size w1 (y.setCell ⟨wa.heap.size, 2, none⟩ r) ∧ Ot (y.setCell ⟨wa.heap.size, 2, none⟩ r) w1.heap.size (.slice oa R.length oc) R ∧ (y.setCell ⟨wa.heap.size, 2, none⟩ r).ownsRow w1.heap.size 50 4 r (List.length M) (pcs M) ∧ (∀ j, r.ownBlock = some j → wa.heap.size ≤ j) ∧ (y.setCell ⟨wa.heap.size, 2, none⟩ r).cell? ⟨wa.heap.size, 0, none⟩ = some (.string s) ∧ (y.setCell ⟨wa.heap.size, 2, none⟩ r).cell? ⟨wa.heap.size, 1, none⟩ = some (.string t) ∧ (y.setCell ⟨wa.heap.size, 2, none⟩ r).cell? ⟨wa.heap.size, 2, none⟩ = some r from fun y r M hy hr => by
      obtain ⟨c0, c1, c2, _⟩ := BX.out y hy
      have byw : Below wa.heap.size wa (y.setCell ⟨wa.heap.size, 2, none⟩ r) := by
        have h1 := bA.trans (hy.mono (by omega))
        exact ⟨h1.os, h1.tape, h1.output, by simpa using h1.size, fun k hk => by rw [heap_setCell_other _ _ _ _ (by simp; omega)]; exact h1.block k hk⟩
      refine ⟨byw, HB.out.trans (byw.mono zb), HO.out.below byw, Hc.own_base (Hc.own_of_block hr fun j hj => heap_setCell_other _ _ _ _ (by have := (Gt.own_lt hr hj).1; simp; omega)) (by omega), fun j hj => by have := (Gt.own_lt hr hj).1; omega, (cell_other (by simp)).trans c0, (cell_other (by simp)).trans c1, cell_same c2⟩)
    obtain ⟨z0, z1, z2, z3⟩ := BX.out W (Below.refl _ _)
    have HPW := Lib.hid (And.intro (show ∀ x ∈ keep (f (s, t)) P, Wp x from keep_wp hpi.1) (show (keep (f (s, t)) P).length * 40 ≤ 140737488355328 from by
      have := keep_len (f (s, t)) P P.length
      rw [List.take_length] at this
      omega))
    have ROWS := Lib.hid (show ∀ c ∈ R, ∀ j, c.2.2.ownBlock = some j → j < wa.heap.size from fun c hc j hj => (Gt.own_lt (HO.out.rows c hc).1 hj).2)
    simp only at KT CALL
    generalize keep (f (s, t)) P = M at CALL KT HPW
    clear ha bA bW b0a hpi HO HB hpl
    go_upto_region 6 with (fail)
    rw [← hW]
    have HWW := Lib.hid hW
    clear hW
    by_cases hM : M = []
    · have KT2 := Lib.hid (show apl f (C.take (k + 1)) = apl f (C.take k) by rw [KT.out, if_pos hM, List.append_nil])
      subst hM
      clear KT
      go_wp2_with (go_at_call 31; refine CALL.out.mono ?_; rintro e w3 ⟨r, rfl, o3, b3⟩; obtain ⟨z0, z1, z2, z3⟩ := BX.out w3 b3; have X := Lib.hid (ST.out w3 r [] b3 o3); obtain ⟨ma, mc, rfl⟩ := own_forms o3; clear o3 b3)
      go_roundw
      case rel => exact ⟨k + 1, R, by omega, by go_num, Lib.hid X.out.2.2.1, by rw [KT2.out]; exact HT, Lib.hid X.out.2.1⟩
      case measure => simp [intOf]; omega
    have KT2 := Lib.hid (show apl f (C.take (k + 1)) = apl f (C.take k) ++ [((s, t), M)] by rw [KT.out, if_neg hM])
    have hl0 : (0 : Int) < (M.length : Int) := by have := List.length_pos_iff.2 hM; omega
    clear KT hM
    go_upto_region 7 with (go_at_call 31; refine CALL.out.mono ?_; rintro e w3 ⟨r, rfl, o3, b3⟩; obtain ⟨z0, z1, z2, z3⟩ := BX.out w3 b3; have X := Lib.hid (ST.out w3 r M b3 o3); obtain ⟨ma, mc, rfl⟩ := own_forms o3; clear o3 b3)
    clear z0 z1 z2 z3
    obtain ⟨w4, hw4⟩ : ∃ w4, w4 = w3.setCell ⟨wa.heap.size, 2, none⟩ (.slice ma M.length mc) := ⟨_, rfl⟩
    rw [← hw4] at X ⊢
    clear hw4
    obtain ⟨_, bq, oq, _, _, z0, z1, z2⟩ := X.out
    have hb4 := bq.size
    have NEWC : ∀ j u, [Value.string s, .string t, .slice ma (List.length M) mc][j]? = some u → (w4.alloc (.cells #[.string s, .string t, .slice ma (List.length M) mc] 53)).cell? ((⟨w4.heap.size, 0, none⟩ : Addr).add j) = some u := fun j u hj => by
      have hb := heap_alloc_new w4 (.cells #[.string s, .string t, .slice ma (List.length M) mc] 53)
      match j, hj with
      | 0, hj => cases hj; exact cell_at hb 0
      | 1, hj => cases hj; exact cell_at hb 1
      | 2, hj => cases hj; exact cell_at hb 2
    have OWN := Lib.hid (oq.own.alloc (.cells #[.string s, .string t, .slice ma (List.length M) mc] 53))
    have hbw : w1.heap.size ≤ (w4.alloc (.cells #[.string s, .string t, .slice ma (List.length M) mc] 53)).heap.size := by simp; omega
    have hR9 := RL.out
    have NX := Lib.hid (show ∀ v' w6, w6.ownsRow w1.heap.size 53 3 v' (R.length + 1) (ccl R ++ [.string s, .string t, .slice ma (List.length M) mc]) → (w4.alloc (.cells #[.string s, .string t, .slice ma (List.length M) mc] 53)).grownBy w6 (Value.slice oa R.length oc).ownBlock → Ot w6 w1.heap.size v' (R ++ [((s, t), M, .slice ma (List.length M) mc)]) ∧ tab (R ++ [((s, t), M, .slice ma (List.length M) mc)]) = apl f (C.take (k + 1)) ∧ Below w1.heap.size w1 w6 from fun v' w6 h1 h2 => by
      obtain ⟨x1, x2, x3, x4, x5, _⟩ := X.out
      refine ⟨(x3.below ((Below.refl _ _).alloc (Nat.le_refl _) (.cells #[.string s, .string t, .slice ma (List.length M) mc] 53))).snoc (s, t) M ROWS.out (x4.alloc (.cells #[.string s, .string t, .slice ma (List.length M) mc] 53)) x5 HPW.out.1 HPW.out.2 h1 h2, by rw [tab_snoc, HT.out, KT2.out], (x2.alloc hb4 (.cells #[.string s, .string t, .slice ma (List.length M) mc] 53)).grown h2 hbw (fun j ej => (Gt.own_lt x3.own ej).1)⟩)
    clear bq oq X HPW ROWS ST BX
    go_wp2_with (at_builtin; refine wpList_append_own _ rfl (.tmp 25) (.tmp 27) 38 rfl w1.heap.size 53 i0 _ 3 56 Try.underlying38 hi hz0 hz1 hz2 rfl (by decide) (.slice oa R.length oc) R.length (ccl R) (by simp [Act.eval]) OWN.out ⟨w4.heap.size, 0, none⟩ 1 1 [.string s, .string t, .slice ma (List.length M) mc] rfl rfl NEWC ?c2 ?c3 ?c4 ?c5 ?_)
    case c2 => intro u hu; simp at hu; rcases hu with rfl | rfl | rfl <;> rfl
    case c3 => unfold maxLen; omega
    case c4 => omega
    case c5 => exact hbw
    intro v' w6 hown6 hgrow _
    have FN := Lib.hid (NX.out v' w6 hown6 hgrow)
    clear hown6 hgrow
    go_wp2_with fail
    go_roundw
    case rel => exact ⟨k + 1, _, by omega, by go_num, Lib.hid FN.out.1, Lib.hid FN.out.2.1, Lib.hid FN.out.2.2⟩
    case measure => simp [intOf]; omega
end Hi
end Go.Proofs.Ytmlbmiegfeadjaa
