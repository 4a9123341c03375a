/- The document's table: Take. -/
import Derived.Test.YtloiclmngmnbdaaUf
namespace Go.Proofs.Ytloiclmngmnbdaa
open Go.RowKit Go.Maps Go.ChangeMaps Go.MapKept
namespace Uh
open Jb Ca Ck Ct Cd Cz Ce Tb Ua Ub Uc Ud Ue Uf Ug Li

/-- The columns that stay so far. -/
structure Out (w : World) (S : Nat → Prop) (B h : Nat) (v : Value) (R : List Col) : Prop where
  own : w.ownsRow B 54 3 v R.length (ccl R)
  rows : ∀ c ∈ R, w.ownsRow 0 32 4 c.2.2 c.2.1.length (pcs c.2.1) ∧ (∀ k, c.2.2.ownBlock = some k → (S k ∨ B ≤ k) ∧ k ≠ h) ∧ ∀ x ∈ c.2.1, Wp x
theorem Out.nil (w : World) (S : Nat → Prop) (B h : Nat) : Out w S B h (.slice none 0 0) [] := ⟨World.ownsRow_nil _ _ _ _, fun c hc => by cases hc⟩
theorem Out.below {w w' : World} {S : Nat → Prop} {B h : Nat} {v : Value} {R : List Col} (H : Out w S B h v R) (b : Below w.heap.size w w') : Out w' S B h v R :=
  ⟨own_of_block H.own fun k hk => b.block k (own_lt H.own hk).2, fun c hc => ⟨own_of_block (H.rows c hc).1 fun k hk => b.block k (own_lt (H.rows c hc).1 hk).2, (H.rows c hc).2⟩⟩
/-- One column more. -/
theorem Out.snoc {w w' : World} {S : Nat → Prop} {B h : Nat} {v v' : Value} {R : List Col} (H : Out w S B h v R) (k : Ky) (L : List Pnt) (r : Value) (hr : w.ownsRow 0 32 4 r L.length (pcs L)) (hb : ∀ j, r.ownBlock = some j → (S j ∨ B ≤ j) ∧ j ≠ h) (hw : ∀ x ∈ L, Wp x)
    (o : w'.ownsRow B 54 3 v' (R.length + 1) (ccl R ++ [.string k.1, .string k.2, r])) (g : w.grownBy w' v.ownBlock) : Out w' S B h v' (R ++ [(k, L, r)]) := by
  have keep : ∀ {u : Value} {n : Nat} {xs : List Value} {B' : Nat}, w.ownsRow B' 32 4 u n xs → w'.ownsRow B' 32 4 u n xs := fun {u n xs B'} hu => by
    refine own_of_block hu fun j hj => g.block j (own_lt hu hj).2 fun e => ?_
    exact Ue.apart H.own hu (k := j) e.symm hj
  refine ⟨?_, fun c hc => ?_⟩
  · rw [List.length_append, ccl_app]; exact o
  · rcases List.mem_append.1 hc with hc | hc
    · exact ⟨keep (H.rows c hc).1, (H.rows c hc).2⟩
    · obtain rfl : c = (k, L, r) := by simpa using hc
      exact ⟨keep hr, hb, hw⟩
theorem Rt.taken {w w4 : World} {S : Nat → Prop} {h m : Nat} {v v3 : Value} {R R' : List Col} (H : Rt w S h m v R) (b : Below w.heap.size w w4) (O : Out w4 S w.heap.size h v3 R') :
    Rt (w4.setCell ⟨h, 0, none⟩ v3) (New S w (w4.setCell ⟨h, 0, none⟩ v3)) h m v3 R' := by
  have H4 := H.below b (Nat.le_refl _)
  have hh : h < w.heap.size := H.lt h H.sh
  refine ⟨cell_same H4.c0, (cell_other (by simp)).trans H4.c1, fun j => by simpa using H4.z j, ⟨?_, fun j hj => .inr ⟨(own_lt O.own hj).1, by simpa using (own_lt O.own hj).2⟩, fun c hc => ?_⟩, fun e => ?_, fun c hc e => ?_, fun c hc => (O.rows c hc).2.2, .inl H.sh, fun j hj => ?_, H.m9⟩
  · exact own_base (own_of_block O.own fun j hj => heap_set_other _ _ _ _ _ fun e => by have := (own_lt O.own hj).1; omega) (Nat.zero_le _)
  · obtain ⟨r1, r2, r3⟩ := O.rows c hc
    refine ⟨own_of_block r1 fun j hj => heap_set_other _ _ _ _ _ (r2 j hj).2, fun j hj => ?_⟩
    rcases (r2 j hj).1 with x | x
    · exact .inl x
    · exact .inr ⟨x, by simpa using (own_lt r1 hj).2⟩
  · have := (own_lt O.own e).1; omega
  · exact ((O.rows c hc).2.1 h e).2 rfl
  · rcases hj with hj | hj
    · have := H4.lt j hj; simpa using this
    · exact hj.2
theorem tn_take {R : List Col} {q : Nat} (hq : q < R.length) (k : Ky) (a b : Int) : tn ((tab R).take (q + 1)) k a b = tn ((tab R).take q) k a b + cn k a b ((R.getD q cz).1, (R.getD q cz).2.1) := by
  rw [List.take_add_one, List.getElem?_eq_getElem (by rw [tab_len]; exact hq)]
  have e := tab_get R q
  rw [List.getD_eq_getElem?_getD, List.getElem?_eq_getElem (by rw [tab_len]; exact hq)] at e
  simp only [Option.getD_some] at e
  rw [Option.toList_some, tn_snoc, e]
theorem tk_take {R : List Col} {q : Nat} (hq : q < R.length) (k : Ky) (a b : Int) : tk ((tab R).take (q + 1)) k a b = tk ((tab R).take q) k a b ++ (if (cf k a b ((R.getD q cz).1, (R.getD q cz).2.1)).2 = [] then [] else [cf k a b ((R.getD q cz).1, (R.getD q cz).2.1)]) := by
  rw [List.take_add_one, List.getElem?_eq_getElem (by rw [tab_len]; exact hq)]
  have e := tab_get R q
  rw [List.getD_eq_getElem?_getD, List.getElem?_eq_getElem (by rw [tab_len]; exact hq)] at e
  simp only [Option.getD_some] at e
  rw [Option.toList_some, tk_snoc, e]
theorem cn_le (k : Ky) (a b : Int) (c : Ky × List Pnt) : cn k a b c ≤ c.2.length := by
  unfold cn rng; split
  · exact List.length_filter_le _ _
  · omega
theorem tn_le (T : Tab) (k : Ky) (a b : Int) : tn T k a b ≤ tsum T := by
  unfold tn tsum
  induction T with
  | nil => simp
  | cons c r ih => have := cn_le k a b c; simp only [List.map_cons, List.sum_cons]; omega
set_option maxRecDepth 100000
set_option maxHeartbeats 4000000 in
theorem take41 (w : World) (S : Nat → Prop) (h m : Nat) (v : Value) (R : List Col) (H : Rt w S h m v R) (k : Ky) (a b : Int) (hn : R.length ≤ 1000000) (hs : tsum (tab R) ≤ 1000000) (hne : ∀ c ∈ R, c.2.1 ≠ []) :
    Calls Try.prog 41 #[.pointer (some ⟨h, 0, none⟩), .string k.1, .string k.2, .bool false, .int .i64 a, .int .i64 b] w fun e w' => e = .returned (.int .i64 (tn (tab R) k a b : Nat)) ∧ ∃ v' R', tab R' = tk (tab R) k a b ∧ Rt w' (New S w w') h m v' R' ∧ Chg w w' S := by
  obtain ⟨i0, hi, hz0, hz1, hz2⟩ := info_parts infoP
  obtain ⟨n, hN⟩ : ∃ n, n = R.length := ⟨_, rfl⟩
  have HN := Lib.hid hN
  obtain ⟨va, vc, hv⟩ := own_forms H.tm.own
  have hc0 := H.c0
  rw [hv, ← hN] at hc0
  have hhb : h < w.heap.size := H.lt h H.sh
  -- a column, its points
  have AT := Lib.hid (show ∀ q, q < n → ∃ tb s f ra l rc L, va = some ⟨tb, 0, none⟩ ∧ n ≤ vc ∧ l = List.length L ∧ 0 < l ∧ l ≤ 1000000 ∧ (∀ y, Below w.heap.size w y → y.cell? ⟨tb, q * 3, none⟩ = some (.string s) ∧ y.cell? ⟨tb, q * 3 + 1, none⟩ = some (.string f) ∧ y.cell? ⟨tb, q * 3 + 2, none⟩ = some (.slice (some ⟨ra, 0, none⟩) l rc)) ∧ (R.getD q cz).1 = (s, f) ∧ (R.getD q cz).2.1 = L ∧ l ≤ rc ∧ (∀ y, Below w.heap.size w y → (y.ownsRow 0 32 4 (.slice (some ⟨ra, 0, none⟩) l rc) l (pcs L)) ∧ ∀ j, j < l → PAt y ra (j * 4) (L.getD j p0)) ∧ ((S ra ∨ w.heap.size ≤ ra) ∧ ra ≠ h) ∧ (∀ x ∈ L, Wp x) from fun q hq => by
    obtain ⟨b, c', e, h1, h2, h3, h4, h5, h6⟩ := H.tm.at (i := q) (by omega)
    have hm := getD_in (R := R) (i := q) (by omega)
    obtain ⟨o, ob⟩ := H.tm.rows _ hm
    have hl0 : 0 < (R.getD q cz).2.1.length := List.length_pos_iff.2 (hne _ hm)
    have hl9 : (R.getD q cz).2.1.length ≤ 1000000 := by
      have := tsum_take (T := tab R) (q := q) (by rw [tab_len]; omega)
      have := tsum_take_le (tab R) (q + 1)
      rw [tab_get] at *
      simp only at *
      omega
    obtain ⟨ra, rc, hra⟩ := Go.Joins.ownsRow_form o hl0
    rw [hv, ← hN] at e
    cases e
    have nr := H.nr _ hm
    rw [hra] at o h6 ob nr
    have hrc : (R.getD q cz).2.1.length ≤ rc := by
      rcases o.2 with ⟨e, _⟩ | ⟨_, _, _, e, _, _, hc, _⟩
      · cases e
      · cases e; exact hc
    have hral := (own_lt o rfl).2
    refine ⟨b, _, _, ra, _, rc, _, rfl, by omega, rfl, hl0, hl9, fun y hy => ⟨(World.cell?_of_block (hy.block b h3)).trans h4, (World.cell?_of_block (hy.block b h3)).trans h5, (World.cell?_of_block (hy.block b h3)).trans h6⟩, rfl, rfl, hrc, fun y hy => ?_, ⟨.inl (ob ra rfl), fun e => nr (by rw [e]; rfl)⟩, H.wp _ hm⟩
    have o' := own_of_block o (fun j hj => hy.block j (own_lt o hj).2)
    refine ⟨o', fun j hj => ?_⟩
    obtain ⟨rb', rc', e, _, _, h3⟩ := row_at o' hj
    cases e
    exact h3)
  have FINI := Lib.hid (show ∀ w4 v3 R', Below w.heap.size w w4 → Out w4 S w.heap.size h v3 R' → tab R' = tk ((tab R).take n) k a b → (w4.cell? ⟨h, 0, none⟩ = some v ∧ w4.frozen? ⟨h, 0, none⟩ = false) ∧ ∃ v' R', tab R' = tk (tab R) k a b ∧ Rt (w4.setCell ⟨h, 0, none⟩ v3) (New S w (w4.setCell ⟨h, 0, none⟩ v3)) h m v' R' ∧ Chg w (w4.setCell ⟨h, 0, none⟩ v3) S from fun w4 v3 R' b4 o e => by
    have H4 := H.below b4 (Nat.le_refl _)
    refine ⟨⟨H4.c0, H4.z 0⟩, v3, R', by rw [e, List.take_of_length_le (by rw [tab_len]; omega)], Rt.taken H b4 o, (Chg.of_below b4 (Nat.le_refl _) S).setCell H.sh _⟩)
  have TN := Lib.hid (show ∀ q, q < n → tn ((tab R).take (q + 1)) k a b = tn ((tab R).take q) k a b + cn k a b ((R.getD q cz).1, (R.getD q cz).2.1) ∧ tk ((tab R).take (q + 1)) k a b = tk ((tab R).take q) k a b ++ (if (cf k a b ((R.getD q cz).1, (R.getD q cz).2.1)).2 = [] then [] else [cf k a b ((R.getD q cz).1, (R.getD q cz).2.1)]) from fun q hq => ⟨tn_take (by omega) k a b, tk_take (by omega) k a b⟩)
  have TB := Lib.hid (show ∀ q, tn ((tab R).take q) k a b ≤ 1000000 from fun q => Nat.le_trans (tn_le _ k a b) (Nat.le_trans (tsum_take_le _ _) hs))
  have TE := Lib.hid (show tn ((tab R).take n) k a b = tn (tab R) k a b from by rw [List.take_of_length_le (by rw [tab_len]; omega)])
  have C0 := Lib.hid (show ∀ y, Below w.heap.size w y → y.cell? ⟨h, 0, none⟩ = some (.slice va n vc) from fun y hy => (World.cell?_of_block (hy.block h hhb)).trans hc0)
  have hvv := Lib.hid hv
  have HH0 := Lib.hid hhb
  have hn9 : n ≤ 1000000 := by omega
  clear H hv hN hs hne hhb hn hc0
  obtain ⟨k1, k2⟩ := k
  simp only
  have c0 := C0.out w (Below.refl _ _)
  go_enter Try.func41, Try.ntmps41
  go_wp2_with fail
  clear c0
  go_loopw [13, 14, 24] (fun nn out ct wr => ∃ q R', q ≤ n ∧ ct = .int .i64 (q : Nat) ∧ nn = .int .i64 (tn ((tab R).take q) (k1, k2) a b : Nat) ∧ Hid (Out wr S w.heap.size h out R') ∧ Hid (tab R' = tk ((tab R).take q) (k1, k2) a b) ∧ Hid (Below w.heap.size w wr)) (fun _ _ ct _ => n - (intOf ct).toNat)
  case atStart => exact ⟨0, [], Nat.zero_le _, rfl, rfl, Lib.hid (Out.nil _ _ _ _), Lib.hid rfl, Lib.hid (Below.refl _ _)⟩
  case round =>
    obtain ⟨q, R', hq, rfl, rfl, HO, HT, HB⟩ := hrel
    by_cases hqn : q < n
    case neg =>
      obtain rfl : n = q := by omega
      obtain ⟨⟨x0, z0⟩, FX⟩ := FINI.out wr u14 R' HB.out HO.out HT.out
      have FX2 := Lib.hid FX
      rw [TE.out]
      obtain ⟨oa, on, oc, ho⟩ := own_formsN HO.out.own
      rw [hvv.out] at x0
      subst ho
      clear FX
      go_wp2_with fail
      go_ret
      exact ⟨rfl, FX2.out⟩
    obtain ⟨w1, rfl⟩ : ∃ w1, w1 = wr := ⟨_, rfl⟩
    obtain ⟨tb, s, f, ra, l, rc, L, rfl, hnc, hlL, hl0, hl9, CEL, hk, hL, hlc, ROW, hrab, hLw⟩ := AT.out q hqn
    obtain ⟨x0, x1, x2⟩ := CEL w1 HB.out
    have c0 := C0.out w1 HB.out
    obtain ⟨t1, t2⟩ := TN.out q hqn
    rw [hk, hL] at t1 t2
    have RW := Lib.hid ROW
    have HL := Lib.hid hlL
    have HLW := Lib.hid hLw
    have HRA := Lib.hid hrab
    have X9 := TB.out q
    have zb := HB.out.size
    have RLEN := Lib.hid (show R'.length ≤ 1000000 from by
      have h1 : R'.length = (tk ((tab R).take q) (k1, k2) a b).length := by rw [← HT.out, tab_len]
      rw [h1]
      unfold Ua.tk
      refine Nat.le_trans (List.length_filter_le _ _) ?_
      rw [List.length_map, List.length_take]; omega)
    clear CEL hk hL ROW AT C0 TN TB TE FINI hLw hrab hlL
    go_upto_region 7 with (fail)
    obtain ⟨wb, hwb⟩ : ∃ wb, wb = w1.alloc (.cells #[.string s, .string f, .slice (some ⟨ra, 0, none⟩) l rc] 54) := ⟨_, rfl⟩
    rw [← hwb]
    have hb := heap_alloc_new w1 (.cells #[.string s, .string f, .slice (some ⟨ra, 0, none⟩) l rc] 54)
    rw [← hwb] at hb
    have fz : wb.frozen? ⟨w1.heap.size, 2, none⟩ = false := frozen_of_row _ _ _ _ _ hb
    have FZ := Lib.hid (show ∀ y : World, y.heap[w1.heap.size]? = wb.heap[w1.heap.size]? → (y.cell? ⟨w1.heap.size, 0, none⟩ = some (.string s) ∧ y.cell? ⟨w1.heap.size, 1, none⟩ = some (.string f) ∧ y.cell? ⟨w1.heap.size, 2, none⟩ = some (.slice (some ⟨ra, 0, none⟩) l rc)) ∧ y.frozen? ⟨w1.heap.size, 2, none⟩ = false from fun y hy => by
      have hb' := hy.trans hb
      exact ⟨⟨cell_at hb' 0, cell_at hb' 1, cell_at hb' 2⟩, (World.frozen?_of_block hy).trans fz⟩)
    have BW := Lib.hid (show Below w1.heap.size w1 wb from by rw [hwb]; exact (Below.refl _ w1).alloc (Nat.le_refl _) _)
    have SZ := Lib.hid (show wb.heap.size = w1.heap.size + 1 by rw [hwb]; simp)
    obtain ⟨⟨y0, y1, y2⟩, _⟩ := FZ.out wb rfl
    clear hb hwb x0 x1 x2 c0 fz
    by_cases hm : (s, f) = (k1, k2)
    case neg =>
      -- another column: it stays
      rw [show cn (k1, k2) a b ((s, f), L) = 0 by unfold cn; rw [if_neg hm]] at t1
      rw [show cf (k1, k2) a b ((s, f), L) = ((s, f), L) by unfold cf; rw [if_neg hm], if_neg (show L ≠ [] from fun e => by have := HL.out; rw [e] at this; simp at this; omega)] at t2
      have T1 := Lib.hid t1
      have T2 := Lib.hid t2
      have OUTY := Lib.hid (HO.out.below BW.out)
      have BY := Lib.hid (HB.out.trans (BW.out.mono zb))
      have ROWY := Lib.hid (show wb.ownsRow 0 32 4 (.slice (some ⟨ra, 0, none⟩) l rc) L.length (pcs L) ∧ (∀ j, (Value.slice (some ⟨ra, 0, none⟩) l rc).ownBlock = some j → (S j ∨ w.heap.size ≤ j) ∧ j ≠ h) ∧ ∀ x ∈ L, Wp x from ⟨by rw [← HL.out]; exact (RW.out wb BY.out).1, fun j hj => by cases hj; exact HRA.out, HLW.out⟩)
      have q2 : Hid ((s.toList == k1.toList) = false ∨ (s = k1 ∧ (f.toList == k2.toList) = false)) := Lib.hid (by
        by_cases e : s = k1
        · exact .inr ⟨e, toList_ne fun e2 => hm (by rw [e, e2])⟩
        · exact .inl (toList_ne e))
      clear t1 t2 hm RW
      rcases q2.out with q3 | ⟨rfl, q4⟩
      case inl =>
        clear q2
        go_upto_region 17 with (fail)
        have OO := Lib.hid (OUTY.out)
        have hlen : R'.length ≤ 1000000 := RLEN.out
        obtain ⟨v3, w5, hr3, o3, g3⟩ := app54 (wb.alloc (.cells #[.string s, .string f, .slice (some ⟨ra, 0, none⟩) l rc] 54)) w.heap.size u14 R'.length (ccl R') (OO.out.own.alloc _) (.slice (some ⟨wb.heap.size, 0, none⟩) 1 1) 1 [.string s, .string f, .slice (some ⟨ra, 0, none⟩) l rc] (.inr ⟨_, _, rfl, rfl, fun i v hi => by
          have hb := heap_alloc_new wb (.cells #[.string s, .string f, .slice (some ⟨ra, 0, none⟩) l rc] 54)
          match i, hi with
          | 0, hi => cases hi; simp [Addr.add, cell_at hb 0]
          | 1, hi => cases hi; simp [Addr.add, cell_at hb 1]
          | 2, hi => cases hi; simp [Addr.add, cell_at hb 2], by simp [Value.oneCell']⟩) (by have := BY.out.size; simp; omega) (by omega) 37
        have NXT := Lib.hid (show Out w5 S w.heap.size h v3 (R' ++ [((s, f), L, .slice (some ⟨ra, 0, none⟩) l rc)]) ∧ Below w.heap.size w w5 from by
          have og := OO.out.below ((Below.refl _ wb).alloc (Nat.le_refl _) (.cells #[.string s, .string f, .slice (some ⟨ra, 0, none⟩) l rc] 54))
          refine ⟨Out.snoc og (s, f) L _ (ROWY.out.1.alloc _) ROWY.out.2.1 ROWY.out.2.2 o3 g3, (BY.out.alloc BY.out.size _).grown g3 (by have := BY.out.size; simp; omega) (fun j ej => (own_lt OO.out.own ej).1)⟩)
        clear o3 g3
        go_wp2_with (at_builtin; refine Lib.wpList_append_run _ rfl _ _ _ _ rfl _ _ rfl rfl _ _ hr3 ?_)
        go_roundw
        case rel => exact ⟨q + 1, _, by omega, by go_num, by rw [T1.out]; rfl, Lib.hid NXT.out.1, Lib.hid (show tab (R' ++ [((s, f), L, .slice (some ⟨ra, 0, none⟩) l rc)]) = _ from by rw [T2.out, ← HT.out]; unfold tab; rw [List.map_append]; rfl), Lib.hid NXT.out.2⟩
        case measure => simp [intOf]; omega
      case inr =>
        clear q2
        have q3 : (s.toList == s.toList) = true := by simp
        go_upto_region 17 with (fail)
        have OO := Lib.hid (OUTY.out)
        have hlen : R'.length ≤ 1000000 := RLEN.out
        obtain ⟨v3, w5, hr3, o3, g3⟩ := app54 (wb.alloc (.cells #[.string s, .string f, .slice (some ⟨ra, 0, none⟩) l rc] 54)) w.heap.size u14 R'.length (ccl R') (OO.out.own.alloc _) (.slice (some ⟨wb.heap.size, 0, none⟩) 1 1) 1 [.string s, .string f, .slice (some ⟨ra, 0, none⟩) l rc] (.inr ⟨_, _, rfl, rfl, fun i v hi => by
          have hb := heap_alloc_new wb (.cells #[.string s, .string f, .slice (some ⟨ra, 0, none⟩) l rc] 54)
          match i, hi with
          | 0, hi => cases hi; simp [Addr.add, cell_at hb 0]
          | 1, hi => cases hi; simp [Addr.add, cell_at hb 1]
          | 2, hi => cases hi; simp [Addr.add, cell_at hb 2], by simp [Value.oneCell']⟩) (by have := BY.out.size; simp; omega) (by omega) 37
        have NXT := Lib.hid (show Out w5 S w.heap.size h v3 (R' ++ [((s, f), L, .slice (some ⟨ra, 0, none⟩) l rc)]) ∧ Below w.heap.size w w5 from by
          have og := OO.out.below ((Below.refl _ wb).alloc (Nat.le_refl _) (.cells #[.string s, .string f, .slice (some ⟨ra, 0, none⟩) l rc] 54))
          refine ⟨Out.snoc og (s, f) L _ (ROWY.out.1.alloc _) ROWY.out.2.1 ROWY.out.2.2 o3 g3, (BY.out.alloc BY.out.size _).grown g3 (by have := BY.out.size; simp; omega) (fun j ej => (own_lt OO.out.own ej).1)⟩)
        clear o3 g3
        go_wp2_with (at_builtin; refine Lib.wpList_append_run _ rfl _ _ _ _ rfl _ _ rfl rfl _ _ hr3 ?_)
        go_roundw
        case rel => exact ⟨q + 1, _, by omega, by go_num, by rw [T1.out]; rfl, Lib.hid NXT.out.1, Lib.hid (show tab (R' ++ [((s, f), L, .slice (some ⟨ra, 0, none⟩) l rc)]) = _ from by rw [T2.out, ← HT.out]; unfold tab; rw [List.map_append]; rfl), Lib.hid NXT.out.2⟩
        case measure => simp [intOf]; omega
    case pos =>
      obtain ⟨rfl, rfl⟩ : s = k1 ∧ f = k2 := by simpa using hm
      rw [show cn (s, f) a b ((s, f), L) = (rng a b L).length by unfold cn; rw [if_pos rfl]] at t1
      rw [show cf (s, f) a b ((s, f), L) = ((s, f), cut a b L) by unfold cf; rw [if_pos rfl]] at t2
      have T1 := Lib.hid t1
      have T2 := Lib.hid t2
      have q3 : (s.toList == s.toList) = true := by simp
      have q4 : (f.toList == f.toList) = true := by simp
      have TKL := Lib.hid (show L.take l = L from by rw [HL.out]; exact List.take_length)
      have LE := Lib.hid (show ∀ j, j < l → j < L.length from fun j hj => by have := HL.out; omega)
      have BY := Lib.hid (HB.out.trans (BW.out.mono zb))
      have FZW := Lib.hid (show ∀ y, Below wb.heap.size wb y → (y.cell? ⟨w1.heap.size, 0, none⟩ = some (.string s) ∧ y.cell? ⟨w1.heap.size, 1, none⟩ = some (.string f) ∧ y.cell? ⟨w1.heap.size, 2, none⟩ = some (.slice (some ⟨ra, 0, none⟩) l rc)) ∧ y.frozen? ⟨w1.heap.size, 2, none⟩ = false from fun y hy => FZ.out y (hy.block _ (by have := SZ.out; omega)))
      have PTW := Lib.hid (show ∀ y j, Below wb.heap.size wb y → j < l → y.cell? ⟨ra, j * 4, none⟩ = some (.int .i64 (L.getD j p0).1) ∧ y.cell? ⟨ra, j * 4 + 1, none⟩ = some (.int .i64 (L.getD j p0).2.1) ∧ y.cell? ⟨ra, j * 4 + 2, none⟩ = some (.int .u64 ((L.getD j p0).2.2.1 : Nat)) ∧ y.cell? ⟨ra, j * 4 + 3, none⟩ = some (.string (str (L.getD j p0).2.2.2)) from fun y j hy hj => (RW.out y (BY.out.trans (hy.mono BY.out.size))).2 j hj)
      obtain ⟨X, hX⟩ : ∃ X, X = tn ((tab R).take q) (s, f) a b := ⟨_, rfl⟩
      rw [← hX] at T1 X9 ⊢
      clear t1 t2 hm RW hX FZ
      go_wp2_with fail
      clear y0 y1 y2
      go_loopw [13, 17, 50] (fun nn o ct wr => ∃ j, j ≤ l ∧ ct = .int .i64 (j : Nat) ∧ nn = .int .i64 (X + (rng a b (L.take j)).length : Nat) ∧ Hid (wr.ownsRow wb.heap.size 32 4 o (cut a b (L.take j)).length (pcs (cut a b (L.take j)))) ∧ Hid (Below wb.heap.size wb wr)) (fun _ _ ct _ => l - (intOf ct).toNat)
      case atStart => exact ⟨0, Nat.zero_le _, rfl, by simp [rng], Lib.hid (by simpa [cut, pcs] using World.ownsRow_nil _ _ _ _), Lib.hid (Below.refl _ _)⟩
      case round =>
        obtain ⟨j, hj, rfl, rfl, HO1, HB1⟩ := hrel
        obtain ⟨⟨y0, y1, y2⟩, yz⟩ := FZW.out wr HB1.out
        by_cases hjl : j < l
        case pos =>
          obtain ⟨p0', p1', p2', p3'⟩ := PTW.out wr j HB1.out hjl
          have RS := Lib.hid (rng_snoc a b L (LE.out j hjl))
          have CS := Lib.hid (cut_snoc a b L (LE.out j hjl))
          have RL := rng_len a b L j
          have CL := cut_len a b L j
          obtain ⟨y, hy⟩ : ∃ y, y = L.getD j p0 := ⟨_, rfl⟩
          rw [← hy] at p0' p1' p2' p3' RS CS
          clear hy
          obtain ⟨t, kd, u, x⟩ := y
          simp only at p0' p1' p2' p3'
          by_cases hta : a ≤ t
          case neg =>
            have qa : decide (t ≥ a) = false := decide_eq_false hta
            rw [show inr a b (t, kd, u, x) = false by unfold inr; simp [hta]] at RS CS
            have HC : ∀ i v, [Value.int .i64 t, .int .i64 kd, .int .u64 (u : Nat), .string (str x)][i]? = some v → (wr.alloc (.cells #[.int .i64 t, .int .i64 kd, .int .u64 (u : Nat), .string (str x)] 32)).cell? ((⟨wr.heap.size, 0, none⟩ : Addr).add i) = some v := fun i v hi => by
              have hb := heap_alloc_new wr (.cells #[.int .i64 t, .int .i64 kd, .int .u64 (u : Nat), .string (str x)] 32)
              match i, hi with
              | 0, hi => cases hi; simp [Addr.add, cell_at hb 0]
              | 1, hi => cases hi; simp [Addr.add, cell_at hb 1]
              | 2, hi => cases hi; simp [Addr.add, cell_at hb 2]
              | 3, hi => cases hi; simp [Addr.add, cell_at hb 3]
            have CS2 := Lib.hid (show (cut a b (L.take (j + 1))).length = (cut a b (L.take j)).length + 1 ∧ pcs (cut a b (L.take (j + 1))) = pcs (cut a b (L.take j)) ++ [.int .i64 t, .int .i64 kd, .int .u64 (u : Nat), .string (str x)] from by rw [CS.out, List.length_append, pcs_app]; exact ⟨rfl, rfl⟩)
            obtain ⟨v3, w5, hr3, o3, g3⟩ := app32 (wr.alloc (.cells #[.int .i64 t, .int .i64 kd, .int .u64 (u : Nat), .string (str x)] 32)) wb.heap.size u17 (cut a b (L.take j)).length (pcs (cut a b (L.take j))) (HO1.out.alloc _) (.slice (some ⟨wr.heap.size, 0, none⟩) 1 1) 1 [.int .i64 t, .int .i64 kd, .int .u64 (u : Nat), .string (str x)] (.inr ⟨_, _, rfl, rfl, HC, by simp [Value.oneCell']⟩) (by have := HB1.out.size; simp; omega) (by omega) 43
            have NX := Lib.hid (show w5.ownsRow wb.heap.size 32 4 v3 (cut a b (L.take (j + 1))).length (pcs (cut a b (L.take (j + 1)))) ∧ Below wb.heap.size wb w5 from ⟨by rw [CS2.out.1, CS2.out.2]; exact o3, (HB1.out.alloc HB1.out.size _).grown g3 (by have := HB1.out.size; simp; omega) (fun j ej => (own_lt HO1.out ej).1)⟩)
            clear o3 g3 HC CS CS2
            go_wp2_with (at_builtin; refine Lib.wpList_append_run _ rfl _ _ _ _ rfl _ _ rfl rfl _ _ hr3 ?_)
            go_roundw
            case rel => exact ⟨j + 1, by omega, by go_num, by rw [RS.out]; simp, Lib.hid NX.out.1, Lib.hid NX.out.2⟩
            case measure => simp [intOf]; omega
          case pos =>
            have qa : decide (t ≥ a) = true := decide_eq_true hta
            by_cases htb : t ≤ b
            case neg =>
              have qb : decide (t ≤ b) = false := decide_eq_false htb
              rw [show inr a b (t, kd, u, x) = false by unfold inr; simp [htb]] at RS CS
              have HC : ∀ i v, [Value.int .i64 t, .int .i64 kd, .int .u64 (u : Nat), .string (str x)][i]? = some v → (wr.alloc (.cells #[.int .i64 t, .int .i64 kd, .int .u64 (u : Nat), .string (str x)] 32)).cell? ((⟨wr.heap.size, 0, none⟩ : Addr).add i) = some v := fun i v hi => by
                have hb := heap_alloc_new wr (.cells #[.int .i64 t, .int .i64 kd, .int .u64 (u : Nat), .string (str x)] 32)
                match i, hi with
                | 0, hi => cases hi; simp [Addr.add, cell_at hb 0]
                | 1, hi => cases hi; simp [Addr.add, cell_at hb 1]
                | 2, hi => cases hi; simp [Addr.add, cell_at hb 2]
                | 3, hi => cases hi; simp [Addr.add, cell_at hb 3]
              have CS2 := Lib.hid (show (cut a b (L.take (j + 1))).length = (cut a b (L.take j)).length + 1 ∧ pcs (cut a b (L.take (j + 1))) = pcs (cut a b (L.take j)) ++ [.int .i64 t, .int .i64 kd, .int .u64 (u : Nat), .string (str x)] from by rw [CS.out, List.length_append, pcs_app]; exact ⟨rfl, rfl⟩)
              obtain ⟨v3, w5, hr3, o3, g3⟩ := app32 (wr.alloc (.cells #[.int .i64 t, .int .i64 kd, .int .u64 (u : Nat), .string (str x)] 32)) wb.heap.size u17 (cut a b (L.take j)).length (pcs (cut a b (L.take j))) (HO1.out.alloc _) (.slice (some ⟨wr.heap.size, 0, none⟩) 1 1) 1 [.int .i64 t, .int .i64 kd, .int .u64 (u : Nat), .string (str x)] (.inr ⟨_, _, rfl, rfl, HC, by simp [Value.oneCell']⟩) (by have := HB1.out.size; simp; omega) (by omega) 43
              have NX := Lib.hid (show w5.ownsRow wb.heap.size 32 4 v3 (cut a b (L.take (j + 1))).length (pcs (cut a b (L.take (j + 1)))) ∧ Below wb.heap.size wb w5 from ⟨by rw [CS2.out.1, CS2.out.2]; exact o3, (HB1.out.alloc HB1.out.size _).grown g3 (by have := HB1.out.size; simp; omega) (fun j ej => (own_lt HO1.out ej).1)⟩)
              clear o3 g3 HC CS CS2
              go_wp2_with (at_builtin; refine Lib.wpList_append_run _ rfl _ _ _ _ rfl _ _ rfl rfl _ _ hr3 ?_)
              go_roundw
              case rel => exact ⟨j + 1, by omega, by go_num, by rw [RS.out]; simp, Lib.hid NX.out.1, Lib.hid NX.out.2⟩
              case measure => simp [intOf]; omega
            case pos =>
              have qb : decide (t ≤ b) = true := decide_eq_true htb
              rw [show inr a b (t, kd, u, x) = true by unfold inr; simp [hta, htb], if_pos rfl] at RS CS
              rw [List.append_nil] at CS
              have RS2 := Lib.hid (show (rng a b (L.take (j + 1))).length = (rng a b (L.take j)).length + 1 from by rw [RS.out, List.length_append]; rfl)
              obtain ⟨z, hz⟩ : ∃ z, z = (rng a b (L.take j)).length := ⟨_, rfl⟩
              rw [← hz] at RS2 RL ⊢
              clear hz RS
              go_wp2_with fail
              go_roundw
              case rel => exact ⟨j + 1, by omega, by go_num, by rw [RS2.out]; go_num, Lib.hid (by rw [CS.out]; exact HO1.out), HB1⟩
              case measure => simp [intOf]; omega
        case neg =>
          obtain rfl : l = j := by omega
          rw [TKL.out] at HO1 ⊢
          have CE : (cut a b L).length ≤ 1000000 := by
            have := cut_len a b L l
            rw [TKL.out] at this; omega
          obtain ⟨la, lc, hla⟩ := own_forms HO1.out
          subst hla
          obtain ⟨Z, hZ⟩ : ∃ Z, Z = (cut a b L).length := ⟨_, rfl⟩
          rw [← hZ] at HO1 CE ⊢
          have HZ := Lib.hid hZ
          clear hZ
          go_upto_region 17 with (fail)
          obtain ⟨wd, hwd⟩ : ∃ wd, wd = wr.setCell ⟨w1.heap.size, 2, none⟩ (.slice la Z lc) := ⟨_, rfl⟩
          rw [← hwd]
          have d0 : wd.cell? ⟨w1.heap.size, 0, none⟩ = some (.string s) := by rw [hwd]; exact (cell_other (by simp)).trans y0
          have d1 : wd.cell? ⟨w1.heap.size, 1, none⟩ = some (.string f) := by rw [hwd]; exact (cell_other (by simp)).trans y1
          have d2 : wd.cell? ⟨w1.heap.size, 2, none⟩ = some (.slice la Z lc) := by rw [hwd]; exact cell_same y2
          have B1 : Below w1.heap.size w1 wd := by
            rw [hwd]
            exact (BW.out.trans (HB1.out.mono (by have := SZ.out; omega))).setCell (Nat.le_refl _) _
          have OUTY := Lib.hid (HO.out.below B1)
          have BY := Lib.hid (HB.out.trans (B1.mono zb))
          have ROWY := Lib.hid (show wd.ownsRow 0 32 4 (.slice la Z lc) (cut a b L).length (pcs (cut a b L)) ∧ (∀ j, (Value.slice la Z lc).ownBlock = some j → (S j ∨ w.heap.size ≤ j) ∧ j ≠ h) ∧ ∀ x ∈ cut a b L, Wp x from by
            have o := HO1.out
            refine ⟨?_, fun j hj => ?_, fun x hx => HLW.out x (List.mem_filter.1 hx).1⟩
            · rw [hwd, ← HZ.out]
              exact own_base (own_of_block o fun j hj => heap_set_other _ _ _ _ _ fun e => by have := (own_lt o hj).1; have := SZ.out; omega) (Nat.zero_le _)
            · have h1 := (own_lt o hj).1
              have h2 := SZ.out
              have h3 := HH0.out
              exact ⟨.inr (by omega), by omega⟩)
          clear hwd B1 y0 y1 y2 yz HO1 HB1
          by_cases hZ0 : Z = 0
          case pos =>
            have hce : cut a b L = [] := List.length_eq_zero_iff.1 (by rw [← HZ.out]; exact hZ0)
            rw [hce, if_pos rfl, List.append_nil] at T2
            subst hZ0
            clear hce
            go_wp2_with fail
            go_roundw
            case rel => exact ⟨q + 1, R', by omega, by go_num, by rw [T1.out], OUTY, Lib.hid (HT.out.trans T2.out.symm), BY⟩
            case measure => simp [intOf]; omega
          case neg =>
            have hce : cut a b L ≠ [] := fun e => hZ0 (by rw [HZ.out, e]; rfl)
            rw [if_neg hce] at T2
            have hZ1 : 0 < Z := by omega
            clear hce hZ0
            have OO := Lib.hid (OUTY.out)
            have hlen : R'.length ≤ 1000000 := RLEN.out
            obtain ⟨v3, w5, hr3, o3, g3⟩ := app54 (wd.alloc (.cells #[.string s, .string f, .slice la Z lc] 54)) w.heap.size u14 R'.length (ccl R') (OO.out.own.alloc _) (.slice (some ⟨wd.heap.size, 0, none⟩) 1 1) 1 [.string s, .string f, .slice la Z lc] (.inr ⟨_, _, rfl, rfl, fun i v hi => by
              have hb := heap_alloc_new wd (.cells #[.string s, .string f, .slice la Z lc] 54)
              match i, hi with
              | 0, hi => cases hi; simp [Addr.add, cell_at hb 0]
              | 1, hi => cases hi; simp [Addr.add, cell_at hb 1]
              | 2, hi => cases hi; simp [Addr.add, cell_at hb 2], by simp [Value.oneCell']⟩) (by have := BY.out.size; simp; omega) (by omega) 37
            have NXT := Lib.hid (show Out w5 S w.heap.size h v3 (R' ++ [((s, f), (cut a b L), .slice la Z lc)]) ∧ Below w.heap.size w w5 from by
              have og := OO.out.below ((Below.refl _ wd).alloc (Nat.le_refl _) (.cells #[.string s, .string f, .slice la Z lc] 54))
              refine ⟨Out.snoc og (s, f) (cut a b L) _ (ROWY.out.1.alloc _) ROWY.out.2.1 ROWY.out.2.2 o3 g3, (BY.out.alloc BY.out.size _).grown g3 (by have := BY.out.size; simp; omega) (fun j ej => (own_lt OO.out.own ej).1)⟩)
            clear o3 g3
            go_wp2_with (at_builtin; refine Lib.wpList_append_run _ rfl _ _ _ _ rfl _ _ rfl rfl _ _ hr3 ?_)
            go_roundw
            case rel => exact ⟨q + 1, _, by omega, by go_num, by rw [T1.out]; simp, Lib.hid NXT.out.1, Lib.hid (show tab (R' ++ [((s, f), cut a b L, .slice la Z lc)]) = _ from by rw [T2.out, ← HT.out]; unfold tab; rw [List.map_append]; rfl), Lib.hid NXT.out.2⟩
            case measure => simp [intOf]; omega
end Uh
end Go.Proofs.Ytloiclmngmnbdaa
