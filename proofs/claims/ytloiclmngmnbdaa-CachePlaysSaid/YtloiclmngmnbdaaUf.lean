/- The document's table: Lay, where the column is there. The document's table: Lay, where the column is not there. -/
import Derived.Test.YtloiclmngmnbdaaUa
import Derived.Deep.DeepCutAuto
namespace Go.Proofs.Ytloiclmngmnbdaa
open Go.RowKit Go.Maps Go.ChangeMaps Go.MapKept
namespace Uf
open Jb Ca Ck Ct Cd Cz Ce Tb Ua Ub Uc Ud Ue Li

theorem own_formsN {w : World} {B t k n : Nat} {v : Value} {xs : List Value} (h : w.ownsRow B t k v n xs) : ∃ a m c, v = .slice a m c := by
  obtain ⟨a, c, rfl⟩ := own_forms h
  exact ⟨_, _, _, rfl⟩
set_option maxRecDepth 100000
set_option maxHeartbeats 4000000 in
theorem lay40_old (w : World) (S : Nat → Prop) (h m : Nat) (v : Value) (R : List Col) (H : Rt w S h m v R) (k : Ky) (p : Pnt) (hp : Wp p) (hn : R.length ≤ 1000000) (hf : fnd (tab R) k = true) (hr : Rise (tget (tab R) k)) (hne : tget (tab R) k ≠ []) (hl : (tget (tab R) k).length ≤ 1000000) :
    Calls Try.prog 40 #[.pointer (some ⟨h, 0, none⟩), .string k.1, .string k.2, pa p] w fun e w' => (∃ x : Bool, e = .returned (.bool x)) ∧ ∃ R', tab R' = (tab R).set (pos (tab R) k) (k, ins p (tget (tab R) k)) ∧ Rt w' (New S w w') h m v R' ∧ Chg w w' S := by
  have hp' : pos (tab R) k < R.length ∧ ((tab R).getD (pos (tab R) k) c0).1 = k := by
    unfold fnd at hf
    simp only [Bool.and_eq_true, decide_eq_true_eq] at hf
    rw [tab_len] at hf
    exact hf
  have hg := tget_old hf
  have hk := hp'.2
  have hpp := hp'.1
  rw [tab_get] at hg hk
  simp only at hg hk
  have AT := Lib.hid (fun w S v H => at27 w S h m v R H k hn)
  rw [hf] at AT
  obtain ⟨i, hii⟩ : ∃ i, i = pos (tab R) k := ⟨_, rfl⟩
  rw [← hii] at hpp hg hk AT ⊢
  rw [hg] at hl hr hne ⊢
  obtain ⟨tb, tc, hv, hRc, hSb, htb, t0, t1, t2⟩ := H.tm.at hpp
  have ho := (H.tm.rows _ (getD_in hpp)).1
  have hob := (H.tm.rows _ (getD_in hpp)).2
  obtain ⟨n, hN⟩ : ∃ n, n = R.length := ⟨_, rfl⟩
  have hc0 := H.c0
  rw [hv, ← hN] at hc0
  obtain ⟨L, hL⟩ : ∃ L, L = (R.getD i cz).2.1 := ⟨_, rfl⟩
  obtain ⟨rv, hrv⟩ : ∃ rv, rv = (R.getD i cz).2.2 := ⟨_, rfl⟩
  rw [← hL, ← hrv] at ho
  rw [← hrv] at t2 hob
  have hLw : ∀ x ∈ L, Wp x := by rw [hL]; exact H.wp _ (getD_in hpp)
  rw [← hL] at hl hr hne ⊢
  have hl0 : 0 < L.length := List.length_pos_iff.2 hne
  obtain ⟨rb, rc, hra⟩ := Go.Joins.ownsRow_form ho hl0
  rw [hra] at t2 ho hob
  have hrc : L.length ≤ rc := by
    rcases ho.2 with ⟨e, _⟩ | ⟨_, _, _, e, _, _, hc, _⟩
    · cases e
    · cases e; exact hc
  have hrb : rb < w.heap.size := (own_lt ho rfl).2
  have hhb : h < w.heap.size := H.lt h H.sh
  -- what is stored at the end
  have INS := Lib.hid (ins_eq hr p)
  have INW := Lib.hid (show ∀ x ∈ ins p L, Wp x from fun x hx => (ins_mem hx).elim (fun e => e ▸ hp) (hLw x))
  have FIN := Lib.hid (show ∀ w4 v3, Below (w.heap.size) w w4 → w4.ownsRow (w.heap.size + 1) 32 4 v3 (ins p L).length (pcs (ins p L)) → ∃ R', tab R' = (tab R).set i (k, ins p L) ∧ Rt (w4.setCell ⟨tb, i * 3 + 2, none⟩ v3) (New S w (w4.setCell ⟨tb, i * 3 + 2, none⟩ v3)) h m v R' ∧ Chg w (w4.setCell ⟨tb, i * 3 + 2, none⟩ v3) S from fun w4 v3 b o => by
    have b2 := b.size
    refine ⟨R.set i ((R.getD i cz).1, ins p L, v3), by rw [tab_set, hk], ?_, ?_⟩
    · have H4 := H.below b (Nat.le_refl _)
      rw [hv] at H4 ⊢
      exact Rt.store H4 rfl hpp (ins p L) INW.out v3 (own_base o (Nat.zero_le _)) (fun j hj => ⟨.inr ⟨by have := (own_lt o hj).1; omega, by simpa using (own_lt o hj).2⟩, by have := (own_lt o hj).1; omega⟩) (fun j hj => .inl hj) (fun j hj => by
        rcases hj with hj | hj
        · have := H.lt j hj; omega
        · simpa using hj.2)
    · exact (Chg.of_below b (Nat.le_refl _) S).setCell hSb _)
  have TBH := Lib.hid (show (∀ y, Below w.heap.size w y → Rt y S h m v R) from fun y hy => H.below hy (Nat.le_refl _))
  have HR := Lib.hid hr
  have ROW := Lib.hid (show ∀ y, Below w.heap.size w y → y.ownsRow 0 32 4 (.slice (some ⟨rb, 0, none⟩) L.length rc) L.length (pcs L) from fun y hy => own_of_block ho fun j hj => hy.block j (by cases hj; exact hrb))
  have CEL := Lib.hid (show ∀ y, Below w.heap.size w y → y.cell? ⟨h, 0, none⟩ = some (.slice (some ⟨tb, 0, none⟩) n tc) ∧ y.cell? ⟨tb, i * 3 + 2, none⟩ = some (.slice (some ⟨rb, 0, none⟩) L.length rc) from fun y hy => ⟨(World.cell?_of_block (hy.block h hhb)).trans hc0, (World.cell?_of_block (hy.block tb htb)).trans t2⟩)
  have FRO := Lib.hid (show ∀ y, Below w.heap.size w y → y.frozen? ⟨tb, i * 3 + 2, none⟩ = false from fun y hy => by
    have o := H.tm.own
    rw [hv] at o
    exact (World.frozen?_of_block (hy.block tb htb)).trans (o.frozenAt _))
  have hin : i < n := by omega
  have hnc : n ≤ tc := by omega
  have CN := Lib.hid (show ∀ q, q ≤ L.length → (∀ j, j < q → (L.getD j p0).1 < p.1) → (q < L.length → p.1 ≤ (L.getD q p0).1) → ins p L = L.take q ++ p :: L.drop (if q < L.length ∧ (L.getD q p0).1 = p.1 then q + 1 else q) from fun q hq h1 h2 => by
    have e := cnt_of hr hq h1 (fun j hj hjl => by
      by_cases e : q = j
      · subst e; exact h2 hjl
      · have := rise_get hr (show q < j by omega) hjl
        have := h2 (by omega)
        omega)
    have hi := has_iff hr p.1
    rw [e] at hi
    rw [ins_eq hr p, e]
    by_cases hc : q < L.length ∧ (L.getD q p0).1 = p.1
    · rw [if_pos hc, hi.2 hc]; rfl
    · have : Ct.has p.1 L = false := by
        cases h : Ct.has p.1 L
        · rfl
        · exact absurd (hi.1 h) hc
      rw [if_neg hc, this]; rfl)
  have HN := Lib.hid hN
  clear H hc0 t0 t1 t2 ho hob hra hrv hLw hv hRc hf hp' hg hk hne hr HR hN hL rv hpp hii
  obtain ⟨l, hll⟩ : ∃ l, l = L.length := ⟨_, rfl⟩
  rw [← hll] at hl hl0 hrc ROW CEL CN
  have HLL := Lib.hid hll
  have PAT := Lib.hid (show ∀ y j, Below w.heap.size w y → j < l → PAt y rb (j * 4) (L.getD j p0) from fun y j hy hj => by
    have o := ROW.out y hy
    rw [HLL.out] at o
    obtain ⟨rb', rc', e, _, _, h3⟩ := row_at o (i := j) (by rw [← HLL.out]; exact hj)
    cases e
    exact h3)
  clear hll
  obtain ⟨wa, hwa⟩ : ∃ wa, wa = w.alloc (.cells #[.int .i64 p.1, .int .i64 p.2.1, .int .u64 (p.2.2.1 : Nat), .string (str p.2.2.2)] 32) := ⟨_, rfl⟩
  have BA := Lib.hid (show Below w.heap.size w wa from by rw [hwa]; exact (Below.refl _ w).alloc (Nat.le_refl _) _)
  have SZA := Lib.hid (show wa.heap.size = w.heap.size + 1 by rw [hwa]; simp)
  have BXC := Lib.hid (show ∀ y, Below (w.heap.size + 1) wa y → y.cell? ⟨w.heap.size, 0, none⟩ = some (.int .i64 p.1) ∧ y.cell? ⟨w.heap.size, 1, none⟩ = some (.int .i64 p.2.1) ∧ y.cell? ⟨w.heap.size, 2, none⟩ = some (.int .u64 (p.2.2.1 : Nat)) ∧ y.cell? ⟨w.heap.size, 3, none⟩ = some (.string (str p.2.2.2)) from fun y hy => by
    have hb : y.heap[w.heap.size]? = some (.cells #[.int .i64 p.1, .int .i64 p.2.1, .int .u64 (p.2.2.1 : Nat), .string (str p.2.2.2)] 32) := by
      rw [hy.block w.heap.size (by omega), hwa]; exact heap_alloc_new w _
    exact ⟨cell_at hb 0, cell_at hb 1, cell_at hb 2, cell_at hb 3⟩)
  have A1 := Lib.hid (AT.out wa S v (TBH.out wa BA.out))
  clear AT TBH
  obtain ⟨t, kd, u, x⟩ := p
  unfold pa
  simp only at hwa BXC CN ⊢
  go_enter Try.func40, Try.ntmps40
  go_upto_region 1 with (fail)
  rw [← hwa]
  have HWA := Lib.hid hwa
  clear hwa
  go_wp2_with fail
  refine (A1.out).mono ?_
  rintro e w' ⟨rfl, dn, hw'⟩
  have BB := Lib.hid (show Below (w.heap.size + 1) wa w' from by rw [hw']; exact bdn (Below.refl _ _) _)
  obtain ⟨c1, c2⟩ := CEL.out w' (BA.out.trans (BB.out.mono (Nat.le_succ _)))
  obtain ⟨b0, b1, b2, b3⟩ := BXC.out w' BB.out
  clear hw' A1
  go_wp2_with fail
  go_loopw [13] (fun z wr => ∃ q, q ≤ l ∧ z = .int .i64 (q : Nat) ∧ (∀ j, j < q → (L.getD j p0).1 < t) ∧ ∃ dd, wr = w'.drewN dd) (fun z _ => l - (intOf z).toNat)
  case atStart => exact ⟨0, Nat.zero_le _, rfl, fun j hj => by omega, 0, rfl⟩
  case round =>
    obtain ⟨q, hq, rfl, hall, dd, rfl⟩ := hrel
    have HALL := Lib.hid hall
    clear hall
    have XT : q < l → w'.cell? ⟨rb, q * 4, none⟩ = some (.int .i64 (L.getD q p0).1) := fun h => (PAT.out w' q (BA.out.trans (BB.out.mono (Nat.le_succ _))) h).1
    obtain ⟨X, hX⟩ : ∃ X, X = (L.getD q p0).1 := ⟨_, rfl⟩
    rw [← hX] at XT
    by_cases hgo : q < l ∧ X < t
    case pos =>
      obtain ⟨hql, hlt⟩ := hgo
      have x0 := XT hql
      have NX := Lib.hid (show ∀ j, j < q + 1 → (L.getD j p0).1 < t from fun j hj => by
        by_cases e : j = q
        · subst e; rw [← hX]; exact hlt
        · exact HALL.out j (by omega))
      have qa : decide (X < t) = true := decide_eq_true hlt
      clear XT hX hlt
      go_wp2_with fail
      go_quiet (fail)
      go_wp2_with fail
      go_roundw
      case rel => exact ⟨q + 1, by omega, by go_num, NX.out, dd + nq, by first | rfl | rw [World.drewN_drewN]⟩
      case measure => simp [intOf]; omega
    have HI := Lib.hid (CN.out q hq HALL.out (fun h => by rw [← hX]; exact Int.not_lt.1 fun e => hgo ⟨h, e⟩))
    rw [← hX] at HI
    by_cases hql : q < l
    case neg =>
      obtain rfl : l = q := by omega
      rw [if_neg (fun h => hql h.1)] at HI
      clear XT hX hgo CN HALL PAT X
      go_wp2_with fail
      go_quiet (fail)
      go_upto_region 10 with (fail)
      obtain ⟨W, hW⟩ : ∃ W, W = (w'.drewN dd).drewN nq := ⟨_, rfl⟩
      first | rw [← hW] | (simp only [World.drewN_drewN] at hW ⊢; rw [← hW])
      have BW := Lib.hid (show Below (w.heap.size + 1) wa W from by rw [hW]; first | exact bdn (bdn BB.out _) _ | exact bdn BB.out _)
      have BWW := Lib.hid (BA.out.trans (BW.out.mono (Nat.le_succ _)))
      have SZW := Lib.hid (show w.heap.size + 1 ≤ W.heap.size from by have := BW.out.size; have := SZA.out; omega)
      clear hW c1 c2 b0 b1 b2 b3
      have d2 := Lib.cell?_alloc_some (.cells #[] 32) (CEL.out W BWW.out).2
      obtain ⟨v1, w2, hr1, o1, g1⟩ := app32 (W.alloc (.cells #[] 32)) (w.heap.size + 1) (.slice (some ⟨W.heap.size, 0, none⟩) 0 0) 0 [] (own_empty W 32 4 _ SZW.out) (.slice (some ⟨rb, 0, none⟩) l rc) l (pcs (L.take l)) (by
        have o := (ROW.out W BWW.out).alloc (.cells #[] 32)
        simpa using row_piece o 0 l (Nat.zero_le _) hq 0 rc (.inl (by simp))) (by have := SZW.out; simp; omega) (by omega) 43
      have O1 := Lib.hid o1
      have B2 := Lib.hid (show Below (w.heap.size + 1) wa w2 from (BW.out.alloc (by have := BW.out.size; have := SZA.out; omega) _).grown g1 (by have := SZW.out; simp; omega) (fun j ej => by have := SZW.out; have e : W.heap.size = j := (by simpa [Value.ownBlock] using ej); omega))
      have B22 := Lib.hid (BA.out.trans (B2.out.mono (Nat.le_succ _)))
      have SZ2 := Lib.hid (show w.heap.size + 1 ≤ w2.heap.size from by have := B2.out.size; have := SZA.out; omega)
      clear o1 g1
      have hqc : (l : Int) ≤ (rc : Int) := by omega
      have hrc0 : ¬ rc = 0 := by omega
      obtain ⟨v2, w3, hr2, o2, g2⟩ := app32 (w2.alloc (.cells #[.int .i64 t, .int .i64 kd, .int .u64 (u : Nat), .string (str x)] 32)) (w.heap.size + 1) v1 (0 + l) ([] ++ pcs (L.take l)) (O1.out.alloc _) (.slice (some ⟨w2.heap.size, 0, none⟩) 1 1) 1 [.int .i64 t, .int .i64 kd, .int .u64 (u : Nat), .string (str x)] (.inr ⟨_, _, rfl, rfl, fun i v hi => by
          have hb := heap_alloc_new w2 (.cells #[.int .i64 t, .int .i64 kd, .int .u64 (u : Nat), .string (str x)] 32)
          match i, hi with
          | 0, hi => cases hi; simp [Addr.add, cell_at hb 0]
          | 1, hi => cases hi; simp [Addr.add, cell_at hb 1]
          | 2, hi => cases hi; simp [Addr.add, cell_at hb 2]
          | 3, hi => cases hi; simp [Addr.add, cell_at hb 3], by simp [Value.oneCell']⟩) (by have := SZ2.out; simp; omega) (by omega) 43
      have O2 := Lib.hid o2
      have B3 := Lib.hid (show Below (w.heap.size + 1) wa w3 from (B2.out.alloc (by have := B2.out.size; have := SZA.out; omega) _).grown g2 (by have := SZ2.out; simp; omega) (fun j ej => (own_lt O1.out ej).1))
      have B33 := Lib.hid (BA.out.trans (B3.out.mono (Nat.le_succ _)))
      have SZ3 := Lib.hid (show w.heap.size + 1 ≤ w3.heap.size from by have := B3.out.size; have := SZA.out; omega)
      clear o2 g2
      obtain ⟨a0, a1, a2, a3⟩ := BXC.out w2 B2.out
      obtain ⟨e0, e1, e2, e3⟩ := BXC.out w3 B3.out
      obtain ⟨f1, f2⟩ := CEL.out w3 B33.out
      go_wp2_with (first | (at_builtin; refine Lib.wpList_append_run _ rfl _ _ _ _ rfl _ _ rfl rfl _ _ hr1 ?_) | (at_builtin; refine Lib.wpList_append_run _ rfl _ _ _ _ rfl _ _ rfl rfl _ _ hr2 ?_))
      go_quiet (fail)
      go_upto_region 15 with (fail)
      obtain ⟨W3, hW3⟩ : ∃ W3, W3 = w3.drewN nq := ⟨_, rfl⟩
      rw [← hW3]
      have BV := Lib.hid (show Below (w.heap.size + 1) wa W3 from by rw [hW3]; exact bdn B3.out _)
      have BVV := Lib.hid (BA.out.trans (BV.out.mono (Nat.le_succ _)))
      have OV := Lib.hid (show W3.ownsRow (w.heap.size + 1) 32 4 v2 (0 + l + 1) ([] ++ pcs (L.take l) ++ [.int .i64 t, .int .i64 kd, .int .u64 (u : Nat), .string (str x)]) from by rw [hW3]; exact O2.out)
      have SZV := Lib.hid (show w.heap.size + 1 ≤ W3.heap.size from by have := BV.out.size; have := SZA.out; omega)
      clear hW3 d2 a0 a1 a2 a3 e0 e1 e2 e3 f1 f2 hr1 hr2
      have g2 := (CEL.out W3 BVV.out).2
      have hlo : l ≤ l := by omega
      have END := Lib.hid (show ∀ v3 w4, w4.ownsRow (w.heap.size + 1) 32 4 v3 (0 + l + 1 + (l - (l))) (([] ++ pcs (L.take l) ++ [.int .i64 t, .int .i64 kd, .int .u64 (u : Nat), .string (str x)]) ++ pcs ((L.drop (l)).take (l - (l)))) → W3.grownBy w4 v2.ownBlock → (w4.cell? ⟨tb, i * 3 + 2, none⟩ = some (.slice (some ⟨rb, 0, none⟩) l rc) ∧ w4.frozen? ⟨tb, i * 3 + 2, none⟩ = false) ∧ ∃ R', tab R' = (tab R).set i (k, ins (t, kd, u, x) L) ∧ Rt (w4.setCell ⟨tb, i * 3 + 2, none⟩ v3) (New S w (w4.setCell ⟨tb, i * 3 + 2, none⟩ v3)) h m v R' ∧ Chg w (w4.setCell ⟨tb, i * 3 + 2, none⟩ v3) S from fun v3 w4 o g => by
        have B4 : Below (w.heap.size + 1) wa w4 := BV.out.grown g (by have := SZV.out; omega) (fun j ej => (own_lt OV.out ej).1)
        have B44 := BA.out.trans (B4.mono (Nat.le_succ _))
        refine ⟨⟨(CEL.out w4 B44).2, FRO.out w4 B44⟩, FIN.out w4 v3 B44 ?_⟩
        have e1 : (L.drop (l)).take (l - (l)) = L.drop (l) := List.take_of_length_le (by rw [List.length_drop, ← HLL.out]; omega)
        rw [e1] at o
        rw [HI.out]
        have e2 : (L.take l ++ (t, kd, u, x) :: L.drop (l)).length = 0 + l + 1 + (l - (l)) := by rw [List.length_append, List.length_take, List.length_cons, List.length_drop, ← HLL.out]; omega
        have e3 : pcs (L.take l ++ (t, kd, u, x) :: L.drop (l)) = ([] ++ pcs (L.take l) ++ [.int .i64 t, .int .i64 kd, .int .u64 (u : Nat), .string (str x)]) ++ pcs (L.drop (l)) := by rw [pcs_app]; simp [pcs, pc, vc]
        rw [e2, e3]
        exact o)
      have hlq : (l : Int) ≤ (l : Int) := by omega
      by_cases hcl : rc = l
      case pos =>
        have hll : l = l := by omega
        obtain ⟨v3, w4, hr3, o3, g3⟩ := app32 W3 (w.heap.size + 1) v2 (0 + l + 1) _ OV.out (.slice (some ⟨rb, 0, none⟩) (l - (l)) (rc - (l))) (l - (l)) (pcs ((L.drop (l)).take (l - (l)))) (row_piece (ROW.out W3 BVV.out) (l) l hlo (Nat.le_refl _) 0 _ (.inr hll.symm)) (by have := SZV.out; omega) (by omega) 43
        obtain ⟨va, vn, vc, rfl⟩ := own_formsN o3
        obtain ⟨⟨k2, z2⟩, FX⟩ := END.out _ w4 o3 g3
        have FX2 := Lib.hid FX
        clear FX o3 g3
        clear hll
        rw [hcl] at hr3
        simp only [Nat.sub_self] at hr3
        subst hcl
        go_wp2_with (at_builtin; refine Lib.wpList_append_run _ rfl _ _ _ _ rfl _ _ rfl rfl _ _ hr3 ?_)
        go_ret
        exact ⟨⟨_, rfl⟩, FX2.out⟩
      case neg =>
        have hcl2 : ¬ l = rc := fun e => hcl e.symm
        obtain ⟨v3, w4, hr3, o3, g3⟩ := app32 W3 (w.heap.size + 1) v2 (0 + l + 1) _ OV.out (.slice (some ⟨rb, (l) * 4, none⟩) (l - (l)) (rc - (l))) (l - (l)) (pcs ((L.drop (l)).take (l - (l)))) (row_piece (ROW.out W3 BVV.out) (l) l hlo (Nat.le_refl _) _ _ (.inl rfl)) (by have := SZV.out; omega) (by omega) 43
        obtain ⟨va, vn, vc, rfl⟩ := own_formsN o3
        obtain ⟨⟨k2, z2⟩, FX⟩ := END.out _ w4 o3 g3
        have FX2 := Lib.hid FX
        clear FX o3 g3
        simp only [Nat.sub_self] at hr3
        go_wp2_with (at_builtin; refine Lib.wpList_append_run _ rfl _ _ _ _ rfl _ _ rfl rfl _ _ hr3 ?_)
        go_ret
        exact ⟨⟨_, rfl⟩, FX2.out⟩
    have hXt : t ≤ X := Int.not_lt.1 fun e => hgo ⟨hql, e⟩
    have x0 := XT hql
    have qa : decide (X < t) = false := decide_eq_false (Int.not_lt.2 hXt)
    have HX := Lib.hid hX
    clear XT hX hgo CN HALL
    by_cases hxe : X = t
    case pos =>
      obtain rfl : t = X := hxe.symm
      rw [if_pos ⟨hql, rfl⟩] at HI
      clear hXt
      go_wp2_with fail
      go_quiet (fail)
      go_upto_region 10 with (fail)
      obtain ⟨W, hW⟩ : ∃ W, W = (w'.drewN dd).drewN nq := ⟨_, rfl⟩
      first | rw [← hW] | (simp only [World.drewN_drewN] at hW ⊢; rw [← hW])
      have BW := Lib.hid (show Below (w.heap.size + 1) wa W from by rw [hW]; first | exact bdn (bdn BB.out _) _ | exact bdn BB.out _)
      have BWW := Lib.hid (BA.out.trans (BW.out.mono (Nat.le_succ _)))
      have SZW := Lib.hid (show w.heap.size + 1 ≤ W.heap.size from by have := BW.out.size; have := SZA.out; omega)
      clear hW c1 c2 b0 b1 b2 b3
      have d2 := Lib.cell?_alloc_some (.cells #[] 32) (CEL.out W BWW.out).2
      obtain ⟨v1, w2, hr1, o1, g1⟩ := app32 (W.alloc (.cells #[] 32)) (w.heap.size + 1) (.slice (some ⟨W.heap.size, 0, none⟩) 0 0) 0 [] (own_empty W 32 4 _ SZW.out) (.slice (some ⟨rb, 0, none⟩) q rc) q (pcs (L.take q)) (by
        have o := (ROW.out W BWW.out).alloc (.cells #[] 32)
        simpa using row_piece o 0 q (Nat.zero_le _) hq 0 rc (.inl (by simp))) (by have := SZW.out; simp; omega) (by omega) 43
      have O1 := Lib.hid o1
      have B2 := Lib.hid (show Below (w.heap.size + 1) wa w2 from (BW.out.alloc (by have := BW.out.size; have := SZA.out; omega) _).grown g1 (by have := SZW.out; simp; omega) (fun j ej => by have := SZW.out; have e : W.heap.size = j := (by simpa [Value.ownBlock] using ej); omega))
      have B22 := Lib.hid (BA.out.trans (B2.out.mono (Nat.le_succ _)))
      have SZ2 := Lib.hid (show w.heap.size + 1 ≤ w2.heap.size from by have := B2.out.size; have := SZA.out; omega)
      clear o1 g1
      have hqc : (q : Int) ≤ (rc : Int) := by omega
      have hrc0 : ¬ rc = 0 := by omega
      obtain ⟨v2, w3, hr2, o2, g2⟩ := app32 (w2.alloc (.cells #[.int .i64 t, .int .i64 kd, .int .u64 (u : Nat), .string (str x)] 32)) (w.heap.size + 1) v1 (0 + q) ([] ++ pcs (L.take q)) (O1.out.alloc _) (.slice (some ⟨w2.heap.size, 0, none⟩) 1 1) 1 [.int .i64 t, .int .i64 kd, .int .u64 (u : Nat), .string (str x)] (.inr ⟨_, _, rfl, rfl, fun i v hi => by
          have hb := heap_alloc_new w2 (.cells #[.int .i64 t, .int .i64 kd, .int .u64 (u : Nat), .string (str x)] 32)
          match i, hi with
          | 0, hi => cases hi; simp [Addr.add, cell_at hb 0]
          | 1, hi => cases hi; simp [Addr.add, cell_at hb 1]
          | 2, hi => cases hi; simp [Addr.add, cell_at hb 2]
          | 3, hi => cases hi; simp [Addr.add, cell_at hb 3], by simp [Value.oneCell']⟩) (by have := SZ2.out; simp; omega) (by omega) 43
      have O2 := Lib.hid o2
      have B3 := Lib.hid (show Below (w.heap.size + 1) wa w3 from (B2.out.alloc (by have := B2.out.size; have := SZA.out; omega) _).grown g2 (by have := SZ2.out; simp; omega) (fun j ej => (own_lt O1.out ej).1))
      have B33 := Lib.hid (BA.out.trans (B3.out.mono (Nat.le_succ _)))
      have SZ3 := Lib.hid (show w.heap.size + 1 ≤ w3.heap.size from by have := B3.out.size; have := SZA.out; omega)
      clear o2 g2
      obtain ⟨a0, a1, a2, a3⟩ := BXC.out w2 B2.out
      obtain ⟨e0, e1, e2, e3⟩ := BXC.out w3 B3.out
      obtain ⟨f1, f2⟩ := CEL.out w3 B33.out
      have x3 := (PAT.out w3 q B33.out hql).1
      rw [← HX.out] at x3
      go_wp2_with (first | (at_builtin; refine Lib.wpList_append_run _ rfl _ _ _ _ rfl _ _ rfl rfl _ _ hr1 ?_) | (at_builtin; refine Lib.wpList_append_run _ rfl _ _ _ _ rfl _ _ rfl rfl _ _ hr2 ?_))
      go_quiet (fail)
      go_upto_region 13 with (fail)
      obtain ⟨W3, hW3⟩ : ∃ W3, W3 = w3.drewN nq := ⟨_, rfl⟩
      rw [← hW3]
      have BV := Lib.hid (show Below (w.heap.size + 1) wa W3 from by rw [hW3]; exact bdn B3.out _)
      have BVV := Lib.hid (BA.out.trans (BV.out.mono (Nat.le_succ _)))
      have OV := Lib.hid (show W3.ownsRow (w.heap.size + 1) 32 4 v2 (0 + q + 1) ([] ++ pcs (L.take q) ++ [.int .i64 t, .int .i64 kd, .int .u64 (u : Nat), .string (str x)]) from by rw [hW3]; exact O2.out)
      have SZV := Lib.hid (show w.heap.size + 1 ≤ W3.heap.size from by have := BV.out.size; have := SZA.out; omega)
      clear hW3 d2 a0 a1 a2 a3 e0 e1 e2 e3 f1 f2 hr1 hr2
      have g2 := (CEL.out W3 BVV.out).2
      have hlo : q + 1 ≤ l := by omega
      have END := Lib.hid (show ∀ v3 w4, w4.ownsRow (w.heap.size + 1) 32 4 v3 (0 + q + 1 + (l - (q + 1))) (([] ++ pcs (L.take q) ++ [.int .i64 t, .int .i64 kd, .int .u64 (u : Nat), .string (str x)]) ++ pcs ((L.drop (q + 1)).take (l - (q + 1)))) → W3.grownBy w4 v2.ownBlock → (w4.cell? ⟨tb, i * 3 + 2, none⟩ = some (.slice (some ⟨rb, 0, none⟩) l rc) ∧ w4.frozen? ⟨tb, i * 3 + 2, none⟩ = false) ∧ ∃ R', tab R' = (tab R).set i (k, ins (t, kd, u, x) L) ∧ Rt (w4.setCell ⟨tb, i * 3 + 2, none⟩ v3) (New S w (w4.setCell ⟨tb, i * 3 + 2, none⟩ v3)) h m v R' ∧ Chg w (w4.setCell ⟨tb, i * 3 + 2, none⟩ v3) S from fun v3 w4 o g => by
        have B4 : Below (w.heap.size + 1) wa w4 := BV.out.grown g (by have := SZV.out; omega) (fun j ej => (own_lt OV.out ej).1)
        have B44 := BA.out.trans (B4.mono (Nat.le_succ _))
        refine ⟨⟨(CEL.out w4 B44).2, FRO.out w4 B44⟩, FIN.out w4 v3 B44 ?_⟩
        have e1 : (L.drop (q + 1)).take (l - (q + 1)) = L.drop (q + 1) := List.take_of_length_le (by rw [List.length_drop, ← HLL.out]; omega)
        rw [e1] at o
        rw [HI.out]
        have e2 : (L.take q ++ (t, kd, u, x) :: L.drop (q + 1)).length = 0 + q + 1 + (l - (q + 1)) := by rw [List.length_append, List.length_take, List.length_cons, List.length_drop, ← HLL.out]; omega
        have e3 : pcs (L.take q ++ (t, kd, u, x) :: L.drop (q + 1)) = ([] ++ pcs (L.take q) ++ [.int .i64 t, .int .i64 kd, .int .u64 (u : Nat), .string (str x)]) ++ pcs (L.drop (q + 1)) := by rw [pcs_app]; simp [pcs, pc, vc]
        rw [e2, e3]
        exact o)
      have hlq : (q + 1 : Int) ≤ (l : Int) := by omega
      by_cases hcl : rc = q + 1
      case pos =>
        have hll : l = q + 1 := by omega
        obtain ⟨v3, w4, hr3, o3, g3⟩ := app32 W3 (w.heap.size + 1) v2 (0 + q + 1) _ OV.out (.slice (some ⟨rb, 0, none⟩) (l - (q + 1)) (rc - (q + 1))) (l - (q + 1)) (pcs ((L.drop (q + 1)).take (l - (q + 1)))) (row_piece (ROW.out W3 BVV.out) (q + 1) l hlo (Nat.le_refl _) 0 _ (.inr hll.symm)) (by have := SZV.out; omega) (by omega) 43
        obtain ⟨va, vn, vc, rfl⟩ := own_formsN o3
        obtain ⟨⟨k2, z2⟩, FX⟩ := END.out _ w4 o3 g3
        have FX2 := Lib.hid FX
        clear FX o3 g3
        rw [hcl, hll] at hr3
        simp only [Nat.sub_self] at hr3
        subst hcl
        subst hll
        go_wp2_with (at_builtin; refine Lib.wpList_append_run _ rfl _ _ _ _ rfl _ _ rfl rfl _ _ hr3 ?_)
        go_ret
        exact ⟨⟨_, rfl⟩, FX2.out⟩
      case neg =>
        have hcl2 : ¬ q + 1 = rc := fun e => hcl e.symm
        obtain ⟨v3, w4, hr3, o3, g3⟩ := app32 W3 (w.heap.size + 1) v2 (0 + q + 1) _ OV.out (.slice (some ⟨rb, (q + 1) * 4, none⟩) (l - (q + 1)) (rc - (q + 1))) (l - (q + 1)) (pcs ((L.drop (q + 1)).take (l - (q + 1)))) (row_piece (ROW.out W3 BVV.out) (q + 1) l hlo (Nat.le_refl _) _ _ (.inl rfl)) (by have := SZV.out; omega) (by omega) 43
        obtain ⟨va, vn, vc, rfl⟩ := own_formsN o3
        obtain ⟨⟨k2, z2⟩, FX⟩ := END.out _ w4 o3 g3
        have FX2 := Lib.hid FX
        clear FX o3 g3
        go_wp2_with (at_builtin; refine Lib.wpList_append_run _ rfl _ _ _ _ rfl _ _ rfl rfl _ _ hr3 ?_)
        go_ret
        exact ⟨⟨_, rfl⟩, FX2.out⟩
    case neg =>
      rw [if_neg (fun h => hxe h.2)] at HI
      have qb : (X == t) = false := by simpa using hxe
      clear hXt hxe
      go_wp2_with fail
      go_quiet (fail)
      go_upto_region 10 with (fail)
      obtain ⟨W, hW⟩ : ∃ W, W = (w'.drewN dd).drewN nq := ⟨_, rfl⟩
      first | rw [← hW] | (simp only [World.drewN_drewN] at hW ⊢; rw [← hW])
      have BW := Lib.hid (show Below (w.heap.size + 1) wa W from by rw [hW]; first | exact bdn (bdn BB.out _) _ | exact bdn BB.out _)
      have BWW := Lib.hid (BA.out.trans (BW.out.mono (Nat.le_succ _)))
      have SZW := Lib.hid (show w.heap.size + 1 ≤ W.heap.size from by have := BW.out.size; have := SZA.out; omega)
      clear hW c1 c2 b0 b1 b2 b3
      have d2 := Lib.cell?_alloc_some (.cells #[] 32) (CEL.out W BWW.out).2
      obtain ⟨v1, w2, hr1, o1, g1⟩ := app32 (W.alloc (.cells #[] 32)) (w.heap.size + 1) (.slice (some ⟨W.heap.size, 0, none⟩) 0 0) 0 [] (own_empty W 32 4 _ SZW.out) (.slice (some ⟨rb, 0, none⟩) q rc) q (pcs (L.take q)) (by
        have o := (ROW.out W BWW.out).alloc (.cells #[] 32)
        simpa using row_piece o 0 q (Nat.zero_le _) hq 0 rc (.inl (by simp))) (by have := SZW.out; simp; omega) (by omega) 43
      have O1 := Lib.hid o1
      have B2 := Lib.hid (show Below (w.heap.size + 1) wa w2 from (BW.out.alloc (by have := BW.out.size; have := SZA.out; omega) _).grown g1 (by have := SZW.out; simp; omega) (fun j ej => by have := SZW.out; have e : W.heap.size = j := (by simpa [Value.ownBlock] using ej); omega))
      have B22 := Lib.hid (BA.out.trans (B2.out.mono (Nat.le_succ _)))
      have SZ2 := Lib.hid (show w.heap.size + 1 ≤ w2.heap.size from by have := B2.out.size; have := SZA.out; omega)
      clear o1 g1
      have hqc : (q : Int) ≤ (rc : Int) := by omega
      have hrc0 : ¬ rc = 0 := by omega
      obtain ⟨v2, w3, hr2, o2, g2⟩ := app32 (w2.alloc (.cells #[.int .i64 t, .int .i64 kd, .int .u64 (u : Nat), .string (str x)] 32)) (w.heap.size + 1) v1 (0 + q) ([] ++ pcs (L.take q)) (O1.out.alloc _) (.slice (some ⟨w2.heap.size, 0, none⟩) 1 1) 1 [.int .i64 t, .int .i64 kd, .int .u64 (u : Nat), .string (str x)] (.inr ⟨_, _, rfl, rfl, fun i v hi => by
          have hb := heap_alloc_new w2 (.cells #[.int .i64 t, .int .i64 kd, .int .u64 (u : Nat), .string (str x)] 32)
          match i, hi with
          | 0, hi => cases hi; simp [Addr.add, cell_at hb 0]
          | 1, hi => cases hi; simp [Addr.add, cell_at hb 1]
          | 2, hi => cases hi; simp [Addr.add, cell_at hb 2]
          | 3, hi => cases hi; simp [Addr.add, cell_at hb 3], by simp [Value.oneCell']⟩) (by have := SZ2.out; simp; omega) (by omega) 43
      have O2 := Lib.hid o2
      have B3 := Lib.hid (show Below (w.heap.size + 1) wa w3 from (B2.out.alloc (by have := B2.out.size; have := SZA.out; omega) _).grown g2 (by have := SZ2.out; simp; omega) (fun j ej => (own_lt O1.out ej).1))
      have B33 := Lib.hid (BA.out.trans (B3.out.mono (Nat.le_succ _)))
      have SZ3 := Lib.hid (show w.heap.size + 1 ≤ w3.heap.size from by have := B3.out.size; have := SZA.out; omega)
      clear o2 g2
      obtain ⟨a0, a1, a2, a3⟩ := BXC.out w2 B2.out
      obtain ⟨e0, e1, e2, e3⟩ := BXC.out w3 B3.out
      obtain ⟨f1, f2⟩ := CEL.out w3 B33.out
      have x3 := (PAT.out w3 q B33.out hql).1
      rw [← HX.out] at x3
      go_wp2_with (first | (at_builtin; refine Lib.wpList_append_run _ rfl _ _ _ _ rfl _ _ rfl rfl _ _ hr1 ?_) | (at_builtin; refine Lib.wpList_append_run _ rfl _ _ _ _ rfl _ _ rfl rfl _ _ hr2 ?_))
      go_quiet (fail)
      go_upto_region 15 with (fail)
      obtain ⟨W3, hW3⟩ : ∃ W3, W3 = w3.drewN nq := ⟨_, rfl⟩
      rw [← hW3]
      have BV := Lib.hid (show Below (w.heap.size + 1) wa W3 from by rw [hW3]; exact bdn B3.out _)
      have BVV := Lib.hid (BA.out.trans (BV.out.mono (Nat.le_succ _)))
      have OV := Lib.hid (show W3.ownsRow (w.heap.size + 1) 32 4 v2 (0 + q + 1) ([] ++ pcs (L.take q) ++ [.int .i64 t, .int .i64 kd, .int .u64 (u : Nat), .string (str x)]) from by rw [hW3]; exact O2.out)
      have SZV := Lib.hid (show w.heap.size + 1 ≤ W3.heap.size from by have := BV.out.size; have := SZA.out; omega)
      clear hW3 d2 a0 a1 a2 a3 e0 e1 e2 e3 f1 f2 hr1 hr2
      have g2 := (CEL.out W3 BVV.out).2
      have hlo : q ≤ l := by omega
      have END := Lib.hid (show ∀ v3 w4, w4.ownsRow (w.heap.size + 1) 32 4 v3 (0 + q + 1 + (l - (q))) (([] ++ pcs (L.take q) ++ [.int .i64 t, .int .i64 kd, .int .u64 (u : Nat), .string (str x)]) ++ pcs ((L.drop (q)).take (l - (q)))) → W3.grownBy w4 v2.ownBlock → (w4.cell? ⟨tb, i * 3 + 2, none⟩ = some (.slice (some ⟨rb, 0, none⟩) l rc) ∧ w4.frozen? ⟨tb, i * 3 + 2, none⟩ = false) ∧ ∃ R', tab R' = (tab R).set i (k, ins (t, kd, u, x) L) ∧ Rt (w4.setCell ⟨tb, i * 3 + 2, none⟩ v3) (New S w (w4.setCell ⟨tb, i * 3 + 2, none⟩ v3)) h m v R' ∧ Chg w (w4.setCell ⟨tb, i * 3 + 2, none⟩ v3) S from fun v3 w4 o g => by
        have B4 : Below (w.heap.size + 1) wa w4 := BV.out.grown g (by have := SZV.out; omega) (fun j ej => (own_lt OV.out ej).1)
        have B44 := BA.out.trans (B4.mono (Nat.le_succ _))
        refine ⟨⟨(CEL.out w4 B44).2, FRO.out w4 B44⟩, FIN.out w4 v3 B44 ?_⟩
        have e1 : (L.drop (q)).take (l - (q)) = L.drop (q) := List.take_of_length_le (by rw [List.length_drop, ← HLL.out]; omega)
        rw [e1] at o
        rw [HI.out]
        have e2 : (L.take q ++ (t, kd, u, x) :: L.drop (q)).length = 0 + q + 1 + (l - (q)) := by rw [List.length_append, List.length_take, List.length_cons, List.length_drop, ← HLL.out]; omega
        have e3 : pcs (L.take q ++ (t, kd, u, x) :: L.drop (q)) = ([] ++ pcs (L.take q) ++ [.int .i64 t, .int .i64 kd, .int .u64 (u : Nat), .string (str x)]) ++ pcs (L.drop (q)) := by rw [pcs_app]; simp [pcs, pc, vc]
        rw [e2, e3]
        exact o)
      have hlq : (q : Int) ≤ (l : Int) := by omega
      by_cases hcl : rc = q
      case pos => exact absurd hcl (by omega)
      case neg =>
        have hcl2 : ¬ q = rc := fun e => hcl e.symm
        obtain ⟨v3, w4, hr3, o3, g3⟩ := app32 W3 (w.heap.size + 1) v2 (0 + q + 1) _ OV.out (.slice (some ⟨rb, (q) * 4, none⟩) (l - (q)) (rc - (q))) (l - (q)) (pcs ((L.drop (q)).take (l - (q)))) (row_piece (ROW.out W3 BVV.out) (q) l hlo (Nat.le_refl _) _ _ (.inl rfl)) (by have := SZV.out; omega) (by omega) 43
        obtain ⟨va, vn, vc, rfl⟩ := own_formsN o3
        obtain ⟨⟨k2, z2⟩, FX⟩ := END.out _ w4 o3 g3
        have FX2 := Lib.hid FX
        clear FX o3 g3
        go_wp2_with (at_builtin; refine Lib.wpList_append_run _ rfl _ _ _ _ rfl _ _ rfl rfl _ _ hr3 ?_)
        go_ret
        exact ⟨⟨_, rfl⟩, FX2.out⟩
end Uf
end Go.Proofs.Ytloiclmngmnbdaa

namespace Go.Proofs.Ytloiclmngmnbdaa
open Go.RowKit Go.Maps Go.ChangeMaps Go.MapKept
namespace Ug
open Jb Ca Ck Ct Cd Cz Ce Tb Ua Ub Uc Ud Ue Uf Li

/-- The columns with one more. -/
def R1 (R : List Col) (i : Nat) (k : Ky) : List Col := R.take i ++ (k, [], Value.slice none 0 0) :: R.drop i
theorem R1_len {R : List Col} {i : Nat} (hi : i ≤ R.length) (k : Ky) : (R1 R i k).length = R.length + 1 := by
  unfold R1; rw [List.length_append, List.length_take, List.length_cons, List.length_drop]; omega
theorem R1_get {R : List Col} {i : Nat} (hi : i ≤ R.length) (k : Ky) : (R1 R i k).getD i cz = (k, [], Value.slice none 0 0) := by
  unfold R1
  rw [List.getD_eq_getElem?_getD, List.getElem?_append_right (by rw [List.length_take]; omega), List.length_take, Nat.min_eq_left hi, Nat.sub_self]
  rfl
theorem R1_mem {R : List Col} {i : Nat} {k : Ky} {c : Col} (h : c ∈ R1 R i k) : c ∈ R ∨ c = (k, [], Value.slice none 0 0) := by
  unfold R1 at h
  rcases List.mem_append.1 h with h | h
  · exact .inl (List.mem_of_mem_take h)
  · rcases List.mem_cons.1 h with h | h
    · exact .inr h
    · exact .inl (List.mem_of_mem_drop h)
theorem R1_tab {R : List Col} {i : Nat} (hi : i ≤ R.length) (k : Ky) (L : List Pnt) (r : Value) : tab ((R1 R i k).set i (k, L, r)) = (tab R).take i ++ (k, L) :: (tab R).drop i := by
  unfold R1 tab
  rw [List.set_append_right _ _ (by rw [List.length_take]; omega), List.length_take, Nat.min_eq_left hi, Nat.sub_self]
  simp [List.map_take, List.map_drop]
theorem Rt.insert {w w4 : World} {S : Nat → Prop} {h m i : Nat} {v v3 : Value} {R : List Col} (H : Rt w S h m v R) (k : Ky) (b : Below w.heap.size w w4) (o : w4.ownsRow w.heap.size 54 3 v3 (R1 R i k).length (ccl (R1 R i k))) :
    Rt (w4.setCell ⟨h, 0, none⟩ v3) (New S w w4) h m v3 (R1 R i k) := by
  have H4 := H.below b (Nat.le_refl _)
  have hh : h < w.heap.size := H.lt h H.sh
  have hb : ∀ u : Value, ∀ t k, w4.ownsRow 0 32 4 u t k → u.ownBlock ≠ some h → (w4.setCell ⟨h, 0, none⟩ v3).ownsRow 0 32 4 u t k := fun u t k hu hn =>
    own_of_block hu fun j hj => heap_set_other _ _ _ _ _ fun e => hn (e ▸ hj)
  refine ⟨cell_same H4.c0, (cell_other (by simp)).trans H4.c1, fun j => by simpa using H4.z j, ⟨?_, fun j hj => .inr (own_lt o hj), fun c hc => ?_⟩, fun e => ?_, fun c hc => ?_, fun c hc => ?_, .inl H.sh, fun j hj => ?_, H.m9⟩
  · exact own_base (own_of_block o fun j hj => heap_set_other _ _ _ _ _ fun e => by have := (own_lt o hj).1; omega) (Nat.zero_le _)
  · rcases R1_mem hc with hc | rfl
    · exact ⟨hb _ _ _ (H4.tm.rows c hc).1 (H.nr c hc), fun j hj => .inl ((H.tm.rows c hc).2 j hj)⟩
    · exact ⟨World.ownsRow_nil _ _ _ _, fun j hj => by cases hj⟩
  · have := (own_lt o e).1; omega
  · rcases R1_mem hc with hc | rfl
    · exact H.nr c hc
    · intro e; cases e
  · rcases R1_mem hc with hc | rfl
    · exact H.wp c hc
    · intro x hx; cases hx
  · rcases hj with hj | hj
    · have := H4.lt j hj; simpa using this
    · simpa using hj.2
set_option maxRecDepth 100000
set_option maxHeartbeats 4000000 in
theorem lay40_new (w : World) (S : Nat → Prop) (h m : Nat) (v : Value) (R : List Col) (H : Rt w S h m v R) (k : Ky) (p : Pnt) (hp : Wp p) (hn : R.length ≤ 1000000) (hf : fnd (tab R) k = false) :
    Calls Try.prog 40 #[.pointer (some ⟨h, 0, none⟩), .string k.1, .string k.2, pa p] w fun e w' => (∃ x : Bool, e = .returned (.bool x)) ∧ ∃ v' R', tab R' = (tab R).take (pos (tab R) k) ++ (k, [p]) :: (tab R).drop (pos (tab R) k) ∧ Rt w' (New S w w') h m v' R' ∧ Chg w w' S := by
  have AT := Lib.hid (fun w S v H => at27 w S h m v R H k hn)
  rw [hf] at AT
  have hpi := pos_le (tab R) k
  rw [tab_len] at hpi
  obtain ⟨i, hii⟩ : ∃ i, i = pos (tab R) k := ⟨_, rfl⟩
  rw [← hii] at hpi AT ⊢
  obtain ⟨n, hN⟩ : ∃ n, n = R.length := ⟨_, rfl⟩
  have HN := Lib.hid hN
  have hhb : h < w.heap.size := H.lt h H.sh
  have HH := Lib.hid H
  have hin : i ≤ n := by omega
  have hn9 : n ≤ 1000000 := by omega
  -- what stands behind the first store
  have MID := Lib.hid (show ∀ v3 w4, Below w.heap.size w w4 → w4.ownsRow w.heap.size 54 3 v3 (n + 1) (ccl (R1 R i k)) → (w4.cell? ⟨h, 0, none⟩ = some v ∧ w4.frozen? ⟨h, 0, none⟩ = false) ∧ Rt (w4.setCell ⟨h, 0, none⟩ v3) (New S w w4) h m v3 (R1 R i k) ∧ Chg w (w4.setCell ⟨h, 0, none⟩ v3) S from fun v3 w4 b o => by
    have H4 := HH.out.below b (Nat.le_refl _)
    refine ⟨⟨H4.c0, H4.z 0⟩, Rt.insert HH.out k b (by rw [R1_len (by omega), ← hN]; exact o), (Chg.of_below b (Nat.le_refl _) S).setCell HH.out.sh _⟩)
  obtain ⟨wa, hwa⟩ : ∃ wa, wa = w.alloc (.cells #[.int .i64 p.1, .int .i64 p.2.1, .int .u64 (p.2.2.1 : Nat), .string (str p.2.2.2)] 32) := ⟨_, rfl⟩
  have BA := Lib.hid (show Below w.heap.size w wa from by rw [hwa]; exact (Below.refl _ w).alloc (Nat.le_refl _) _)
  have SZA := Lib.hid (show wa.heap.size = w.heap.size + 1 by rw [hwa]; simp)
  have BXC := Lib.hid (show ∀ y : World, y.heap[w.heap.size]? = wa.heap[w.heap.size]? → y.cell? ⟨w.heap.size, 0, none⟩ = some (.int .i64 p.1) ∧ y.cell? ⟨w.heap.size, 1, none⟩ = some (.int .i64 p.2.1) ∧ y.cell? ⟨w.heap.size, 2, none⟩ = some (.int .u64 (p.2.2.1 : Nat)) ∧ y.cell? ⟨w.heap.size, 3, none⟩ = some (.string (str p.2.2.2)) from fun y hy => by
    have hb : y.heap[w.heap.size]? = some (.cells #[.int .i64 p.1, .int .i64 p.2.1, .int .u64 (p.2.2.1 : Nat), .string (str p.2.2.2)] 32) := by
      rw [hy, hwa]; exact heap_alloc_new w _
    exact ⟨cell_at hb 0, cell_at hb 1, cell_at hb 2, cell_at hb 3⟩)
  have A1 := Lib.hid (AT.out wa S v (H.below BA.out (Nat.le_refl _)))
  clear AT
  obtain ⟨t, kd, u, x⟩ := p
  unfold pa
  simp only at hwa BXC ⊢
  go_enter Try.func40, Try.ntmps40
  go_upto_region 1 with (fail)
  rw [← hwa]
  clear hwa
  go_wp2_with fail
  refine (A1.out).mono ?_
  rintro e w' ⟨rfl, dn, hw'⟩
  have BB := Lib.hid (show Below (w.heap.size + 1) wa w' from by rw [hw']; exact bdn (Below.refl _ _) _)
  have BBW := Lib.hid (BA.out.trans (BB.out.mono (Nat.le_succ _)))
  have SZB := Lib.hid (show w.heap.size + 1 ≤ w'.heap.size from by have := BB.out.size; have := SZA.out; omega)
  clear hw' A1
  have H1 := Lib.hid (H.below BBW.out (Nat.le_refl _))
  -- the first append
  have ONE := Lib.hid (show ∀ x, Sp (w'.alloc (.cells #[] 54)) 3 x i (ccl (R.take i)) → ∃ va vn vc w2, (Builtin.append_ #[37, 37] 37 #[.slice (some ⟨w'.heap.size, 0, none⟩) 0 0, x]).run Try.prog (w'.alloc (.cells #[] 54)) = .ok (.slice va vn vc) w2 ∧ w2.ownsRow (w.heap.size + 1) 54 3 (.slice va vn vc) i (ccl (R.take i)) ∧ Below (w.heap.size + 1) wa w2 from fun x hx => by
    obtain ⟨v1, w2, hr1, o1, g1⟩ := app54 (w'.alloc (.cells #[] 54)) (w.heap.size + 1) (.slice (some ⟨w'.heap.size, 0, none⟩) 0 0) 0 [] (own_empty w' 54 3 _ SZB.out) x i (ccl (R.take i)) hx (by have := SZB.out; simp; omega) (by omega) 37
    obtain ⟨va, vn, vc, rfl⟩ := own_formsN o1
    refine ⟨va, vn, vc, w2, hr1, by simpa using o1, (BB.out.alloc (by have := BB.out.size; have := SZA.out; omega) _).grown g1 (by have := SZB.out; simp; omega) (fun j ej => by have := SZB.out; have e : w'.heap.size = j := (by simpa [Value.ownBlock] using ej); omega)⟩)
  -- the second
  have TWO := Lib.hid (show ∀ va vn vc w2, w2.ownsRow (w.heap.size + 1) 54 3 (.slice va vn vc) i (ccl (R.take i)) → Below (w.heap.size + 1) wa w2 → ∃ ua un uc w3, (Builtin.append_ #[37, 37] 37 #[.slice va vn vc, .slice (some ⟨w2.heap.size, 0, none⟩) 1 1]).run Try.prog (w2.alloc (.cells #[.string k.1, .string k.2, .slice none 0 0] 54)) = .ok (.slice ua un uc) w3 ∧ w3.ownsRow (w.heap.size + 1) 54 3 (.slice ua un uc) (i + 1) (ccl (R.take i) ++ [.string k.1, .string k.2, .slice none 0 0]) ∧ Below (w.heap.size + 1) wa w3 ∧ w3.cell? ⟨h, 0, none⟩ = some v from fun va vn vc w2 o1 b2 => by
    have z2 := b2.size
    have z1 := SZA.out
    obtain ⟨v2, w3, hr2, o2, g2⟩ := app54 (w2.alloc (.cells #[.string k.1, .string k.2, .slice none 0 0] 54)) (w.heap.size + 1) (.slice va vn vc) i (ccl (R.take i)) (o1.alloc _) (.slice (some ⟨w2.heap.size, 0, none⟩) 1 1) 1 [.string k.1, .string k.2, .slice none 0 0] (.inr ⟨_, _, rfl, rfl, fun i v hi => by
      have hb := heap_alloc_new w2 (.cells #[.string k.1, .string k.2, .slice none 0 0] 54)
      match i, hi with
      | 0, hi => cases hi; simp [Addr.add, cell_at hb 0]
      | 1, hi => cases hi; simp [Addr.add, cell_at hb 1]
      | 2, hi => cases hi; simp [Addr.add, cell_at hb 2], by simp [Value.oneCell']⟩) (by simp; omega) (by omega) 37
    obtain ⟨ua, un, uc, rfl⟩ := own_formsN o2
    have b3 : Below (w.heap.size + 1) wa w3 := (b2.alloc (by omega) _).grown g2 (by simp; omega) (fun j ej => (own_lt o1 ej).1)
    exact ⟨ua, un, uc, w3, hr2, o2, b3, (World.cell?_of_block ((BA.out.trans (b3.mono (Nat.le_succ _))).block h hhb)).trans HH.out.c0⟩)
  -- the third
  have THREE := Lib.hid (show ∀ ua un uc w3 x, w3.ownsRow (w.heap.size + 1) 54 3 (.slice ua un uc) (i + 1) (ccl (R.take i) ++ [.string k.1, .string k.2, .slice none 0 0]) → Below (w.heap.size + 1) wa w3 → Sp w3 3 x (n - i) (ccl (R.drop i)) → ∃ q qn qc w4, (Builtin.append_ #[37, 37] 37 #[.slice ua un uc, x]).run Try.prog w3 = .ok (.slice (some ⟨q, 0, none⟩) qn qc) w4 ∧ (w4.cell? ⟨h, 0, none⟩ = some v ∧ w4.frozen? ⟨h, 0, none⟩ = false) ∧ Hid (Rt (w4.setCell ⟨h, 0, none⟩ (.slice (some ⟨q, 0, none⟩) qn qc)) (New S w w4) h m (.slice (some ⟨q, 0, none⟩) qn qc) (R1 R i k) ∧ Chg w (w4.setCell ⟨h, 0, none⟩ (.slice (some ⟨q, 0, none⟩) qn qc)) S ∧ qn = n + 1 ∧ (w4.setCell ⟨h, 0, none⟩ (.slice (some ⟨q, 0, none⟩) qn qc)).heap[w.heap.size]? = wa.heap[w.heap.size]? ∧ w.heap.size + 1 ≤ w4.heap.size) from fun ua un uc w3 x o2 b3 hx => by
    have z2 := b3.size
    have z1 := SZA.out
    obtain ⟨v3, w4, hr3, o3, g3⟩ := app54 w3 (w.heap.size + 1) (.slice ua un uc) (i + 1) _ o2 x (n - i) (ccl (R.drop i)) hx (by omega) (by omega) 37
    have e1 : i + 1 + (n - i) = n + 1 := by omega
    have e2 : ccl (R.take i) ++ [.string k.1, .string k.2, .slice none 0 0] ++ ccl (R.drop i) = ccl (R1 R i k) := by unfold R1; rw [ccl_app, ccl_cons, List.append_assoc]
    rw [e1, e2] at o3
    obtain ⟨q, qc, rfl⟩ := Go.Joins.ownsRow_form o3 (by omega)
    have b4 : Below (w.heap.size + 1) wa w4 := b3.grown g3 (by omega) (fun j ej => (own_lt o2 ej).1)
    obtain ⟨m1, m2, m3⟩ := MID.out _ w4 (BA.out.trans (b4.mono (Nat.le_succ _))) (own_base o3 (Nat.le_succ _))
    exact ⟨q, n + 1, qc, w4, hr3, m1, Lib.hid ⟨m2, m3, rfl, by rw [heap_set_other _ _ _ _ _ (by omega)]; exact b4.block _ (by omega), by have := b4.size; omega⟩⟩)
  have c0 := H1.out.c0
  -- what stands behind the second store
  have hp2 := Lib.hid hp
  have TL := Lib.hid (show ∀ W5 q qc w4, Rt W5 (New S w w4) h m (.slice (some ⟨q, 0, none⟩) (n + 1) qc) (R1 R i k) → Chg w W5 S → W5.heap[w.heap.size]? = wa.heap[w.heap.size]? → (w.heap.size + 1 ≤ w4.heap.size ∧ w4.heap.size = W5.heap.size) → W5.cell? ⟨h, 0, none⟩ = some (.slice (some ⟨q, 0, none⟩) (n + 1) qc) ∧ W5.cell? ⟨q, i * 3 + 2, none⟩ = some (.slice none 0 0) ∧ (∀ w10 r, Below W5.heap.size W5 w10 → w10.ownsRow W5.heap.size 32 4 r 1 [.int .i64 t, .int .i64 kd, .int .u64 (u : Nat), .string (str x)] → (w10.cell? ⟨q, i * 3 + 2, none⟩ = some (.slice none 0 0) ∧ w10.frozen? ⟨q, i * 3 + 2, none⟩ = false) ∧ ∃ v' R', tab R' = (tab R).take i ++ (k, [(t, kd, u, x)]) :: (tab R).drop i ∧ Rt (w10.setCell ⟨q, i * 3 + 2, none⟩ r) (New S w (w10.setCell ⟨q, i * 3 + 2, none⟩ r)) h m v' R' ∧ Chg w (w10.setCell ⟨q, i * 3 + 2, none⟩ r) S) from fun W5 q qc w4 r5 c5 hbx hsz => by
    have hl : (R1 R i k).length = n + 1 := by rw [R1_len (by have := HN.out; omega), HN.out]
    obtain ⟨b', c', e, e1, e2, e3, e4, e5, e6⟩ := r5.tm.at (i := i) (by omega)
    rw [hl] at e
    cases e
    rw [R1_get (by have := HN.out; omega)] at e6
    refine ⟨r5.c0, e6, fun w10 r b o => ?_⟩
    have r10 := r5.below b (Nat.le_refl _)
    have own := r10.tm.own
    rw [hl] at own
    have hs10 := b.size
    refine ⟨⟨(World.cell?_of_block (b.block _ e3)).trans e6, own.frozenAt _⟩, .slice (some ⟨q, 0, none⟩) (n + 1) qc, (R1 R i k).set i (k, [(t, kd, u, x)], r), R1_tab (by have := HN.out; omega) k _ _, ?_, ?_⟩
    · have st := Rt.store (S' := New S w (w10.setCell ⟨q, i * 3 + 2, none⟩ r)) r10 hl.symm (i := i) (by omega) [(t, kd, u, x)] (fun y hy => by
        obtain rfl : y = (t, kd, u, x) := by simpa using hy
        exact hp2.out) r (own_base o (Nat.zero_le _)) (fun j hj => ⟨.inr ⟨by have := (own_lt o hj).1; omega, by simpa using (own_lt o hj).2⟩, by have := (own_lt o hj).1; have := r5.lt h r5.sh; omega⟩) (fun j hj => by
          rcases hj with hj | hj
          · exact .inl hj
          · exact .inr ⟨hj.1, by have := hj.2; simp; omega⟩) (fun j hj => by
          rcases hj with hj | hj
          · have := r5.lt j (.inl hj); omega
          · simpa using hj.2)
      rw [R1_get (by have := HN.out; omega)] at st
      exact st
    · have c10 : Chg w w10 S := c5.trans (Chg.of_below b (Nat.le_refl _) (fun _ => False)) (fun j hj _ => hj.elim)
      have e2' : S q ∨ w.heap.size ≤ q := by
        rcases r5.tm.ob q rfl with hq | hq
        · exact .inl hq
        · exact .inr hq.1
      rcases e2' with hq | hq
      · exact c10.setCell hq _
      · exact ⟨c10.os, c10.tape, c10.output, by simpa using c10.size, fun j hj hS => by rw [heap_set_other _ _ _ _ _ (by omega)]; exact c10.block j hj hS⟩)
  have cA := Lib.cell?_alloc_some (.cells #[] 54) c0
  have OW := H1.out.tm.own
  have HT := Lib.hid H1.out.tm
  have HU := Lib.hid (show ∀ y, Below (w.heap.size + 1) wa y → Rt y S h m v R from fun y hy => HH.out.below (BA.out.trans (hy.mono (Nat.le_succ _))) (Nat.le_refl _))
  clear MID H HH hp hii hf c0
  rcases OW.2 with ⟨hv, hz⟩ | ⟨tb, tc, cur, hv, _, _, hnc, _⟩
  · -- no columns yet
    have hn0 := Lib.hid (show n = 0 by omega)
    obtain rfl : i = 0 := by omega
    simp only [Nat.zero_mul, Nat.zero_add] at TL
    rw [hv] at cA
    have e0 : ccl (R.take 0) = [] := rfl
    have e1 : ccl (R.drop 0) = [] := by rw [List.drop_zero, List.length_eq_zero_iff.1 hz]; rfl
    obtain ⟨va, vn, vc, w2, hr1, o1, b2⟩ := ONE.out (.slice none 0 0) (.inl ⟨rfl, rfl, e0⟩)
    obtain ⟨ua, un, uc, w3, hr2, o2, b3, c3⟩ := TWO.out va vn vc w2 o1 b2
    obtain ⟨q, qn, qc, w4, hr3, ⟨m1, m2⟩, HE⟩ := THREE.out ua un uc w3 (.slice none 0 0) o2 b3 (.inl ⟨rfl, by have := hn0.out; omega, e1⟩)
    rw [hv] at c3 m1
    clear o1 b2 o2 b3 e0 e1 hz hN hpi OW ONE TWO THREE
    have SZ5 := Lib.hid (show ∀ y : World, ∀ r, (y.setCell ⟨h, 0, none⟩ r).heap.size = y.heap.size from fun y r => by simp)
    go_upto_region 4 with (at_builtin; refine Lib.wpList_append_run _ rfl _ _ _ _ rfl _ _ rfl rfl _ _ hr1 ?_)
    go_upto_region 5 with (at_builtin; refine Lib.wpList_append_run _ rfl _ _ _ _ rfl _ _ rfl rfl _ _ hr2 ?_)
    go_upto_region 6 with (at_builtin; refine Lib.wpList_append_run _ rfl _ _ _ _ rfl _ _ rfl rfl _ _ hr3 ?_)
    have SZ6 := Lib.hid (SZ5.out w4 (.slice (some ⟨q, 0, none⟩) qn qc))
    obtain ⟨W5, hW5⟩ : ∃ W5, W5 = w4.setCell ⟨h, 0, none⟩ (.slice (some ⟨q, 0, none⟩) qn qc) := ⟨_, rfl⟩
    rw [← hW5] at HE SZ6 ⊢
    clear hW5 hr1 hr2 hr3 m1 m2
    obtain ⟨R5, C5, hqn, hbx, hw4⟩ := HE.out
    have z5 := SZ6.out
    have TAIL := TL.out W5 q qc w4 (by rw [← hqn]; exact R5) C5 hbx ⟨hw4, z5.symm⟩
    obtain ⟨k0, k2, FINT⟩ := TAIL
    have FT := Lib.hid FINT
    have BX5 := Lib.hid (show ∀ y, Below W5.heap.size W5 y → _ from fun y hy => BXC.out y ((hy.block w.heap.size (by omega)).trans hbx))
    have HW4 := Lib.hid (show w.heap.size + 1 ≤ W5.heap.size by omega)
    clear FINT R5 C5 hbx hw4 z5 HE
    obtain ⟨N1, hN1⟩ : ∃ N1, N1 = n + 1 := ⟨_, rfl⟩
    rw [hqn, ← hN1]
    rw [← hN1] at k0
    have hi1 : 0 < N1 := by omega
    clear hN1 hqn
    go_wp2_with fail
    refine wp_loop_rounds 1 ?_
    rw [rounds_succ]
    go_wp2_with fail
    go_quiet (fail)
    go_upto_region 10 with (fail)
    obtain ⟨W6, hW6⟩ : ∃ W6, W6 = W5.drewN nq := ⟨_, rfl⟩
    rw [← hW6]
    have B6 := Lib.hid (show Below W5.heap.size W5 W6 from by rw [hW6]; exact bdn (Below.refl _ _) _)
    have k6 : (W6.alloc (.cells #[] 32)).cell? ⟨q, 2, none⟩ = some (.slice none 0 0) := by rw [hW6]; exact Lib.cell?_alloc_some _ k2
    have K6 := Lib.hid k2
    clear hW6 k0 k2
    obtain ⟨v1, w7, hr1, o1, g1⟩ := app32 (W6.alloc (.cells #[] 32)) W5.heap.size (.slice (some ⟨W6.heap.size, 0, none⟩) 0 0) 0 [] (own_empty W6 32 4 _ B6.out.size) (.slice none 0 0) 0 [] (.inl ⟨rfl, rfl, rfl⟩) (by have := B6.out.size; simp; omega) (by omega) 43
    obtain ⟨ea, en, ec, rfl⟩ := own_formsN o1
    have O1 := Lib.hid o1
    have B7 := Lib.hid (show Below W5.heap.size W5 w7 from (B6.out.alloc B6.out.size _).grown g1 (by have := B6.out.size; simp; omega) (fun j ej => by have := B6.out.size; have e : W6.heap.size = j := (by simpa [Value.ownBlock] using ej); omega))
    clear o1 g1
    obtain ⟨v2, w8, hr2, o2, g2⟩ := app32 (w7.alloc (.cells #[.int .i64 t, .int .i64 kd, .int .u64 (u : Nat), .string (str x)] 32)) W5.heap.size (.slice ea en ec) (0 + 0) ([] ++ []) (O1.out.alloc _) (.slice (some ⟨w7.heap.size, 0, none⟩) 1 1) 1 [.int .i64 t, .int .i64 kd, .int .u64 (u : Nat), .string (str x)] (.inr ⟨_, _, rfl, rfl, fun i v hi => by
      have hb := heap_alloc_new w7 (.cells #[.int .i64 t, .int .i64 kd, .int .u64 (u : Nat), .string (str x)] 32)
      match i, hi with
      | 0, hi => cases hi; simp [Addr.add, cell_at hb 0]
      | 1, hi => cases hi; simp [Addr.add, cell_at hb 1]
      | 2, hi => cases hi; simp [Addr.add, cell_at hb 2]
      | 3, hi => cases hi; simp [Addr.add, cell_at hb 3], by simp [Value.oneCell']⟩) (by have := B7.out.size; simp; omega) (by omega) 43
    obtain ⟨fa, fn, fc, rfl⟩ := own_formsN o2
    have O2 := Lib.hid o2
    have B8 := Lib.hid (show Below W5.heap.size W5 w8 from (B7.out.alloc B7.out.size _).grown g2 (by have := B7.out.size; simp; omega) (fun j ej => (own_lt O1.out ej).1))
    clear o2 g2
    obtain ⟨a0, a1, a2, a3⟩ := BX5.out w7 B7.out
    have k8 := (B8.out.cell (p := ⟨q, 2, none⟩) (cell_lt K6.out)).trans K6.out
    go_upto_region 11 with (at_builtin; refine Lib.wpList_append_run _ rfl _ _ _ _ rfl _ _ rfl rfl _ _ hr1 ?_)
    go_wp2_with (at_builtin; refine Lib.wpList_append_run _ rfl _ _ _ _ rfl _ _ rfl rfl _ _ hr2 ?_)
    go_quiet (fail)
    go_upto_region 15 with (fail)
    obtain ⟨W9, hW9⟩ : ∃ W9, W9 = w8.drewN nq := ⟨_, rfl⟩
    rw [← hW9]
    have B9 := Lib.hid (show Below W5.heap.size W5 W9 from by rw [hW9]; exact bdn B8.out _)
    have O9 := Lib.hid (show W9.ownsRow W5.heap.size 32 4 (.slice fa fn fc) (0 + 0 + 1) ([] ++ [] ++ [.int .i64 t, .int .i64 kd, .int .u64 (u : Nat), .string (str x)]) from by rw [hW9]; exact O2.out)
    have k9 : W9.cell? ⟨q, 2, none⟩ = some (.slice none 0 0) := by rw [hW9]; exact k8
    clear hW9 a0 a1 a2 a3 k8 k6 hr1 hr2
    obtain ⟨v3, w10, hr3, o3, g3⟩ := app32 W9 W5.heap.size (.slice fa fn fc) (0 + 0 + 1) _ O9.out (.slice none 0 0) 0 [] (.inl ⟨rfl, rfl, rfl⟩) B9.out.size (by omega) 43
    obtain ⟨ga, gn, gc, rfl⟩ := own_formsN o3
    have B10 : Below W5.heap.size W5 w10 := B9.out.grown g3 B9.out.size (fun j ej => (own_lt O9.out ej).1)
    obtain ⟨⟨x2, z2⟩, FX⟩ := FT.out w10 _ B10 (by simpa using o3)
    have FX2 := Lib.hid FX
    clear FX o3 g3 B10
    go_wp2_with (at_builtin; refine Lib.wpList_append_run _ rfl _ _ _ _ rfl _ _ rfl rfl _ _ hr3 ?_)
    go_ret
    exact ⟨⟨_, rfl⟩, FX2.out⟩
  · -- some columns
    rw [← hN] at hv hnc
    rw [hv] at cA
    have PC := Lib.hid (show ∀ y, Below (w.heap.size + 1) wa y → Tm y S (.slice (some ⟨tb, 0, none⟩) n tc) R from fun y hy => by have := (HU.out y hy).tm; rw [hv] at this; exact this)
    have SZW := SZB.out
    have hiN : (i : Int) ≤ (n : Int) := by omega
    have hiT : (i : Int) ≤ (tc : Int) := by omega
    have hx1 : Sp (w'.alloc (.cells #[] 54)) 3 (.slice (some ⟨tb, 0, none⟩) i tc) i (ccl (R.take i)) := by
      simpa using Tm.piece (PC.out _ (BB.out.alloc (by have := BB.out.size; have := SZA.out; omega) _)) hN 0 i (Nat.zero_le _) hin 0 tc (.inl (by simp))
    obtain ⟨va, vn, vc, w2, hr1, o1, b2⟩ := ONE.out (.slice (some ⟨tb, 0, none⟩) i tc) hx1
    obtain ⟨ua, un, uc, w3, hr2, o2, b3, c3⟩ := TWO.out va vn vc w2 o1 b2
    rw [hv] at c3
    by_cases hti : tc = i
    case pos =>
      have hni : n = i := by omega
      have hx3 : Sp w3 3 (.slice (some ⟨tb, 0, none⟩) 0 0) (n - i) (ccl (R.drop i)) := by
        have := Tm.piece (PC.out w3 b3) hN i n (by omega) (Nat.le_refl _) 0 0 (.inr hni.symm)
        rw [show n - i = 0 by omega] at this ⊢
        rw [List.take_zero] at this
        rw [List.drop_of_length_le (by omega)]
        exact this
      obtain ⟨q, qn, qc, w4, hr3, ⟨m1, m2⟩, HE⟩ := THREE.out ua un uc w3 _ o2 b3 hx3
      rw [hv] at m1
      obtain rfl := hti.symm
      have HNI := Lib.hid hni
      obtain rfl := hni.symm
      clear o1 b2 o2 b3 hx1 hx3 hN hpi OW ONE TWO THREE hnc
      have SZ5 := Lib.hid (show ∀ y : World, ∀ r, (y.setCell ⟨h, 0, none⟩ r).heap.size = y.heap.size from fun y r => by simp)
      go_upto_region 4 with (at_builtin; refine Lib.wpList_append_run _ rfl _ _ _ _ rfl _ _ rfl rfl _ _ hr1 ?_)
      go_upto_region 5 with (at_builtin; refine Lib.wpList_append_run _ rfl _ _ _ _ rfl _ _ rfl rfl _ _ hr2 ?_)
      go_upto_region 6 with (at_builtin; refine Lib.wpList_append_run _ rfl _ _ _ _ rfl _ _ rfl rfl _ _ hr3 ?_)
      have SZ6 := Lib.hid (SZ5.out w4 (.slice (some ⟨q, 0, none⟩) qn qc))
      obtain ⟨W5, hW5⟩ : ∃ W5, W5 = w4.setCell ⟨h, 0, none⟩ (.slice (some ⟨q, 0, none⟩) qn qc) := ⟨_, rfl⟩
      rw [← hW5] at HE SZ6 ⊢
      clear hW5 hr1 hr2 hr3 m1 m2
      obtain ⟨R5, C5, hqn, hbx, hw4⟩ := HE.out
      have z5 := SZ6.out
      have TAIL := TL.out W5 q qc w4 (by rw [← hqn]; exact R5) C5 hbx ⟨hw4, z5.symm⟩
      obtain ⟨k0, k2, FINT⟩ := TAIL
      have FT := Lib.hid FINT
      have BX5 := Lib.hid (show ∀ y, Below W5.heap.size W5 y → _ from fun y hy => BXC.out y ((hy.block w.heap.size (by omega)).trans hbx))
      have HW4 := Lib.hid (show w.heap.size + 1 ≤ W5.heap.size by omega)
      clear FINT R5 C5 hbx hw4 z5 HE
      obtain ⟨N1, hN1⟩ : ∃ N1, N1 = i + 1 := ⟨_, rfl⟩
      rw [hqn, ← hN1]
      rw [← hN1] at k0
      have hi1 : i < N1 := by omega
      clear hN1 hqn
      go_wp2_with fail
      refine wp_loop_rounds 1 ?_
      rw [rounds_succ]
      go_wp2_with fail
      go_quiet (fail)
      go_upto_region 10 with (fail)
      obtain ⟨W6, hW6⟩ : ∃ W6, W6 = W5.drewN nq := ⟨_, rfl⟩
      rw [← hW6]
      have B6 := Lib.hid (show Below W5.heap.size W5 W6 from by rw [hW6]; exact bdn (Below.refl _ _) _)
      have k6 : (W6.alloc (.cells #[] 32)).cell? ⟨q, i * 3 + 2, none⟩ = some (.slice none 0 0) := by rw [hW6]; exact Lib.cell?_alloc_some _ k2
      have K6 := Lib.hid k2
      clear hW6 k0 k2
      obtain ⟨v1, w7, hr1, o1, g1⟩ := app32 (W6.alloc (.cells #[] 32)) W5.heap.size (.slice (some ⟨W6.heap.size, 0, none⟩) 0 0) 0 [] (own_empty W6 32 4 _ B6.out.size) (.slice none 0 0) 0 [] (.inl ⟨rfl, rfl, rfl⟩) (by have := B6.out.size; simp; omega) (by omega) 43
      obtain ⟨ea, en, ec, rfl⟩ := own_formsN o1
      have O1 := Lib.hid o1
      have B7 := Lib.hid (show Below W5.heap.size W5 w7 from (B6.out.alloc B6.out.size _).grown g1 (by have := B6.out.size; simp; omega) (fun j ej => by have := B6.out.size; have e : W6.heap.size = j := (by simpa [Value.ownBlock] using ej); omega))
      clear o1 g1
      obtain ⟨v2, w8, hr2, o2, g2⟩ := app32 (w7.alloc (.cells #[.int .i64 t, .int .i64 kd, .int .u64 (u : Nat), .string (str x)] 32)) W5.heap.size (.slice ea en ec) (0 + 0) ([] ++ []) (O1.out.alloc _) (.slice (some ⟨w7.heap.size, 0, none⟩) 1 1) 1 [.int .i64 t, .int .i64 kd, .int .u64 (u : Nat), .string (str x)] (.inr ⟨_, _, rfl, rfl, fun i v hi => by
        have hb := heap_alloc_new w7 (.cells #[.int .i64 t, .int .i64 kd, .int .u64 (u : Nat), .string (str x)] 32)
        match i, hi with
        | 0, hi => cases hi; simp [Addr.add, cell_at hb 0]
        | 1, hi => cases hi; simp [Addr.add, cell_at hb 1]
        | 2, hi => cases hi; simp [Addr.add, cell_at hb 2]
        | 3, hi => cases hi; simp [Addr.add, cell_at hb 3], by simp [Value.oneCell']⟩) (by have := B7.out.size; simp; omega) (by omega) 43
      obtain ⟨fa, fn, fc, rfl⟩ := own_formsN o2
      have O2 := Lib.hid o2
      have B8 := Lib.hid (show Below W5.heap.size W5 w8 from (B7.out.alloc B7.out.size _).grown g2 (by have := B7.out.size; simp; omega) (fun j ej => (own_lt O1.out ej).1))
      clear o2 g2
      obtain ⟨a0, a1, a2, a3⟩ := BX5.out w7 B7.out
      have k8 := (B8.out.cell (p := ⟨q, i * 3 + 2, none⟩) (cell_lt K6.out)).trans K6.out
      go_upto_region 11 with (at_builtin; refine Lib.wpList_append_run _ rfl _ _ _ _ rfl _ _ rfl rfl _ _ hr1 ?_)
      go_wp2_with (at_builtin; refine Lib.wpList_append_run _ rfl _ _ _ _ rfl _ _ rfl rfl _ _ hr2 ?_)
      go_quiet (fail)
      go_upto_region 15 with (fail)
      obtain ⟨W9, hW9⟩ : ∃ W9, W9 = w8.drewN nq := ⟨_, rfl⟩
      rw [← hW9]
      have B9 := Lib.hid (show Below W5.heap.size W5 W9 from by rw [hW9]; exact bdn B8.out _)
      have O9 := Lib.hid (show W9.ownsRow W5.heap.size 32 4 (.slice fa fn fc) (0 + 0 + 1) ([] ++ [] ++ [.int .i64 t, .int .i64 kd, .int .u64 (u : Nat), .string (str x)]) from by rw [hW9]; exact O2.out)
      have k9 : W9.cell? ⟨q, i * 3 + 2, none⟩ = some (.slice none 0 0) := by rw [hW9]; exact k8
      clear hW9 a0 a1 a2 a3 k8 k6 hr1 hr2
      obtain ⟨v3, w10, hr3, o3, g3⟩ := app32 W9 W5.heap.size (.slice fa fn fc) (0 + 0 + 1) _ O9.out (.slice none 0 0) 0 [] (.inl ⟨rfl, rfl, rfl⟩) B9.out.size (by omega) 43
      obtain ⟨ga, gn, gc, rfl⟩ := own_formsN o3
      have B10 : Below W5.heap.size W5 w10 := B9.out.grown g3 B9.out.size (fun j ej => (own_lt O9.out ej).1)
      obtain ⟨⟨x2, z2⟩, FX⟩ := FT.out w10 _ B10 (by simpa using o3)
      have FX2 := Lib.hid FX
      clear FX o3 g3 B10
      go_wp2_with (at_builtin; refine Lib.wpList_append_run _ rfl _ _ _ _ rfl _ _ rfl rfl _ _ hr3 ?_)
      go_ret
      exact ⟨⟨_, rfl⟩, FX2.out⟩
    case neg =>
      have hti2 : ¬ i = tc := fun e => hti e.symm
      have ht0 : ¬ tc = 0 := by omega
      have hx3 : Sp w3 3 (.slice (some ⟨tb, i * 3, none⟩) (n - i) (tc - i)) (n - i) (ccl (R.drop i)) := by
        have := Tm.piece (PC.out w3 b3) hN i n hin (Nat.le_refl _) (i * 3) (tc - i) (.inl rfl)
        rw [List.take_of_length_le (by rw [List.length_drop]; omega)] at this
        exact this
      obtain ⟨q, qn, qc, w4, hr3, ⟨m1, m2⟩, HE⟩ := THREE.out ua un uc w3 _ o2 b3 hx3
      rw [hv] at m1
      clear o1 b2 o2 b3 hx1 hx3 hN hpi OW ONE TWO THREE hnc hti
      have SZ5 := Lib.hid (show ∀ y : World, ∀ r, (y.setCell ⟨h, 0, none⟩ r).heap.size = y.heap.size from fun y r => by simp)
      go_upto_region 4 with (at_builtin; refine Lib.wpList_append_run _ rfl _ _ _ _ rfl _ _ rfl rfl _ _ hr1 ?_)
      go_upto_region 5 with (at_builtin; refine Lib.wpList_append_run _ rfl _ _ _ _ rfl _ _ rfl rfl _ _ hr2 ?_)
      go_upto_region 6 with (at_builtin; refine Lib.wpList_append_run _ rfl _ _ _ _ rfl _ _ rfl rfl _ _ hr3 ?_)
      have SZ6 := Lib.hid (SZ5.out w4 (.slice (some ⟨q, 0, none⟩) qn qc))
      obtain ⟨W5, hW5⟩ : ∃ W5, W5 = w4.setCell ⟨h, 0, none⟩ (.slice (some ⟨q, 0, none⟩) qn qc) := ⟨_, rfl⟩
      rw [← hW5] at HE SZ6 ⊢
      clear hW5 hr1 hr2 hr3 m1 m2
      obtain ⟨R5, C5, hqn, hbx, hw4⟩ := HE.out
      have z5 := SZ6.out
      have TAIL := TL.out W5 q qc w4 (by rw [← hqn]; exact R5) C5 hbx ⟨hw4, z5.symm⟩
      obtain ⟨k0, k2, FINT⟩ := TAIL
      have FT := Lib.hid FINT
      have BX5 := Lib.hid (show ∀ y, Below W5.heap.size W5 y → _ from fun y hy => BXC.out y ((hy.block w.heap.size (by omega)).trans hbx))
      have HW4 := Lib.hid (show w.heap.size + 1 ≤ W5.heap.size by omega)
      clear FINT R5 C5 hbx hw4 z5 HE
      obtain ⟨N1, hN1⟩ : ∃ N1, N1 = n + 1 := ⟨_, rfl⟩
      rw [hqn, ← hN1]
      rw [← hN1] at k0
      have hi1 : i < N1 := by omega
      clear hN1 hqn
      go_wp2_with fail
      refine wp_loop_rounds 1 ?_
      rw [rounds_succ]
      go_wp2_with fail
      go_quiet (fail)
      go_upto_region 10 with (fail)
      obtain ⟨W6, hW6⟩ : ∃ W6, W6 = W5.drewN nq := ⟨_, rfl⟩
      rw [← hW6]
      have B6 := Lib.hid (show Below W5.heap.size W5 W6 from by rw [hW6]; exact bdn (Below.refl _ _) _)
      have k6 : (W6.alloc (.cells #[] 32)).cell? ⟨q, i * 3 + 2, none⟩ = some (.slice none 0 0) := by rw [hW6]; exact Lib.cell?_alloc_some _ k2
      have K6 := Lib.hid k2
      clear hW6 k0 k2
      obtain ⟨v1, w7, hr1, o1, g1⟩ := app32 (W6.alloc (.cells #[] 32)) W5.heap.size (.slice (some ⟨W6.heap.size, 0, none⟩) 0 0) 0 [] (own_empty W6 32 4 _ B6.out.size) (.slice none 0 0) 0 [] (.inl ⟨rfl, rfl, rfl⟩) (by have := B6.out.size; simp; omega) (by omega) 43
      obtain ⟨ea, en, ec, rfl⟩ := own_formsN o1
      have O1 := Lib.hid o1
      have B7 := Lib.hid (show Below W5.heap.size W5 w7 from (B6.out.alloc B6.out.size _).grown g1 (by have := B6.out.size; simp; omega) (fun j ej => by have := B6.out.size; have e : W6.heap.size = j := (by simpa [Value.ownBlock] using ej); omega))
      clear o1 g1
      obtain ⟨v2, w8, hr2, o2, g2⟩ := app32 (w7.alloc (.cells #[.int .i64 t, .int .i64 kd, .int .u64 (u : Nat), .string (str x)] 32)) W5.heap.size (.slice ea en ec) (0 + 0) ([] ++ []) (O1.out.alloc _) (.slice (some ⟨w7.heap.size, 0, none⟩) 1 1) 1 [.int .i64 t, .int .i64 kd, .int .u64 (u : Nat), .string (str x)] (.inr ⟨_, _, rfl, rfl, fun i v hi => by
        have hb := heap_alloc_new w7 (.cells #[.int .i64 t, .int .i64 kd, .int .u64 (u : Nat), .string (str x)] 32)
        match i, hi with
        | 0, hi => cases hi; simp [Addr.add, cell_at hb 0]
        | 1, hi => cases hi; simp [Addr.add, cell_at hb 1]
        | 2, hi => cases hi; simp [Addr.add, cell_at hb 2]
        | 3, hi => cases hi; simp [Addr.add, cell_at hb 3], by simp [Value.oneCell']⟩) (by have := B7.out.size; simp; omega) (by omega) 43
      obtain ⟨fa, fn, fc, rfl⟩ := own_formsN o2
      have O2 := Lib.hid o2
      have B8 := Lib.hid (show Below W5.heap.size W5 w8 from (B7.out.alloc B7.out.size _).grown g2 (by have := B7.out.size; simp; omega) (fun j ej => (own_lt O1.out ej).1))
      clear o2 g2
      obtain ⟨a0, a1, a2, a3⟩ := BX5.out w7 B7.out
      have k8 := (B8.out.cell (p := ⟨q, i * 3 + 2, none⟩) (cell_lt K6.out)).trans K6.out
      go_upto_region 11 with (at_builtin; refine Lib.wpList_append_run _ rfl _ _ _ _ rfl _ _ rfl rfl _ _ hr1 ?_)
      go_wp2_with (at_builtin; refine Lib.wpList_append_run _ rfl _ _ _ _ rfl _ _ rfl rfl _ _ hr2 ?_)
      go_quiet (fail)
      go_upto_region 15 with (fail)
      obtain ⟨W9, hW9⟩ : ∃ W9, W9 = w8.drewN nq := ⟨_, rfl⟩
      rw [← hW9]
      have B9 := Lib.hid (show Below W5.heap.size W5 W9 from by rw [hW9]; exact bdn B8.out _)
      have O9 := Lib.hid (show W9.ownsRow W5.heap.size 32 4 (.slice fa fn fc) (0 + 0 + 1) ([] ++ [] ++ [.int .i64 t, .int .i64 kd, .int .u64 (u : Nat), .string (str x)]) from by rw [hW9]; exact O2.out)
      have k9 : W9.cell? ⟨q, i * 3 + 2, none⟩ = some (.slice none 0 0) := by rw [hW9]; exact k8
      clear hW9 a0 a1 a2 a3 k8 k6 hr1 hr2
      obtain ⟨v3, w10, hr3, o3, g3⟩ := app32 W9 W5.heap.size (.slice fa fn fc) (0 + 0 + 1) _ O9.out (.slice none 0 0) 0 [] (.inl ⟨rfl, rfl, rfl⟩) B9.out.size (by omega) 43
      obtain ⟨ga, gn, gc, rfl⟩ := own_formsN o3
      have B10 : Below W5.heap.size W5 w10 := B9.out.grown g3 B9.out.size (fun j ej => (own_lt O9.out ej).1)
      obtain ⟨⟨x2, z2⟩, FX⟩ := FT.out w10 _ B10 (by simpa using o3)
      have FX2 := Lib.hid FX
      clear FX o3 g3 B10
      go_wp2_with (at_builtin; refine Lib.wpList_append_run _ rfl _ _ _ _ rfl _ _ rfl rfl _ _ hr3 ?_)
      go_ret
      exact ⟨⟨_, rfl⟩, FX2.out⟩
end Ug
end Go.Proofs.Ytloiclmngmnbdaa
