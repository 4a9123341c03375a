/- Add. -/
import Derived.Test.YtalanjhpacjmmaaGreatKl
namespace Go.Proofs.YtalanjhpacjmmaaGreat
set_option maxRecDepth 100000
open Go.RowKit Go.Maps Go.ChangeMaps Go.MapKept Go.Sort Go.Shelf
namespace Km
open Jb Ka Kb Kc Kd Kf Kg Kh Ki Kj Kk Kl Sa Sb Sg

theorem Rdy.below {w w' : World} {B N x g : Nat} {A : As} {C : Cs} {Q : Qs} {kd : Ks} {n : Tx} (h : Rdy w B N x A C Q kd n g) (b : Below w.heap.size w w') : Rdy w' B N x A C Q kd n g :=
  ⟨h.mem.below b, h.lk, h.idx, h.at_, h.fm, h.G, h.hg, h.S1, fun s hs => (h.S2 s hs).move rfl rfl b.size (fun k hk => b.block k (h.mem.lt _ k hk).2), h.K, h.F1, h.F2, h.kb⟩
theorem own_forms2 {w : World} {B t k n : Nat} {v : Value} {xs : List Value} (h : w.ownsRow B t k v n xs) : ∃ a c, v = .slice a n c := own_forms h
theorem terr_fm {s : Sr} (h : fm s = true) : terr s = 0 := by simp [terr, h]
theorem add_nil (w : World) (s : Sr) (v : Value) (h : In w s v) :
    Calls Tryz.prog 11 #[.pointer none, .agg #[.string s.1, v]] w fun e w' => e = .returned (.tuple #[.bool false, .int .i64 1]) ∧ Below w.heap.size w w' := by
  obtain ⟨n, L⟩ := s
  obtain ⟨a, c, rfl⟩ := h.ti.forms
  obtain ⟨m, hm⟩ : ∃ m, m = L.length := ⟨_, rfl⟩
  obtain ⟨W, hW⟩ : ∃ W, W = w.alloc (.cells #[.string n, .slice a m c] 30) := ⟨_, rfl⟩
  obtain ⟨y, hy⟩ : ∃ y, y = w.heap.size := ⟨_, rfl⟩
  have bW : Below w.heap.size w W := by rw [hW]; exact (Below.refl _ w).alloc (Nat.le_refl _) _
  have c0 : W.cell? ⟨y, 0, none⟩ = some (.string n) := by rw [hW, hy]; exact new_cell _ _ _ 0 _ rfl
  have c1 : W.cell? ⟨y, 1, none⟩ = some (.slice a m c) := by rw [hW, hy]; exact new_cell _ _ _ 1 _ rfl
  have T := Lib.hid (text_in W (n, L) _ (h.below bW))
  simp only at T ⊢
  obtain ⟨E, hE⟩ : ∃ E, E = terr (n, L) := ⟨_, rfl⟩
  rw [← hm, ← hE] at T
  rw [← hm]
  have BW := Lib.hid bW
  clear h bW hm hE
  go_enter Tryz.func11, Tryz.ntmps11
  go_upto_region 1 with (fail)
  rw [← hW, ← hy]
  clear hW hy
  go_wp2_with (go_at_call 36; refine T.out.mono ?_; clear T; rintro e w1 ⟨rfl, b1⟩; have B1 := Lib.hid b1; clear b1)
  go_ret2
  exact ⟨rfl, BW.out.trans (B1.out.mono BW.out.size)⟩
theorem add_old (w : World) (B N x : Nat) (A : As) (C : Cs) (Q : Qs) (kd : Ks) (h : Ix w B N x A C Q kd) (_ : B ≤ w.heap.size) (s : Sr) (v : Value) (hi : In w s v) (hs : Q s) :
    Calls Tryz.prog 11 #[.pointer (some ⟨x, 0, none⟩), .agg #[.string s.1, v]] w fun e w' => e = .returned (.tuple #[.bool false, .int .i64 0]) ∧ Below w.heap.size w w' := by
  have hf := h.fm s hs
  obtain ⟨n, L⟩ := s
  have sz : n.size ≤ 64 ∧ (tt (n, L)).size ≤ 2192 ∧ L.length ≤ 8 ∧ ∀ i, i < L.length → (L.getD i t0).1.size ≤ 64 ∧ (L.getD i t0).2.size ≤ 64 := fm_size hf
  obtain ⟨a, c, rfl⟩ := hi.ti.forms
  obtain ⟨m, hm⟩ : ∃ m, m = L.length := ⟨_, rfl⟩
  obtain ⟨W, hW⟩ : ∃ W, W = w.alloc (.cells #[.string n, .slice a m c] 30) := ⟨_, rfl⟩
  obtain ⟨y, hy⟩ : ∃ y, y = w.heap.size := ⟨_, rfl⟩
  have bW : Below w.heap.size w W := by rw [hW]; exact (Below.refl _ w).alloc (Nat.le_refl _) _
  have c0 : W.cell? ⟨y, 0, none⟩ = some (.string n) := by rw [hW, hy]; exact new_cell _ _ _ 0 _ rfl
  have c1 : W.cell? ⟨y, 1, none⟩ = some (.slice a m c) := by rw [hW, hy]; exact new_cell _ _ _ 1 _ rfl
  have T := Lib.hid (text_in W (n, L) _ (hi.below bW))
  have GA := Lib.hid (fun (z : World) (b : Below w.heap.size w z) => group_rd z B N x A C Q kd (h.below b) n (by have := sz.1; unfold maxLen; omega))
  obtain ⟨a', c', e1, _⟩ := SE_some h hs
  have HS := Lib.hid (fun (z : World) (g N : Nat) (ms : Option Nat) (hk : Bk z g 0 ms N (SE A C n)) => has_S z g N ms _ hk (tt (n, L)) (by have := sz.2.1; unfold maxLen; omega) n a' L.length c' (by rw [e1]; rfl))
  simp only at T e1 ⊢
  rw [tstr_fm hf, terr_fm hf, ← hm] at T
  rw [e1] at HS
  simp only [Option.isSome_some] at HS
  obtain ⟨X, hX⟩ : ∃ X, X = tt (n, L) := ⟨_, rfl⟩
  rw [← hX] at T HS
  rw [← hm]
  have BW := Lib.hid bW
  have SW := Lib.hid (show w.heap.size < W.heap.size by rw [hW]; simp)
  have HY := Lib.hid hy
  clear h hi hs hf sz bW hm e1 hX
  go_enter Tryz.func11, Tryz.ntmps11
  go_upto_region 1 with (fail)
  rw [← hW, ← hy]
  clear hW hy
  go_wp2_with (first
    | (go_at_call 36; refine T.out.mono ?_; clear T; rintro e w1 ⟨rfl, b1⟩; have B1 := Lib.hid (BW.out.trans (b1.mono BW.out.size)); have z0 : w1.cell? ⟨y, 0, none⟩ = some (.string n) := (b1.cell (p := ⟨y, 0, none⟩) (by rw [HY.out]; exact SW.out)).trans c0; clear b1)
    | (go_at_call 37; refine (GA.out w1 B1.out).mono ?_; clear GA; rintro e w2 ⟨g, ms, mt, rfl, b2, k0, k2⟩; have B2 := Lib.hid (B1.out.trans (b2.mono B1.out.size)); have K0 := Lib.hid k0; clear b2 k0 k2)
    | (go_at_call 38; refine (HS.out w2 g _ ms K0.out).mono ?_; clear HS; rintro e w3 ⟨rfl, b3⟩; have B3 := Lib.hid (B2.out.trans (b3.mono B2.out.size)); clear b3))
  go_ret2
  exact ⟨rfl, B3.out⟩
set_option maxHeartbeats 2000000 in
theorem add_new (w : World) (B N x : Nat) (A : As) (C : Cs) (Q : Qs) (kd : Ks) (h : Ix w B N x A C Q kd) (hB : B ≤ w.heap.size) (s : Sr) (v : Value) (hi : In w s v) (hf : fm s = true) (hs : ¬ Q s) (hN : N + 100 < maxLen)
    (hU : ∀ b off l c, v = .slice (some ⟨b, off, none⟩) l c → 0 < l → ∀ r, A r ≠ some b) :
    Calls Tryz.prog 11 #[.pointer (some ⟨x, 0, none⟩), .agg #[.string s.1, v]] w fun e w' => e = .returned (.tuple #[.bool true, .int .i64 0]) ∧ ∃ A' C', Ix w' B (N + 30) x A' C' (fun q => Q q ∨ q = s) kd ∧ Own w w' A A' := by
  obtain ⟨n, L⟩ := s
  have sz : n.size ≤ 64 ∧ (tt (n, L)).size ≤ 2192 ∧ L.length ≤ 8 ∧ ∀ i, i < L.length → (L.getD i t0).1.size ≤ 64 ∧ (L.getD i t0).2.size ≤ 64 := fm_size hf
  obtain ⟨a, c, rfl⟩ := hi.ti.forms
  obtain ⟨m, hm⟩ : ∃ m, m = L.length := ⟨_, rfl⟩
  obtain ⟨W, hW⟩ : ∃ W, W = w.alloc (.cells #[.string n, .slice a m c] 30) := ⟨_, rfl⟩
  obtain ⟨y, hy⟩ : ∃ y, y = w.heap.size := ⟨_, rfl⟩
  have bW : Below w.heap.size w W := by rw [hW]; exact (Below.refl _ w).alloc (Nat.le_refl _) _
  have c0 : W.cell? ⟨y, 0, none⟩ = some (.string n) := by rw [hW, hy]; exact new_cell _ _ _ 0 _ rfl
  have c1 : W.cell? ⟨y, 1, none⟩ = some (.slice a m c) := by rw [hW, hy]; exact new_cell _ _ _ 1 _ rfl
  have T := Lib.hid (text_in W (n, L) _ (hi.below bW))
  have n9 : n.size ≤ maxLen := by have := sz.1; unfold maxLen; omega
  have t9 : (tt (n, L)).size ≤ maxLen := by have := sz.2.1; unfold maxLen; omega
  have GA := Lib.hid (fun (z : World) (b : Below w.heap.size w z) => group_add z B N x A C Q kd (h.below b) (Nat.le_trans hB b.size) n n9)
  have e0 : SE A C n (tt (n, L)) = none := by
    by_cases e : SE A C n (tt (n, L)) = none
    · exact e
    · obtain ⟨q, hq, _, e3⟩ := (SE_iff h n _).1 e
      exact absurd (tt_inj e3 ▸ hq) hs
  have HS := Lib.hid (fun (z : World) (g : Nat) (A' : As) (C' : Cs) (r : Rdy z B N x A' C' Q kd n g) (e : ∀ t, C' (.S n) t = SE A C n t) => (has_S z g N _ _ (r.mem.bk (.S n) g r.at_) (tt (n, L)) t9 ⟨#[]⟩ none 0 0 (by rw [e, e0]; rfl)))
  have HS2 := Lib.hid (fun (C' : Cs) (e : ∀ t, C' (.S n) t = SE A C n t) => (show (C' (.S n) (tt (n, L))).isSome = false by rw [e, e0]; rfl))
  have OW := Lib.hid (fun (z : World) (b : Below w.heap.size w z) => own_s z n a c L (hi.ti.below b) (by have := sz.1; omega) (fun i hi => by have := sz.2.2.2 i hi; omega) (by have := sz.2.2.1; omega))
  have AG := Lib.hid (fun (z1 z2 : World) (g : Nat) (A' : As) (C' : Cs) (r : Rdy z1 B N x A' C' Q kd n g) (b : Below z1.heap.size z1 z2) (hz1 : B ≤ z1.heap.size) (a2 : Option Addr) (c2 : Nat) (ow : z2.ownsRow z1.heap.size 36 2 (.slice a2 L.length c2) L.length (tcs L)) =>
    add_g z2 B N g A' C' (PQ Q) n (tt (n, L)) n a2 c2 L (r.mem.below b) r.lk (Nat.le_trans hz1 b.size) r.at_ t9 ⟨ti_own ow, fun b' off l' c' e hl r' hr => by
      cases e
      have k := own_lt ow (j := b') rfl
      have := (r.mem.lt r' b' hr).2
      omega⟩ (fun i hi => by have := sz.2.2.2 i hi; unfold maxLen; omega) (by have := sz.2.2.1; omega) (by have := sz.2.2.1; omega))
  have PG := Lib.hid (fun (z3 : World) (N' g : Nat) (A3 : As) (C3 : Cs) (m3 : Mem z3 B N' A3 C3) (hx : A3 .idx = some x) (hN' : N' < maxLen) => put_G z3 x N' _ _ (m3.bk .G x hx) n n9 hN' g)
  have hl8 : L.length ≤ 8 := sz.2.2.1
  have FIN := Lib.hid (fun (z1 z2 z3 z4 : World) (g : Nat) (A' A3 : As) (C' C3 : Cs) (mo' : Option Nat) (a2 : Option Addr) (c2 : Nat) (b01 : Below w.heap.size w z1) (r : Rdy z1 B N x A' C' Q kd n g) (o : Own w z1 A A') (b : Below z1.heap.size z1 z2) (ow : z2.ownsRow z1.heap.size 36 2 (.slice a2 L.length c2) L.length (tcs L))
      (l : Laid z2 z3 B (N + 1 + 3 * L.length) A' A3 C' C3 (tagsTo (PQ Q) n (tt (n, L)) L L.length) n (tt (n, L)) (sag n a2 L.length c2)) (t : Turn z3 z4 x 0 (A3 (.mp .G)) mo' (N + 1 + 3 * L.length + 1) (upd (C3 .G) n (some (pv g)))) =>
    (show ∃ A5 C5, Ix z4 B (N + 30) x A5 C5 (fun q => Q q ∨ q = (n, L)) kd ∧ Own w z4 A A5 from by
      obtain ⟨A5, C5, i5, o5⟩ := Rdy.done (s := (n, L)) r (Nat.le_trans hB b01.size) b ow hf l t
      exact ⟨A5, C5, i5, o.trans o5⟩))
  simp only at T ⊢
  rw [tstr_fm hf, terr_fm hf, ← hm] at T
  obtain ⟨X, hX⟩ : ∃ X, X = tt (n, L) := ⟨_, rfl⟩
  rw [← hX] at T HS HS2 AG FIN
  rw [← hm] at OW AG FIN hl8 ⊢
  have BW := Lib.hid bW
  have SW := Lib.hid (show w.heap.size < W.heap.size by rw [hW]; simp)
  have HY := Lib.hid hy
  have HB := Lib.hid hB
  have HN := Lib.hid hN
  clear h hi hs hf sz bW hm e0 hX hB hN hU n9 t9
  have HL8 := Lib.hid hl8
  clear hl8
  go_enter Tryz.func11, Tryz.ntmps11
  go_upto_region 1 with (fail)
  rw [← hW, ← hy]
  clear hW hy
  go_upto_region 5 with (first
    | (go_at_call 36; refine T.out.mono ?_; clear T; rintro e w1 ⟨rfl, b1⟩; have B1 := Lib.hid (BW.out.trans (b1.mono BW.out.size)); have z0 : w1.cell? ⟨y, 0, none⟩ = some (.string n) := (b1.cell (p := ⟨y, 0, none⟩) (by rw [HY.out]; exact SW.out)).trans c0; have z1 : w1.cell? ⟨y, 1, none⟩ = some (.slice a m c) := (b1.cell (p := ⟨y, 1, none⟩) (by rw [HY.out]; exact SW.out)).trans c1; have YL := Lib.hid (show y < w1.heap.size from cell_lt z0); clear b1)
    | (go_at_call 37; refine (GA.out w1 B1.out).mono ?_; clear GA; rintro e w2 ⟨g, A', C', rfl, b2, r2, o2, e2⟩; have B2 := Lib.hid (B1.out.trans (b2.mono B1.out.size)); have R2 := Lib.hid r2; have O2 := Lib.hid ((Own.below (A := A) B1.out).trans o2); have y0 : w2.cell? ⟨y, 0, none⟩ = some (.string n) := (b2.cell (p := ⟨y, 0, none⟩) YL.out).trans z0; have y1 : w2.cell? ⟨y, 1, none⟩ = some (.slice a m c) := (b2.cell (p := ⟨y, 1, none⟩) YL.out).trans z1; have E2 := Lib.hid (HS2.out C' e2); have HH := Lib.hid (HS.out w2 g A' C' r2 e2); clear b2 r2 o2 e2 z0 z1))
  rw [E2.out] at HH
  have Y2 := Lib.hid (show y < w2.heap.size from cell_lt y0)
  go_upto_region 8 with (first
    | (go_at_call 38; refine HH.out.mono ?_; clear HH; rintro e w3 ⟨rfl, b3⟩; have B3 := Lib.hid (B2.out.trans (b3.mono B2.out.size)); have R3 := Lib.hid (Rdy.below R2.out b3); have O3 := Lib.hid (O2.out.trans (Own.below (A := A') b3)); have x0 : w3.cell? ⟨y, 0, none⟩ = some (.string n) := (b3.cell (p := ⟨y, 0, none⟩) Y2.out).trans y0; have x1 : w3.cell? ⟨y, 1, none⟩ = some (.slice a m c) := (b3.cell (p := ⟨y, 1, none⟩) Y2.out).trans y1; clear b3)
    | (go_at_call 39; refine (OW.out w3 B3.out).mono ?_; clear OW; rintro e w4 ⟨v', rfl, ow, b4⟩; (obtain ⟨a2, c2, rfl⟩ := own_forms2 ow); have OW4 := Lib.hid ow; have B4 := Lib.hid b4; clear ow b4))
  obtain ⟨z, hz⟩ : ∃ z, z = w4.heap.size := ⟨_, rfl⟩
  obtain ⟨W5, hW5⟩ : ∃ W5, W5 = w4.alloc (.cells #[.string n, .slice a2 m c2] 30) := ⟨_, rfl⟩
  have q0 : W5.cell? ⟨z, 0, none⟩ = some (.string n) := by rw [hW5, hz]; exact new_cell _ _ _ 0 _ rfl
  have q1 : W5.cell? ⟨z, 1, none⟩ = some (.slice a2 m c2) := by rw [hW5, hz]; exact new_cell _ _ _ 1 _ rfl
  have b45 : Below w4.heap.size w4 W5 := by rw [hW5]; exact (Below.refl _ w4).alloc (Nat.le_refl _) _
  have B5 := Lib.hid (show Below w3.heap.size w3 W5 from B4.out.trans (b45.mono B4.out.size))
  have OW5 := Lib.hid (show W5.ownsRow w3.heap.size 36 2 (.slice a2 m c2) m (tcs L) from OW4.out.kept (row := none) ⟨b45.os, b45.tape, b45.output, b45.size, fun k hk _ => b45.block k hk⟩ (by
    by_cases e : (Value.slice a2 m c2).ownBlock = none
    · exact .inl e
    · exact .inr e))
  have ZL := Lib.hid (show z < W5.heap.size ∧ w3.heap.size ≤ z from ⟨cell_lt q0, by rw [hz]; exact B4.out.size⟩)
  have B3L := Lib.hid (show B ≤ w3.heap.size from Nat.le_trans HB.out B3.out.size)
  have AG2 := Lib.hid (AG.out w3 W5 g A' C' R3.out B5.out B3L.out a2 c2 OW5.out)
  rw [← hW5, ← hz]
  clear hW5 hz b45 x0 x1
  have KK := Lib.hid (show ∀ w6 A6, Own W5 w6 A' A6 → w6.cell? ⟨z, 0, none⟩ = some (.string n) from fun w6 A6 o => by
    have eb : w6.heap[z]? = W5.heap[z]? := o.1.block z ZL.out.1 (fun ⟨r, _, hr⟩ => by
      have := (R3.out.mem.lt r z hr).2
      have := ZL.out.2
      omega)
    exact (World.cell?_of_block eb).trans q0)
  go_upto_region 9 with (go_at_call 40; refine AG2.out.mono ?_; clear AG2; rintro e w6 ⟨rfl, A6, C6, l6⟩; have L6 := Lib.hid l6; have k0 := KK.out w6 A6 l6.own; clear l6)
  have k0d : w6.drew.cell? ⟨z, 0, none⟩ = some (.string n) := k0
  have PG2 := Lib.hid (PG.out w6.drew _ g A6 C6 (L6.out.mem.below (Below.refl _ w6).drew) (L6.out.idx.trans R3.out.idx) (by have := HN.out; have := HL8.out; omega))
  have FN := Lib.hid (fun w7 mo' (t : Turn w6.drew w7 x 0 (A6 (.mp .G)) mo' (N + 1 + 3 * m + 1) (upd (C6 .G) n (some (pv g)))) => FIN.out w3 W5 w6 w7 g A' A6 C' C6 mo' a2 c2 B3.out R3.out O3.out B5.out OW5.out L6.out (Turn.pre (Below.refl _ w6).drew t ((L6.out.mem.lt _ _ (L6.out.idx.trans R3.out.idx)).2)))
  have KZ := Lib.hid (show ∀ w7 mo' F', Turn w6.drew w7 x 0 (A6 (.mp .G)) mo' (N + 1 + 3 * m + 1) F' → w7.cell? ⟨z, 0, none⟩ = some (.string n) from fun w7 mo' F' t => by
    have eb : w7.heap[z]? = w6.heap[z]? := t.chg.block z (cell_lt k0) (fun e => by
      have h5 := L6.out.own.2
      have : ∀ r, A6 r ≠ some z := fun r hr => by
        rcases h5 r z hr with e' | e'
        · have := (R3.out.mem.lt r z e').2; have := ZL.out.2; omega
        · have := ZL.out.1; omega
      rcases e with e | e
      · exact this .idx (by rw [e]; exact L6.out.idx.trans R3.out.idx)
      · exact this _ e)
    exact (World.cell?_of_block eb).trans k0)
  clear AG FIN PG OW4 KK HS HS2 q0 q1
  go_region_held (fun u => u.cell? ⟨z, 0, none⟩ = some (.string n))
    (first | exact k0d | exact k7)
    (first | (go_at_call 41; refine PG2.out.mono ?_; clear PG2; rintro e w7 ⟨rfl, mo', t7⟩; have k7 := KZ.out w7 mo' _ t7; have FF := Lib.hid (FN.out w7 mo' t7); clear t7))
  go_wp2_with fail
  go_ret2
  exact ⟨rfl, FF.out⟩
end Km
end Go.Proofs.YtalanjhpacjmmaaGreat
