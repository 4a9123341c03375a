import Derived.Test.YtcjfdebjgaohlaaG11
import Derived.Test.YtcjfdebjgaohlaaG05

/- The document's disk: List. SameTexts. -/
namespace Go.Proofs.Ytcjfdebjgaohlaa
open Go.RowKit Go.Maps Go.ChangeMaps Go.MapKept
namespace Yl
open Jb Jm Jd Jw Jx Jn J1 J6 J9 Ya Yb Yc Yd Ye Jh Yf Yg Yh Yi Yj Yk

set_option maxRecDepth 100000
theorem info9 : (Try.prog.info? 9).map (fun i => (i.zero, i.size, i.bytes)) = some (some (.string ⟨#[]⟩), 1, 16) := by kernel_rfl
theorem run_add (w : World) (B : Nat) (v : Value) (n : Nat) (xs : List Value) (hown : w.ownsRow B 9 1 v n xs) (q : Nat) (s : ByteArray) (hc : w.cell? ⟨q, 0, none⟩ = some (.string s)) (hb : n ≤ 2000000000) (hB : B ≤ w.heap.size) (ty : TypeId) :
    ∃ v' w', (Builtin.append_ #[51, 51] ty #[v, .slice (some ⟨q, 0, none⟩) 1 1]).run Try.prog w = .ok v' w' ∧ w'.ownsRow B 9 1 v' (n + 1) (xs ++ [.string s]) ∧ w.grownBy w' v.ownBlock := by
  obtain ⟨i0, hi, hz0, hz1, hz2⟩ := info_parts info9
  obtain ⟨v', w', hrun, r1, r2, _, _⟩ := run_append_own_at (P := Try.prog) w B 51 ty 9 i0 _ 1 16 Try.underlying51 hi hz0 hz1 hz2 rfl (by decide) v _ _ hown ⟨q, 0, none⟩ 1 1 [.string s] rfl (fun j u hj => by
    match j, hj with
    | 0, hj => injection hj with hj; rw [← hj]; exact hc) (fun u hu => by
    obtain rfl : u = .string s := by simpa using hu
    rfl) (by unfold maxLen; omega) (by omega) hB
  exact ⟨v', w', hrun, r1, r2⟩
def nmv (L : List En) : List Value := L.map fun e => .string e.name
theorem nmv_take (L : List En) (k : Nat) (hk : k < L.length) : nmv (L.take (k + 1)) = nmv (L.take k) ++ [.string (L.getD k e0).name] := by
  unfold nmv
  rw [List.take_succ_eq_append_getElem hk, List.map_append]
  simp [List.getD_eq_getElem?_getD, hk]
theorem own9 {w : World} {B n : Nat} {v : Value} {xs : List Value} (h : w.ownsRow B 9 1 v n xs) {k : Nat} (hk : v.ownBlock = some k) : B ≤ k := by
  obtain ⟨_, ⟨rfl, _⟩ | ⟨g, c, cur, rfl, hg, _⟩⟩ := h
  · cases hk
  · cases hk; exact hg
theorem rlist_none (w : World) (T : Nat → Prop) (g : Nat) (t : Dt) (h : Wk w T g t) (hL : t.L = []) (hv : t.fvv = .slice none 0 0) :
    Calls Try.prog 33 #[.pointer (some ⟨g, 0, none⟩)] w fun e w' => e = .returned (.slice none 0 0) ∧ w' = w := by
  have c0 := h.cs.c0
  rw [hv] at c0
  have _hL := hL
  clear h hL _hL hv
  go_enter Try.func33, Try.ntmps33
  go_wp2_with fail
  refine wp_loop_rounds 1 ?_
  rw [rounds_succ]
  go_wp2_with fail
  go_ret
  first | trivial | exact ⟨rfl, rfl⟩
theorem rlist_down (w : World) (T : Nat → Prop) (g : Nat) (t : Dt) (h : Wk w T g t) (hd : t.down = true) (hb : t.L.length ≤ 1000000000) :
    Calls Try.prog 33 #[.pointer (some ⟨g, 0, none⟩)] w fun e w' => e = .returned (.slice none 0 0) ∧ w' = w := by
  rcases row_cases h.row with ⟨hL, hv⟩ | ⟨q, c, hv, hc, hq, hcell⟩
  · exact rlist_none w T g t h hL hv
  have c0 := h.cs.c0
  have c4 := h.cs.c4
  rw [hd] at c4
  rw [hv] at c0
  obtain ⟨n, hn⟩ : ∃ n, n = t.L.length := ⟨_, rfl⟩
  rw [← hn] at c0 hc hb
  clear h hd hv hn hq hcell
  go_enter Try.func33, Try.ntmps33
  go_wp2_with fail
  go_loopw [3, 10] (fun u i wr => ∃ k : Nat, k ≤ n ∧ i = .int .i64 (k : Nat) ∧ u = .slice none 0 0 ∧ wr = w) (fun _ i _ => n - (intOf i).toNat)
  case atStart => exact ⟨0, Nat.zero_le _, rfl, rfl, by first | rfl | trivial⟩
  case round =>
    obtain ⟨k, hk, rfl, rfl, rfl⟩ := hrel
    by_cases hkn : k < n
    · go_wp2_with fail
      go_roundw
      case rel => exact ⟨k + 1, by omega, by go_num, rfl, by first | rfl | trivial⟩
      case measure => simp [intOf]; omega
    · go_wp2_with fail
      go_ret
      first | trivial | exact ⟨rfl, rfl⟩
theorem rlist_up (w : World) (T : Nat → Prop) (g : Nat) (t : Dt) (h : Wk w T g t) (hd : t.down = false) (hb : t.L.length ≤ 1000000000) :
    Calls Try.prog 33 #[.pointer (some ⟨g, 0, none⟩)] w fun e w' => ∃ v, e = .returned v ∧ w'.ownsRow w.heap.size 9 1 v t.L.length (nmv t.L) ∧ Below w.heap.size w w' := by
  rcases row_cases h.row with ⟨hL, hv⟩ | ⟨q, c, hv, hc, hq, hcell⟩
  · refine (rlist_none w T g t h hL hv).mono ?_
    rintro e w' ⟨rfl, rfl⟩
    rw [hL]
    exact ⟨_, rfl, ⟨rfl, .inl ⟨rfl, rfl⟩⟩, Below.refl _ _⟩
  have c0 := h.cs.c0
  have c4 := h.cs.c4
  rw [hd] at c4
  rw [hv] at c0
  have hg := h.lt g h.tg
  obtain ⟨n, hn⟩ : ∃ n, n = t.L.length := ⟨_, rfl⟩
  have HT : Hid (t.L.take n = t.L) := Lib.hid (by rw [hn, List.take_length])
  have HY := Lib.hid (fun (y : World) (hy : Below w.heap.size w y) => (show y.cell? ⟨g, 0, none⟩ = some (.slice (some ⟨q, 0, none⟩) n c) ∧ y.cell? ⟨g, 4, none⟩ = some (.bool false) ∧ ∀ i, i < n → y.cell? ⟨q, i * 3, none⟩ = some (.string (t.L.getD i e0).name) from
    ⟨by rw [hn]; exact (hy.cell (p := ⟨g, 0, none⟩) hg).trans c0, (hy.cell (p := ⟨g, 4, none⟩) hg).trans c4, fun i hi => (hy.cell (p := ⟨q, i * 3, none⟩) hq).trans (hcell i (by omega)).1⟩))
  have HN := Lib.hid hn
  rw [← hn] at hc hb c0 ⊢
  clear h hd hv hn hq hcell hg
  go_enter Try.func33, Try.ntmps33
  go_wp2_with fail
  clear c0 c4
  go_loopw [3, 10] (fun u i wr => ∃ k : Nat, k ≤ n ∧ i = .int .i64 (k : Nat) ∧ wr.ownsRow w.heap.size 9 1 u k (nmv (t.L.take k)) ∧ Below w.heap.size w wr) (fun _ i _ => n - (intOf i).toNat)
  case atStart => exact ⟨0, Nat.zero_le _, rfl, ⟨rfl, .inl ⟨rfl, rfl⟩⟩, Below.refl _ _⟩
  case round =>
    obtain ⟨k, hk, rfl, ho, hbl⟩ := hrel
    obtain ⟨x0, x4, xn⟩ := HY.out wr hbl
    by_cases hkn : k < n
    · have xk := xn k hkn
      obtain ⟨s, hs⟩ : ∃ s, s = (t.L.getD k e0).name := ⟨_, rfl⟩
      have hstep := Lib.hid (show nmv (t.L.take (k + 1)) = nmv (t.L.take k) ++ [.string s] from by rw [hs]; exact nmv_take _ _ (by rw [← HN.out]; exact hkn))
      have ho' : (wr.alloc (.cells #[.string s] 9)).ownsRow w.heap.size 9 1 u3 k (nmv (t.L.take k)) := World.ownsRow.alloc ho _
      obtain ⟨v', w', hr, r1, r2⟩ := run_add (wr.alloc (.cells #[.string s] 9)) w.heap.size u3 k (nmv (t.L.take k)) ho' wr.heap.size s (Go.Joins.cell_of_block (heap_alloc_new _ _) 0) (by omega) (by simp; have := hbl.size; omega) 51
      have hr := Lib.hid hr
      have R1 := Lib.hid r1
      have R2 := Lib.hid (show Below w.heap.size w w' from Below.grown (hbl.alloc hbl.size _) r2 (by simp; have := hbl.size; omega) (fun r hr => (own9 ho' hr)))
      rw [← hs] at xk
      clear hs ho ho' r1 r2 xn
      go_wp2_with (at_builtin; refine Lib.wpList_append_run _ rfl _ _ _ _ rfl _ _ rfl rfl _ _ hr.out ?_)
      go_roundw
      case rel => exact ⟨k + 1, by omega, by go_num, by rw [hstep.out]; exact R1.out, R2.out⟩
      case measure => simp [intOf]; omega
    · have e : k = n := by omega
      have HO := Lib.hid ho
      have HB := Lib.hid hbl
      subst e
      rw [HT.out] at HO
      clear ho hbl xn
      go_wp2_with fail
      go_ret
      exact ⟨_, rfl, HO.out, HB.out⟩
end Yl
end Go.Proofs.Ytcjfdebjgaohlaa

/- The document's disk: Restart. -/
namespace Go.Proofs.Ytcjfdebjgaohlaa
open Go.RowKit Go.Maps Go.ChangeMaps Go.MapKept
namespace Yo
open Jb Jm Jd Jw Jx Jn J1 J2 J6 J9 Ya Yb Yc Yd Ye Jh Yf Yg Yh Yi Yj Yk Yl Yn

/-- Where a restart stands behind k files, j choices taken. -/
structure RI (w : World) (T : Nat → Prop) (g : Nat) (t : Dt) (q0 : Rs) (wr : World) (k j : Nat) (L : List En) : Prop where
  wk : Wk wr T g { t with L := L }
  ns : nsL L = nsL t.L
  len : L.length = t.L.length
  F : (rs q0 ((nsL t.L).take k)).F = lkL L
  ch : (rs q0 ((nsL t.L).take k)).ch = q0.ch.drop j
  jk : j ≤ k
  bd : ∀ e ∈ L, e.bs.length ≤ 140737488355328
  chg : Chg w wr T
theorem RI.drewN {w : World} {T : Nat → Prop} {g : Nat} {t : Dt} {q0 : Rs} {wr : World} {k j : Nat} {L : List En} (h : RI w T g t q0 wr k j L) (m : Nat) : RI w T g t q0 (wr.drewN m) k j L :=
  ⟨h.wk.move (Nat.le_refl _) (fun _ _ => rfl), h.ns, h.len, h.F, h.ch, h.jk, h.bd, h.chg.drewN m⟩
theorem RI.drew {w : World} {T : Nat → Prop} {g : Nat} {t : Dt} {q0 : Rs} {wr : World} {k j : Nat} {L : List En} (h : RI w T g t q0 wr k j L) : RI w T g t q0 wr.drew k j L := h.drewN 1
theorem drop_tail (l : List Nat) (j : Nat) : (l.drop j).tail = l.drop (j + 1) := by rw [List.tail_drop]
theorem nm_at {L : List En} {k : Nat} (h : k < L.length) : nm ((nsL L)[k]'(by simpa [nsL] using h)) = (L.getD k e0).name := by
  have := nsL_getD h
  rw [List.getElem?_eq_getElem (by simpa [nsL] using h)] at this
  injection this with this
  rw [this, nm_name]
theorem RI.step {w : World} {T : Nat → Prop} {g : Nat} {t : Dt} {q0 : Rs} {wr : World} {k j : Nat} {L : List En} (h : RI w T g t q0 wr k j L) (hn : (nsL t.L).Nodup) (hk : k < t.L.length) :
    (rs q0 ((nsL t.L).take (k + 1))) = stp (rs q0 ((nsL t.L).take k)) (L.getD k e0).name.data.toList ∧ (rs q0 ((nsL t.L).take k)).F (nm (L.getD k e0).name.data.toList) = some ((L.getD k e0).bs, (L.getD k e0).syn) := by
  have hkL : k < L.length := by rw [h.len]; exact hk
  have hkn : k < (nsL t.L).length := by simpa [nsL] using hk
  have e : (nsL t.L)[k] = (L.getD k e0).name.data.toList := by
    have := nsL_getD hkL
    rw [h.ns, List.getElem?_eq_getElem hkn] at this
    injection this
  refine ⟨by rw [rs_snoc _ _ _ hkn, e], ?_⟩
  rw [h.F, nm_name]
  exact lk_at (by rw [h.ns]; exact hn) hkL
theorem RI.same {w : World} {T : Nat → Prop} {g q c : Nat} {t : Dt} {q0 : Rs} {wr : World} {k j : Nat} {L : List En} (h : RI w T g t q0 wr k j L) (hn : (nsL t.L).Nodup) (hk : k < t.L.length) (hv : t.fvv = .slice (some ⟨q, 0, none⟩) t.L.length c)
    (hs : (L.getD k e0).bs.length = (L.getD k e0).syn) : ∃ L', RI w T g t q0 (wr.setCell ⟨q, k * 3 + 2, none⟩ (.int .i64 ((L.getD k e0).bs.length : Nat))) (k + 1) j L' := by
  have hkL : k < L.length := by rw [h.len]; exact hk
  obtain ⟨e1, e2⟩ := h.step hn hk
  obtain ⟨s1, s2, s3, s4⟩ := h.wk.ent _ (mem_getD hkL)
  have hv1 : ({ t with L := L } : Dt).fvv = .slice (some ⟨q, 0, none⟩) ({ t with L := L } : Dt).L.length c := by show t.fvv = .slice _ L.length c; rw [h.len]; exact hv
  obtain ⟨hTq, hqg⟩ := h.wk.rb q (by rw [hv1]; rfl)
  have hro := h.wk.row
  rw [hv1] at hro
  have hro1 := (hro.stored (k * 3 + 2) (.int .i64 ((L.getD k e0).bs.length : Nat))).1
  rw [ecs_set2 _ k _ hkL, ← hv1] at hro1
  have k3 := Wk.turn h.wk hv1 hkL (w' := wr.setCell ⟨q, k * 3 + 2, none⟩ (.int .i64 ((L.getD k e0).bs.length : Nat))) (bv' := (L.getD k e0).bv) (bs' := (L.getD k e0).bs) (k' := (L.getD k e0).bs.length) (T' := T) (by simp) (heap_setCell_ne (fun e => hqg e.symm)) hro1 (fun k hk => heap_setCell_ne hk) (fun _ hk => hk) h.wk.lt s1 s2 s3 (Nat.le_refl _)
  have st := stp_same e2 hs
  have hN : (nsL L).Nodup := by rw [h.ns]; exact hn
  refine ⟨_, k3, ?_, by simpa using h.len, ?_, ?_, Nat.le_succ_of_le h.jk, fun e he => ?_, h.chg.setCell hTq _⟩
  · show nsL (L.set k _) = _
    rw [ns_set hkL]; exact h.ns
  · rw [e1, st, h.F]
    show _ = lkL (L.set k _)
    rw [lk_set hN hkL]
    funext s
    by_cases hsn : s = (L.getD k e0).name
    · rw [hsn, upd_same, lk_at hN hkL, hs]
    · rw [upd_other hsn]
  · rw [e1, st]; exact h.ch
  · rcases List.mem_or_eq_of_mem_set he with he | he
    · exact h.bd e he
    · rw [he]
      show (L.getD k e0).bs.length ≤ _
      exact h.bd (L.getD k e0) (mem_getD hkL)
theorem RI.cut {w : World} {T : Nat → Prop} {g q c : Nat} {t : Dt} {q0 : Rs} {wr : World} {k j : Nat} {L : List En} (h : RI w T g t q0 wr k j L) (hn : (nsL t.L).Nodup) (hk : k < t.L.length) (hv : t.fvv = .slice (some ⟨q, 0, none⟩) t.L.length c)
    (hs : (L.getD k e0).bs.length ≠ (L.getD k e0).syn) {ea : Option Addr} {ec m : Nat} (he : (L.getD k e0).bv = .slice ea (L.getD k e0).bs.length ec) (hm : m = stays ((L.getD k e0).bs, (L.getD k e0).syn) (q0.ch.drop j)) :
    ∃ L', RI w T g t q0 ((wr.setCell ⟨q, k * 3 + 1, none⟩ (.slice ea m ec)).setCell ⟨q, k * 3 + 2, none⟩ (.int .i64 (m : Nat))) (k + 1) (j + 1) L' := by
  have hkL : k < L.length := by rw [h.len]; exact hk
  obtain ⟨e1, e2⟩ := h.step hn hk
  obtain ⟨s1, s2, s3, s4⟩ := h.wk.ent _ (mem_getD hkL)
  have hml : m ≤ (L.getD k e0).bs.length := by rw [hm]; exact stays_le _ _ s4
  have hv1 : ({ t with L := L } : Dt).fvv = .slice (some ⟨q, 0, none⟩) ({ t with L := L } : Dt).L.length c := by show t.fvv = .slice _ L.length c; rw [h.len]; exact hv
  obtain ⟨hTq, hqg⟩ := h.wk.rb q (by rw [hv1]; rfl)
  have hro := h.wk.row
  rw [hv1] at hro
  have hro1 := (hro.stored (k * 3 + 1) (.slice ea m ec)).1
  have hro2 := (hro1.stored (k * 3 + 2) (.int .i64 (m : Nat))).1
  rw [ecs_set _ k _ ((L.getD k e0).bs.take m) _ hkL, ← hv1] at hro2
  have s1' := s1
  have s2' := s2
  change Src wr _ (L.getD k e0).bv (L.getD k e0).bs at s1'
  rw [he] at s1'
  change ∀ c, (L.getD k e0).bv = .slice none (L.getD k e0).bs.length c → c = 0 at s2'
  rw [he] at s2'
  have k3 := Wk.turn h.wk hv1 hkL (w' := (wr.setCell ⟨q, k * 3 + 1, none⟩ (.slice ea m ec)).setCell ⟨q, k * 3 + 2, none⟩ (.int .i64 (m : Nat))) (bv' := .slice ea m ec) (bs' := (L.getD k e0).bs.take m) (k' := m) (T' := T) (by simp) ((heap_setCell_ne (fun e => hqg e.symm)).trans (heap_setCell_ne (fun e => hqg e.symm))) hro2 (fun k hk => (heap_setCell_ne hk).trans (heap_setCell_ne hk)) (fun _ hk => hk) h.wk.lt (src_take s1' m hml)
    (fun c' e => by injection e with e1 e2 e3; have := s2' ec (by rw [e1]); omega) (fun x hx => s3 x (List.mem_of_mem_take hx)) (by rw [List.length_take]; show m ≤ min m (L.getD k e0).bs.length; omega)
  have st := stp_cut e2 hs
  rw [h.ch, ← hm] at st
  have hN : (nsL L).Nodup := by rw [h.ns]; exact hn
  refine ⟨_, k3, ?_, by simpa using h.len, ?_, ?_, Nat.succ_le_succ h.jk, fun e he => ?_, (h.chg.setCell hTq _).setCell hTq _⟩
  · show nsL (L.set k _) = _
    rw [ns_set hkL]; exact h.ns
  · rw [e1, st, h.F]
    show _ = lkL (L.set k _)
    rw [lk_set hN hkL, nm_name]
  · rw [e1, st]
    exact drop_tail _ _
  · rcases List.mem_or_eq_of_mem_set he with he | he
    · exact h.bd e he
    · rw [he]
      show ((L.getD k e0).bs.take m).length ≤ _
      have := h.bd _ (mem_getD hkL)
      rw [List.length_take]
      omega
set_option maxRecDepth 100000
set_option maxHeartbeats 4000000 in
theorem rres_row (w : World) (T : Nat → Prop) (g : Nat) (t : Dt) (h : Wk w T g t) (hb : t.L.length ≤ 1000000000) (hn : (nsL t.L).Nodup) (hbd : ∀ e ∈ t.L, e.bs.length ≤ 140737488355328) (R : Nat → Prop) (hR : ∀ k, R k → ¬ T k ∧ k < w.heap.size)
    (v : Value) (ch : List Nat) (hs : Src w R v ch) (hby : ∀ x ∈ ch, x < 256) (hlc : ch.length ≤ 140737488355328) (U q c : Nat) (hv : t.fvv = .slice (some ⟨q, 0, none⟩) t.L.length c) (hc : t.L.length ≤ c) :
    Calls Try.prog 25 #[.pointer (some ⟨g, 0, none⟩), v] w fun e w' => e = .returned (.tuple #[]) ∧
      (∃ L', Wk w' T g { t with L := L', lit := false, down := false } ∧ nsL L' = nsL t.L ∧ lkL L' = (rs ⟨lkL t.L, U, ch⟩ (nsL t.L)).F) ∧ Chg w w' T := by
  obtain ⟨va, vc, hvf⟩ := hs.forms
  obtain ⟨q0, hq0⟩ : ∃ q0, q0 = Rs.mk (lkL t.L) U ch := ⟨_, rfl⟩
  have hqc : q0.ch = ch := by rw [hq0]
  have RI0 : Hid (RI w T g t q0 w 0 0 t.L) := Lib.hid ⟨h, rfl, rfl, by rw [hq0]; rfl, by rw [hq0]; rfl, Nat.le_refl _, hbd, Chg.refl _ _⟩
  obtain ⟨N, hN⟩ : ∃ N, N = ch.length := ⟨_, rfl⟩
  obtain ⟨n, hnn⟩ : ∃ n, n = t.L.length := ⟨_, rfl⟩
  have CH := Lib.hid (fun wr (cx : Chg w wr T) j (hj : j < N) => (show ∃ b off, va = some ⟨b, off, none⟩ ∧ N ≤ vc ∧ wr.cell? ⟨b, off + j, none⟩ = some (.int .u8 (Jb.g ch j : Nat)) ∧ Jb.g ch j < 256 from by
    have hs' : Src wr R v ch := hs.move fun k hk hkl => cx.block k hkl (hR k hk).1
    rcases hs' with ⟨e, _⟩ | ⟨_, b, off, c', e, hcc, _, hcell⟩
    · rw [e] at hN; simp at hN; omega
    · rw [hvf] at e
      injection e with e1 e2 e3
      refine ⟨b, off, e1, by omega, hcell j (by omega), ?_⟩
      have : Jb.g ch j ∈ ch := by
        unfold Jb.g
        rw [List.getD_eq_getElem?_getD, List.getElem?_eq_getElem (by omega)]
        exact List.getElem_mem _
      exact hby _ this))
  have AT := Lib.hid (fun wr k j L (r : RI w T g t q0 wr k j L) => (show wr.cell? ⟨g, 0, none⟩ = some (.slice (some ⟨q, 0, none⟩) n c) ∧ wr.cell? ⟨g, 4, none⟩ = some (.bool t.down) ∧ wr.cell? ⟨g, 2, none⟩ = some (.bool t.lit) ∧ (∀ i, wr.frozen? ⟨g, i, none⟩ = false) ∧
      (k < n → ∃ ea l ec K, l = (L.getD k e0).bs.length ∧ K = (L.getD k e0).syn ∧ (L.getD k e0).bv = .slice ea l ec ∧ K ≤ l ∧ l ≤ ec ∧ l ≤ 140737488355328 ∧ wr.cell? ⟨q, k * 3 + 1, none⟩ = some (.slice ea l ec) ∧ wr.cell? ⟨q, k * 3 + 2, none⟩ = some (.int .i64 (K : Nat)) ∧ (∀ i, wr.frozen? ⟨q, i, none⟩ = false)) from by
    have hv1 : ({ t with L := L } : Dt).fvv = .slice (some ⟨q, 0, none⟩) ({ t with L := L } : Dt).L.length c := by show t.fvv = .slice _ L.length c; rw [r.len]; exact hv
    have c0 := r.wk.cs.c0
    rw [hv1] at c0
    refine ⟨by rw [hnn, ← r.len]; exact c0, r.wk.cs.c4, r.wk.cs.c2, r.wk.cs.z, fun hk => ?_⟩
    have hkL : k < L.length := by rw [r.len]; omega
    obtain ⟨s1, s2, s3, s4⟩ := r.wk.ent _ (mem_getD hkL)
    obtain ⟨ea, ec, he⟩ := s1.forms
    have hle : (L.getD k e0).bs.length ≤ ec := by
      change Src wr _ (L.getD k e0).bv (L.getD k e0).bs at s1
      change (L.getD k e0).bv = _ at he
      rw [he] at s1
      rcases s1 with ⟨e1, _⟩ | ⟨_, b', off', c', e, hcc, _⟩
      · rw [e1]; simp
      · injection e with e1 e2 e3; omega
    rcases row_at r.wk.row with ⟨hL0, _⟩ | ⟨q', c', hv', _, _, _, hz, hcell⟩
    · change L = [] at hL0
      rw [hL0] at hkL; simp at hkL
    · rw [hv1] at hv'
      injection hv' with e1 e2 e3
      injection e1 with e1
      injection e1 with e1
      subst e1
      obtain ⟨_, x2, x3⟩ := hcell k hkL
      refine ⟨ea, _, ec, _, rfl, rfl, he, s4, hle, r.bd _ (mem_getD hkL), ?_, x3, hz⟩
      rw [← he]; exact x2))
  have SAME := Lib.hid (fun wr k j L (r : RI w T g t q0 wr k j L) (hk : k < n) => r.same hn (by omega) hv)
  have CUTS := Lib.hid (fun wr k j L (r : RI w T g t q0 wr k j L) (hk : k < n) hs ea ec m he hm => r.cut hn (by omega) hv hs (ea := ea) (ec := ec) (m := m) he hm)
  have DONE := Lib.hid (fun wr j L (r : RI w T g t q0 wr n j L) => (show (∃ L', Wk ((wr.setCell ⟨g, 4, none⟩ (.bool false)).setCell ⟨g, 2, none⟩ (.bool false)) T g { t with L := L', lit := false, down := false } ∧ nsL L' = nsL t.L ∧ lkL L' = (rs q0 (nsL t.L)).F) ∧ Chg w ((wr.setCell ⟨g, 4, none⟩ (.bool false)).setCell ⟨g, 2, none⟩ (.bool false)) T from by
    have tg := r.wk.tg
    have s4 := r.wk.cs.set4 false
    have s5 : Wc ((wr.setCell ⟨g, 4, none⟩ (.bool false)).setCell ⟨g, 2, none⟩ (.bool false)) g { t with L := L, lit := false, down := false } :=
      ⟨(cell_other (by simp)).trans s4.c0, (cell_other (by simp)).trans s4.c1, cell_same s4.c2, (cell_other (by simp)).trans s4.c3, (cell_other (by simp)).trans s4.c4, fun i => by simpa using s4.z i, s4.br, s4.bf, fun e => by cases e⟩
    have ck : Chg wr ((wr.setCell ⟨g, 4, none⟩ (.bool false)).setCell ⟨g, 2, none⟩ (.bool false)) (fun k => k = g) := ((Chg.refl wr (fun k => k = g)).setCell rfl _).setCell rfl _
    refine ⟨⟨L, Wk.nums r.wk ck s5 rfl rfl, r.ns, ?_⟩, r.chg.trans ck fun k hk _ => hk ▸ tg⟩
    have := r.F
    rw [List.take_of_length_le (by rw [hnn]; simp [nsL])] at this
    exact this.symm))
  rw [hvf, ← hN, ← hq0]
  rw [← hnn] at hb hc
  have HQ := Lib.hid hqc
  have HNN := Lib.hid (And.intro hN hnn)
  rw [← hN] at hlc
  clear h hn hbd hR hs hby hv hvf hq0 hqc hN hnn
  obtain ⟨d0, _⟩ := AT.out w 0 0 _ RI0.out
  go_enter Try.func25, Try.ntmps25
  go_wp2_with fail
  clear d0
  go_loopw [4, 14] (fun x i wr => ∃ k j : Nat, k ≤ n ∧ i = .int .i64 (k : Nat) ∧ x = .int .i64 (j : Nat) ∧ ∃ L, RI w T g t q0 wr k j L) (fun _ i _ => n - (intOf i).toNat)
  case atStart => exact ⟨0, 0, Nat.zero_le _, rfl, rfl, _, RI0.out⟩
  case round =>
    obtain ⟨k, j, hk, rfl, rfl, L, r⟩ := hrel
    obtain ⟨x0, x4, x2, xz, xk⟩ := AT.out wr k j L r
    have hjk := r.jk
    by_cases hkn : k < n
    · obtain ⟨ea, l, ec, K, hl, hK, he, hKl, hle, hlb, y1, y2, yz⟩ := xk hkn
      have hk0 : (0 : Int) ≤ (k : Int) := by omega
      obtain ⟨u, hu⟩ : ∃ u, u = l - K := ⟨_, rfl⟩
      have hwu : IntKind.i64.wrap ((l : Int) - (K : Nat)) = (u : Int) := by rw [IntKind.wrap_i64]; omega
      have RR := Lib.hid r
      have HH := Lib.hid (And.intro hl (And.intro hK (And.intro he hu)))
      clear r hl hK he hu x4 x2 xk
      have hmu : stays ((L.getD k e0).bs, (L.getD k e0).syn) (q0.ch.drop j) = K + (q0.ch.drop j).headD 0 % (u + 1) := by
        unfold stays
        rw [HH.out.2.2.2, HH.out.1, HH.out.2.1]
      have HMU := Lib.hid hmu
      clear hmu
      by_cases hu0 : 0 < u
      · have hwp : IntKind.i64.wrap ((u : Int) + 1) = (u : Int) + 1 := by have := HH.out.2.2.2; rw [IntKind.wrap_i64]; omega
        by_cases hj : j < N
        · obtain ⟨b, off, hva, hNc, hcell, h256⟩ := CH.out wr RR.out.chg j hj
          subst hva
          have hhd : (q0.ch.drop j).headD 0 = Jb.g ch j := by
            rw [HQ.out]
            unfold Jb.g
            rw [List.headD_eq_head?_getD, List.head?_drop, List.getD_eq_getElem?_getD]
          obtain ⟨y, hy⟩ : ∃ y, y = Jb.g ch j := ⟨_, rfl⟩
          rw [← hy] at hcell h256 hhd
          obtain ⟨C2, hC2⟩ : ∃ C2, C2 = y % (u + 1) := ⟨_, rfl⟩
          obtain ⟨m, hm⟩ : ∃ m, m = K + C2 := ⟨_, rfl⟩
          have hC2l : C2 < u + 1 := by rw [hC2]; exact Nat.mod_lt _ (by omega)
          have hml : m ≤ ec := by have := HH.out.2.2.2; omega
          have hr1 : ((y : Int)).tmod ((u : Int) + 1) = (C2 : Int) := by
            rw [hC2, Int.tmod_eq_emod_of_nonneg (by omega), Int.natCast_emod]
            norm_cast
          have hr2 : IntKind.i64.wrap ((K : Int) + (C2 : Nat)) = (m : Int) := by have := HH.out.2.2.2; rw [IntKind.wrap_i64]; omega
          have hwy : IntKind.i64.wrap (y : Int) = (y : Int) := by rw [IntKind.wrap_i64]; omega
          have hwj : IntKind.i64.wrap ((j : Int) + 1) = ((j + 1 : Nat) : Int) := by rw [IntKind.wrap_i64]; omega
          have hj0 : (0 : Int) ≤ (j : Int) := by omega
          have STEP := Lib.hid (fun (wy : World) (ry : RI w T g t q0 wy k j L) => CUTS.out wy k j L ry hkn (by have := HH.out; omega) ea ec m (by rw [← HH.out.1]; exact HH.out.2.2.1) (by rw [HMU.out, hhd, hm, hC2]))
          clear hy hC2 hm hC2l hhd
          go_upto_region 5 with (fail)
          go_quiet (fail)
          go_upto_region 11 with (fail)
          go_region
          all_goals
            go_wp2_with fail
            go_roundw
            case rel => exact ⟨k + 1, j + 1, by omega, by go_num, by go_num, STEP.out _ (RR.out.drewN (nq + 1))⟩
            case measure => simp [intOf]; omega
        · have hhd : (q0.ch.drop j).headD 0 = 0 := by
            rw [HQ.out, List.drop_eq_nil_iff.2 (by have := HNN.out.1; omega)]
            rfl
          have hml : K ≤ ec := by omega
          have hr1 : (0 : Int).tmod ((u : Int) + 1) = 0 := by simp
          have hr2 : IntKind.i64.wrap (K : Int) = (K : Int) := by rw [IntKind.wrap_i64]; omega
          have hwj : IntKind.i64.wrap ((j : Int) + 1) = ((j + 1 : Nat) : Int) := by rw [IntKind.wrap_i64]; omega
          have STEP := Lib.hid (fun (wy : World) (ry : RI w T g t q0 wy k j L) => CUTS.out wy k j L ry hkn (by have := HH.out; omega) ea ec K (by rw [← HH.out.1]; exact HH.out.2.2.1) (by rw [HMU.out, hhd]; simp))
          clear hhd
          go_upto_region 5 with (fail)
          go_quiet (fail)
          go_upto_region 11 with (fail)
          go_region
          all_goals
            go_wp2_with fail
            go_roundw
            case rel => exact ⟨k + 1, j + 1, by omega, by go_num, by go_num, STEP.out _ (RR.out.drewN (nq + 1))⟩
            case measure => simp [intOf]; omega
      · have hu0' : u = 0 := by omega
        have hwu0 : IntKind.i64.wrap ((l : Int) - (K : Nat)) = 0 := by rw [hwu, hu0']; rfl
        have hlk := Lib.hid (show (L.getD k e0).bs.length = (L.getD k e0).syn from by have := HH.out; omega)
        clear hwu hu0' hu0
        go_upto_region 5 with (fail)
        go_quiet (fail)
        go_wp2_with fail
        go_roundw
        case rel =>
          have r2 := SAME.out _ k j L (RR.out.drewN nq) hkn hlk.out
          rw [← HH.out.1] at r2
          exact ⟨k + 1, j, by omega, by go_num, rfl, r2⟩
        case measure => simp [intOf]; omega
    · have e : k = n := by omega
      have RR := Lib.hid r
      subst e
      clear r xk
      go_wp2_with fail
      refine bodyPost_end (v := .tuple #[]) (by simp [results, Try.results25, go_sem]) rfl ⟨rfl, DONE.out _ _ _ RR.out⟩
theorem rres_none (w : World) (T : Nat → Prop) (g : Nat) (t : Dt) (h : Wk w T g t) (hL : t.L = []) (hv : t.fvv = .slice none 0 0) (v : Value) :
    Calls Try.prog 25 #[.pointer (some ⟨g, 0, none⟩), v] w fun e w' => e = .returned (.tuple #[]) ∧ Wk w' T g { t with lit := false, down := false } ∧ Chg w w' T := by
  have DONE := Lib.hid (show Wk ((w.setCell ⟨g, 4, none⟩ (.bool false)).setCell ⟨g, 2, none⟩ (.bool false)) T g { t with lit := false, down := false } ∧ Chg w ((w.setCell ⟨g, 4, none⟩ (.bool false)).setCell ⟨g, 2, none⟩ (.bool false)) T from by
    have tg := h.tg
    have s4 := h.cs.set4 false
    have s5 : Wc ((w.setCell ⟨g, 4, none⟩ (.bool false)).setCell ⟨g, 2, none⟩ (.bool false)) g { t with lit := false, down := false } :=
      ⟨(cell_other (by simp)).trans s4.c0, (cell_other (by simp)).trans s4.c1, cell_same s4.c2, (cell_other (by simp)).trans s4.c3, (cell_other (by simp)).trans s4.c4, fun i => by simpa using s4.z i, s4.br, s4.bf, fun e => by cases e⟩
    have ck : Chg w ((w.setCell ⟨g, 4, none⟩ (.bool false)).setCell ⟨g, 2, none⟩ (.bool false)) (fun k => k = g) := ((Chg.refl w (fun k => k = g)).setCell rfl _).setCell rfl _
    exact ⟨Wk.nums h ck s5 rfl rfl, ck.imp fun k hk _ => hk ▸ tg⟩)
  have c0 := h.cs.c0
  have c2 := h.cs.c2
  have c4 := h.cs.c4
  have z := h.cs.z
  rw [hv] at c0
  have _hL := hL
  clear h hL _hL hv
  go_enter Try.func25, Try.ntmps25
  go_wp2_with fail
  refine wp_loop_rounds 1 ?_
  rw [rounds_succ]
  go_wp2_with fail
  refine bodyPost_end (v := .tuple #[]) (by simp [results, Try.results25, go_sem]) rfl ⟨rfl, DONE.out⟩
theorem rres25 (w : World) (T : Nat → Prop) (g : Nat) (t : Dt) (h : Wk w T g t) (hb : t.L.length ≤ 1000000000) (hn : (nsL t.L).Nodup) (hbd : ∀ e ∈ t.L, e.bs.length ≤ 140737488355328) (R : Nat → Prop) (hR : ∀ k, R k → ¬ T k ∧ k < w.heap.size)
    (v : Value) (ch : List Nat) (hs : Src w R v ch) (hby : ∀ x ∈ ch, x < 256) (hlc : ch.length ≤ 140737488355328) (U : Nat) :
    Calls Try.prog 25 #[.pointer (some ⟨g, 0, none⟩), v] w fun e w' => e = .returned (.tuple #[]) ∧
      (∃ L', Wk w' T g { t with L := L', lit := false, down := false } ∧ nsL L' = nsL t.L ∧ lkL L' = (rs ⟨lkL t.L, U, ch⟩ (nsL t.L)).F) ∧ Chg w w' T := by
  rcases row_cases h.row with ⟨hL, hv⟩ | ⟨q, c, hv, hc, _, _⟩
  · refine (rres_none w T g t h hL hv v).mono ?_
    rintro e w' ⟨e1, k, c⟩
    refine ⟨e1, ⟨t.L, k, rfl, ?_⟩, c⟩
    rw [hL]
    rfl
  · exact rres_row w T g t h hb hn hbd R hR v ch hs hby hlc U q c hv hc
end Yo
end Go.Proofs.Ytcjfdebjgaohlaa

/- The disk's Rename, where it is done. -/
namespace Go.Proofs.Ytcjfdebjgaohlaa
open Go.RowKit Go.Maps Go.ChangeMaps Go.MapKept
namespace Jr
open Jb Jm Jd Jw Jx Jn Je Jf Jg Jh Jk Jc Jl Jo Jq

def ol (d : St) (t : ByteArray) : Nat := ((d.F t).map fun f => f.bs.length).getD 0
theorem drop_any (w : World) (S : Nat → Prop) (g N : Nat) (d : St) (h : Dk w S g N d) (t : ByteArray) (ht : t.size ≤ 140737488355328) (hu : ol d t ≤ d.used) :
    Calls Try.prog 43 #[.pointer (some ⟨g, 0, none⟩), .string t] w fun e w' => e = .returned (.tuple #[]) ∧ Dk w' (New S w w') g N { d with F := fun x => if x = t then none else d.F x, used := d.used - ol d t } ∧ Chg w w' S := by
  cases hF : d.F t with
  | none =>
    refine (drop_none w S g N d h t ht hF).mono ?_
    rintro e w' ⟨rfl, rfl⟩
    refine ⟨rfl, ?_, Chg.refl _ _⟩
    have e1 : ({ d with F := fun x => if x = t then none else d.F x, used := d.used - ol d t } : St) = d := by
      have a : ol d t = 0 := by unfold ol; rw [hF]; rfl
      rw [a, Nat.sub_zero]
      have b : (fun x => if x = t then none else d.F x) = d.F := by
        funext x
        by_cases e : x = t
        · rw [if_pos e, e, hF]
        · rw [if_neg e]
      rw [b]
    rw [e1]
    exact Dk.new h
  | some f =>
    have e : ol d t = f.bs.length := by unfold ol; rw [hF]; rfl
    rw [e] at hu ⊢
    exact drop_some w S g N d h t ht f hF hu
theorem ol_op (d : St) (t : ByteArray) : ol (opD d) t = ol d t := by unfold ol; rw [opD_F]
theorem nm64 {t : ByteArray} (h : isNm t = true) : t.size ≤ 64 := by unfold isNm at h; exact (of_decide_eq_true h).2.1
theorem beq_no {s t : ByteArray} (h : s ≠ t) : (s.toList == t.toList) = false := by
  cases e : (s.toList == t.toList)
  · rfl
  · exfalso
    have e2 : s.toList = t.toList := by simpa using e
    rw [ByteArray.toList_eq, ByteArray.toList_eq] at e2
    exact h (ByteArray.ext (Array.toList_inj.1 e2))
set_option maxRecDepth 100000 in
theorem rename_on (w : World) (S : Nat → Prop) (g N : Nat) (d : St) (h : Dk w S g N d) (s t : ByteArray) (hs : s.size ≤ 64) (ht : isNm t = true) (f : Fi) (hd : d.down = false) (hF : d.F s = some f) (hl : (vw d).lost = false) (hst : s ≠ t) (hu : ol d t ≤ d.used) (hN : N ≤ 140737488353000) :
    Calls Try.prog 15 #[.pointer (some ⟨g, 0, none⟩), .string s, .string t] w fun e w' => e = .returned (.int .i64 0) ∧ ∃ d', vw d' = { (vw d).op with F := fun x => if x = t then some (ab f) else if x = s then none else (vw d).F x, used := d.used - ol d t } ∧ Dk w' (New S w w') g (N + 1) d' ∧ Chg w w' S := by
  have ht64 := nm64 ht
  have FS := Lib.hid (find42_some w S g N s (by unfold maxLen; omega) d h hd f hF)
  have O := Lib.hid (op_on w S g N d h hl)
  have I := isName39 w t (by omega)
  rw [ht] at I
  replace I := Lib.hid I
  have DR := Lib.hid (fun w1 (k : Dk w1 S g N (opD d)) => drop_any w1 S g N (opD d) k t (by omega) (by rw [opD_used, ol_op]; exact hu))
  have HCL := Lib.hid (fun X => clone47 X t (by omega))
  have MID : Hid (∀ w1 w2, Dk w1 S g N (opD d) → Chg w w1 S → Dk w2 (New S w1 w2) g N { opD d with F := fun x => if x = t then none else (opD d).F x, used := (opD d).used - ol (opD d) t } → Chg w1 w2 S →
      ∃ m w3, w2.cell? ⟨g, 0, none⟩ = some (.map (some m)) ∧ (∀ ty, (Builtin.delete_ #[39, 9] ty #[.map (some m), .string s]).run Try.prog w2 = .ok (.tuple #[]) w3) ∧ w3.drew.cell? ⟨g, 0, none⟩ = some (.map (some m)) ∧
        ∀ x, Below w3.heap.size w3.drew x → ∃ w9, (Instr.mapUpdate 39 (.map (some m)) (.string t) (.pointer (some ⟨f.blk, 0, none⟩))).run Try.prog x = .ok () w9 ∧
          (∃ d', vw d' = { (vw d).op with F := fun x => if x = t then some (ab f) else if x = s then none else (vw d).F x, used := d.used - ol d t } ∧ Dk w9 (New S w w9) g (N + 1) d' ∧ Chg w w9 S) ∧
          x.cell? ⟨g, 0, none⟩ = some (.map (some m)) ∧ w9.cell? ⟨g, 0, none⟩ = some (.map (some m))) := Lib.hid fun w1 w2 k1 c1 k2 c2 => by
    have hz1 := c1.size
    have hz2 := c2.size
    have f2 : ({ opD d with F := fun x => if x = t then none else (opD d).F x, used := (opD d).used - ol (opD d) t } : St).F s = some f := by
      show (if s = t then none else (opD d).F s) = some f
      rw [if_neg hst, opD_F]; exact hF
    generalize hd2 : ({ opD d with F := fun x => if x = t then none else (opD d).F x, used := (opD d).used - ol (opD d) t } : St) = d2 at k2 f2
    rcases k2.fv with ⟨_, b⟩ | ⟨m, hfv, hSm, hmg, hi⟩
    · rw [b s] at f2; cases f2
    obtain ⟨w3, hdel, hi3, ht3⟩ := hi.del (s := s) (by unfold maxLen; omega)
    have g2 : g < w2.heap.size := k2.lt g k2.sg
    have m2 : m < w2.heap.size := k2.lt m hSm
    have s3 := mt_size ht3
    have cg2 : w2.cell? ⟨g, 0, none⟩ = some (.map (some m)) := by rw [← hfv]; exact k2.cs.c0
    have cg3 : w3.cell? ⟨g, 0, none⟩ = some (.map (some m)) := (World.cell?_of_block (mt_block ht3 hmg.symm)).trans cg2
    refine ⟨m, w3, cg2, hdel, cg3, fun x hx => ?_⟩
    have hx' : Below w3.heap.size w3 x := ⟨hx.os, hx.tape, hx.output, hx.size, hx.block⟩
    have sx := hx'.size
    obtain ⟨w9, r9, j9, t9⟩ := (hi3.of_block (hx'.block m (by omega))).put (s := t) (b := f.blk) ht64 (by omega)
    have s9 := mt_size t9
    have old : ∀ k, k < w2.heap.size → k ≠ m → w9.heap[k]? = w2.heap[k]? := fun k hk hm => (mt_block t9 hm).trans ((hx'.block k (by omega)).trans (mt_block ht3 hm))
    have c9 := k2.cs.of_block (old g g2 hmg.symm)
    have K := k2.map (w' := w9) (N' := N + 1) (m := m) (d' := { d2 with F := fun y => if y = t then some f else if y = s then none else d2.F y }) (by omega)
      ⟨c9.c0, c9.c1, c9.c2, c9.c3, c9.c4, c9.c5, c9.z, c9.bu, c9.br, c9.bf⟩ hfv (.inl hfv)
      (j9.ext fun y => by
        dsimp only
        by_cases e : y = t
        · rw [if_pos e, if_pos e]; rfl
        · rw [if_neg e, if_neg e]
          by_cases e' : y = s
          · rw [if_pos e', if_pos e']; rfl
          · rw [if_neg e', if_neg e'])
      (fun k hk hg hm => old k (k2.lt k hk) (fun e => hm (by rw [hfv, e])))
      (fun y z hz => by
        dsimp only at hz
        split at hz
        · cases hz; exact .inl ⟨s, f2⟩
        · split at hz
          · cases hz
          · exact .inl ⟨y, hz⟩)
      (fun y y' z z' hn hz hz' => by
        dsimp only at hz hz'
        split at hz
        · cases hz
          split at hz'
          · exact absurd (by simp_all) hn
          · split at hz'
            · cases hz'
            · rename_i e1 e2
              exact .inl ⟨s, y', fun e => e2 e.symm, f2, hz'⟩
        · split at hz
          · cases hz
          · rename_i e1 e2
            split at hz'
            · cases hz'
              exact .inl ⟨y, s, e2, hz, f2⟩
            · split at hz'
              · cases hz'
              · exact .inl ⟨y, y', hn, hz, hz'⟩)
    have c29 : Chg w2 w9 (New S w1 w2) := by
      have a : Chg w2 w3 (New S w1 w2) := Chg.turned (Chg.refl w2 _) hSm ht3
      have b : Chg w3 x (New S w1 w2) := Chg.of_below hx' (Nat.le_refl _) _
      have c : Chg x w9 (New S w1 w2) := Chg.turned (Chg.refl x _) hSm t9
      exact (a.trans b fun k hk _ => hk).trans c fun k hk _ => hk
    have c19 : Chg w1 w9 S := c2.trans c29 fun k hk hl => hk.elim id fun e => by omega
    refine ⟨w9, r9, ⟨_, ?_, Dk.wide (K.set (S' := New S w1 w9) (fun k hk => ?_) (fun k hk => ?_)) c1 h.lt c19.size, c1.trans c19 fun k hk _ => hk⟩, (World.cell?_of_block (hx'.block g (by omega))).trans cg3, ?_⟩
    · subst hd2
      have e0 := vw_op d
      rw [← e0]
      refine vw_ext (fun y => ?_) ?_ rfl rfl rfl rfl
      · show Option.map ab (if y = t then some f else if y = s then none else if y = t then none else (opD d).F y) = if y = t then some (ab f) else if y = s then none else (vw d).F y
        by_cases e : y = t
        · rw [if_pos e, if_pos e]; rfl
        · simp only [if_neg e]
          by_cases e' : y = s
          · simp only [if_pos e']; rfl
          · simp only [if_neg e', opD_F]; rfl
      · show (opD d).used - ol (opD d) t = d.used - ol d t
        rw [opD_used, ol_op]
    · rcases hk with (hk | hk) | hk
      · exact .inl hk
      · exact .inr ⟨hk.1, by omega⟩
      · exact .inr ⟨by omega, hk.2⟩
    · rcases hk with hk | hk
      · have := k1.lt k hk; omega
      · exact hk.2
    · exact (World.cell?_of_block (old g g2 hmg.symm)).trans cg2
  obtain ⟨b, hb⟩ : ∃ b, b = f.blk := ⟨_, rfl⟩
  rw [← hb] at FS MID
  have hbeq := beq_no hst
  clear h hs hd hF hl hu hN hb hst ht ht64
  go_enter Try.func15, Try.ntmps15
  go_upto_region 13 with (first | (go_at_call 37; refine (FS.out).mono ?_; rintro e w ⟨rfl, rfl⟩) | (go_at_call 34; refine (I.out).mono ?_; rintro e w ⟨rfl, rfl⟩) | (go_at_call 35; refine (O.out).mono ?_; rintro e w1 ⟨rfl, k1, k2⟩; have K1 := Lib.hid k1; have K2 := Lib.hid k2; clear k1 k2) | (go_at_call 43; refine (DR.out w1 K1.out).mono ?_; rintro e w2 ⟨rfl, k3, k4⟩; obtain ⟨m, w3, r1, r2, r3, r4⟩ := MID.out w1 w2 K1.out K2.out k3 k4; have R4 := Lib.hid r4; clear k3 k4 r4) | (at_delete; refine wpList_del rfl _ _ rfl _ _ rfl rfl r2 ?_))
  clear r1 r2
  go_region_held (fun x => x.cell? ⟨g, 0, none⟩ = some (.map (some m)))
    (first | exact r3 | exact k9 | exact j9)
    (first | (go_at_call 44; refine (HCL.out _).mono ?_; rintro e x9 ⟨rfl, hx9⟩; obtain ⟨w9, r9, p9, j9, k9⟩ := R4.out x9 hx9; have P9 := Lib.hid p9; clear hx9 p9))
  go_wp2_with fail
  go_ret
  exact ⟨rfl, P9.out⟩
end Jr
end Go.Proofs.Ytcjfdebjgaohlaa
