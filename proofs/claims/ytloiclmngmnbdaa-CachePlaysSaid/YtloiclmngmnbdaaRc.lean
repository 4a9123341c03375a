/- remove, where some may go. -/
import Derived.Test.YtloiclmngmnbdaaRb
namespace Go.Proofs.Ytloiclmngmnbdaa
open Go.RowKit Go.Maps Go.ChangeMaps Go.MapKept
namespace Rc
open Jb Ca Ck Ct Cd Ls Lb Lc Ld Li Lj Lk Lm Ln Da Db Dc Ra Rb

theorem put_again {w w5 : World} {f : Co} {L' : List Pnt} (h : Put w f.blk (foot f) L' w5) (hc : w5.cell? ⟨f.blk, 0, none⟩ = some f.pv) : Put w f.blk (foot f) L' (w5.setCell ⟨f.blk, 0, none⟩ f.pv) := by
  obtain ⟨f', f1, f2, f3, f4, f5⟩ := h
  have e : f'.pv = f.pv := by
    have := f3.c0
    rw [f1, hc] at this
    exact (Option.some.inj this).symm
  refine ⟨f', f1, f2, ⟨?_, ?_, ?_, ?_, f3.ne, f3.wp, f3.rise, f3.a1, f3.a2, f3.a3⟩, f4.setCell (.inl rfl) _, fun k hk => (f5 k hk).imp id (by simp)⟩
  · rw [f1, e]; exact cell_same hc
  · have := f3.z0; rw [f1] at this ⊢; simpa using this
  · exact own_of_block f3.own1 fun k hk => heap_setCell_ne (fun x => f3.a1 (by rw [f1, ← x]; exact hk))
  · exact own_of_block f3.own2 fun k hk => heap_setCell_ne (fun x => f3.a2 (by rw [f1, ← x]; exact hk))
theorem ret_i {a b : Int} (h : a = b) : Ending.returned (.int .i64 a) = .returned (.int .i64 b) := by rw [h]
/-- The concatenation of what stays. -/
theorem stays (w : World) (f : Co) (h : Cm w f) (ss sc A M : Nat) (e3 : f.sv = .slice (some ⟨ss, 0, none⟩) f.L.length sc) (hAM : A ≤ M) (hM : M ≤ f.L.length) (hl : f.L.length ≤ 1000000) (S2 : Value) (hS : (M = sc ∧ ∃ q c, ∃ off : Nat, S2 = .slice (some ⟨q, off, none⟩) 0 c ∧ q < w.heap.size) ∨ S2 = .slice (some ⟨ss, M * 4, none⟩) (f.L.length - M) (sc - M)) (hsc : f.L.length ≤ sc)
    (w2 : World) (b2 : Below w.heap.size w w2) : Calls Try.prog 44 #[.slice (some ⟨w2.heap.size, 0, none⟩) 2 2] ((w2.alloc (.cells #[.slice (some ⟨ss, 0, none⟩) A sc, S2] 43)).drew) fun e w3 => ∃ r, e = .returned r ∧ w3.ownsRow w.heap.size 32 4 r (f.L.take A ++ f.L.drop M).length (pcs (f.L.take A ++ f.L.drop M)) ∧ Below w.heap.size w w3 := by
  have o2 := h.own2
  rw [e3] at o2
  have sl : ss < w.heap.size := (own_lt o2 rfl).2
  have b3 : Below w.heap.size w ((w2.alloc (.cells #[.slice (some ⟨ss, 0, none⟩) A sc, S2] 43)).drew) := (b2.alloc b2.size _).drew
  have pz1 : Pz w (.slice (some ⟨ss, 0, none⟩) A sc) (f.L.take A) := ⟨ss, sc, 0, by rw [List.length_take, Nat.min_eq_left (by omega)], sl, fun j u hj => by
    rw [← pcs_take, List.getElem?_take] at hj
    split at hj
    · rw [Nat.zero_add, o2.cellAt _ (by omega)]; exact hj
    · cases hj⟩
  have pz2 : Pz w S2 (f.L.drop M) := by
    rcases hS with ⟨e, q, c, off, rfl, hq⟩ | rfl
    · have e0 : f.L.drop M = [] := List.drop_of_length_le (by omega)
      rw [e0]
      exact ⟨q, c, off, rfl, hq, fun j u hj => by simp [pcs] at hj⟩
    · refine ⟨ss, sc - M, M * 4, by rw [List.length_drop], sl, fun j u hj => ?_⟩
      rw [← pcs_drop, List.getElem?_drop] at hj
      have hlt := (List.getElem?_eq_some_iff.1 hj).1
      rw [pcs_len] at hlt
      rw [o2.cellAt _ (by omega)]
      exact hj
  have hx := concat44 ((w2.alloc (.cells #[.slice (some ⟨ss, 0, none⟩) A sc, S2] 43)).drew) w2.heap.size 2 2 [f.L.take A, f.L.drop M] rfl (by decide) (by simp; omega) (by show w2.heap.size < (w2.alloc _).heap.size; simp) (fun i hi => by
    have hn := heap_alloc_new w2 (.cells #[.slice (some ⟨ss, 0, none⟩) A sc, S2] 43)
    match i, hi with
    | 0, _ => exact ⟨_, cell_at (w := w2.alloc _) hn 0, pz1.below b3 (Nat.le_refl _)⟩
    | 1, _ => exact ⟨_, cell_at (w := w2.alloc _) hn 1, pz2.below b3 (Nat.le_refl _)⟩)
  refine hx.mono ?_
  rintro e w3 ⟨r, rfl, o, b⟩
  have e0 : [f.L.take A, f.L.drop M].flatten = f.L.take A ++ f.L.drop M := by simp
  rw [e0] at o
  exact ⟨r, rfl, own_base o b3.size, b3.trans (b.mono b3.size)⟩
set_option maxRecDepth 100000
set_option maxHeartbeats 1000000 in
theorem remove37_in (w : World) (f : Co) (h : Cm w f) (a b : Int) (hl : f.L.length ≤ 1000000) (hr : cnt a f.L < f.L.length) (ht : (f.L.getD 0 p0).1 ≤ b) : Calls Try.prog 37 #[.pointer (some ⟨f.blk, 0, none⟩), .int .i64 a, .int .i64 b] w fun e w' => e = .returned (.int .i64 ((rng a b f.L).length : Nat)) ∧ ((cut a b f.L ≠ [] ∧ Put w f.blk (foot f) (cut a b f.L) w') ∨ (cut a b f.L = [] ∧ (∃ v c, w'.cell? ⟨f.blk, 0, none⟩ = some (.slice v 0 c)) ∧ Chg w w' (foot f))) := by
  obtain ⟨P, pc, ss, sc, e1, e2, e3, e4, e5, e6, n1, n2, n3, k0, k1, kr, kb, kp⟩ := Cm.cells h
  have RE := reach1 w f h a (by omega)
  rw [show rch a f.L = 0 from if_pos hr] at RE
  replace RE := Lib.hid RE
  have K0 := Lib.hid k0
  have K1 := Lib.hid k1
  have h0 : 0 < f.L.length := List.length_pos_iff.2 h.ne
  obtain ⟨x, hx⟩ : ∃ x, x = (f.L.getD 0 p0).1 := ⟨_, rfl⟩
  rw [← hx] at ht
  have KX := Lib.hid (show ∀ w1, Below w.heap.size w w1 → w1.cell? ⟨ss, 0, none⟩ = some (.int .i64 x) from fun w1 b1 => by
    have := ((kr.below b1 kr.1).2 0 h0).1
    simp only [Nat.zero_add, Nat.zero_mul] at this
    rw [this, hx])
  have SP := Lib.hid (show ∀ w1, Below w.heap.size w w1 → _ from fun w1 b1 => span43 w1 ss 0 sc f.L a b (kr.below b1 kr.1) h.rise (by omega))
  have hrg := rng_eq h.rise a b
  have hct := cut_eq h.rise a b
  have hcm : max (cnt a f.L) (upto b f.L) ≤ f.L.length := by
    have := upto_le h.rise b; omega
  have o2 := h.own2
  rw [e3] at o2
  obtain ⟨A, hA⟩ : ∃ A, A = cnt a f.L := ⟨_, rfl⟩
  obtain ⟨M, hM⟩ : ∃ M, M = max (cnt a f.L) (upto b f.L) := ⟨_, rfl⟩
  rw [← hA] at hr
  have hAM : A ≤ M := by rw [hA, hM]; exact Nat.le_max_left _ _
  rw [← hM] at hcm
  rw [← hM, ← hA] at SP
  rw [← hM, ← hA] at hrg hct
  have hlen : (rng a b f.L).length = M - A := by rw [← hrg, List.length_drop, List.length_take]; omega
  have HH := Lib.hid h
  have HSL := Lib.hid (show ss < w.heap.size from (own_lt o2 rfl).2)
  have CO := Lib.hid (fun S2 hS w2 b2 => stays w f h ss sc A M e3 hAM hcm (by omega) S2 hS e4 w2 b2)
  have RN := Lib.hid (fun w3 v hc hz => replace57_none w3 P pc e2 v hc hz)
  have RO := Lib.hid (fun w4 k kc q C qc v hc hz hq => replace57_one w4 P pc k kc q C qc e2 v hc hz hq)
  have o1 := h.own1
  rw [e1] at o1
  have NON := Lib.hid (show ∀ w3, Below w.heap.size w w3 → cut a b f.L = [] → w3.cell? ⟨f.blk, 0, none⟩ = some (.slice (some ⟨P, 0, none⟩) 1 pc) ∧ w3.cell? ⟨P, 0, none⟩ = some (.slice (some ⟨ss, 0, none⟩) f.L.length sc) ∧ (w3.frozen? ⟨P, 0, none⟩ = false ∧ w3.frozen? ⟨f.blk, 0, none⟩ = false) ∧
      (∃ v c, ((w3.setCell ⟨P, 0, none⟩ (.slice none 0 0)).setCell ⟨f.blk, 0, none⟩ (.slice (some ⟨P, 0, none⟩) 0 pc)).cell? ⟨f.blk, 0, none⟩ = some (.slice v 0 c)) ∧ Chg w ((w3.setCell ⟨P, 0, none⟩ (.slice none 0 0)).setCell ⟨f.blk, 0, none⟩ (.slice (some ⟨P, 0, none⟩) 0 pc)) (foot f) from fun w3 b3 hcl => by
    have c5 := (b3.cell (p := ⟨f.blk, 0, none⟩) kb).trans k0
    have c6 := (b3.cell (p := ⟨P, 0, none⟩) kp).trans k1
    refine ⟨c5, c6, ⟨(World.frozen?_of_block (a := ⟨P, 0, none⟩) (b3.block P kp)).trans (o1.frozenAt 0), (World.frozen?_of_block (a := ⟨f.blk, 0, none⟩) (b3.block f.blk kb)).trans h.z0⟩, ⟨_, _, cell_same ((World.cell?_of_block (heap_setCell_ne n1.symm)).trans c5)⟩, ?_⟩
    exact ((Chg.of_below b3 (Nat.le_refl _) (foot f)).setCell (.inr (.inl (by rw [e1]; rfl))) _).setCell (.inl rfl) _)
  have ONE := Lib.hid (show ∀ w3 q qc C, C = (cut a b f.L).length → Below w.heap.size w w3 → w3.ownsRow w.heap.size 32 4 (.slice (some ⟨q, 0, none⟩) C qc) C (pcs (cut a b f.L)) → cut a b f.L ≠ [] → ∃ v' w4, (Builtin.append_ #[85, 85] 85 #[.slice none 0 0, .slice (some ⟨w3.heap.size, 0, none⟩) 1 1]).run Try.prog (w3.alloc (.cells #[.slice (some ⟨q, 0, none⟩) C qc] 43)) = .ok v' w4 ∧ ∃ k kc, v' = .slice (some ⟨k, 0, none⟩) 1 kc ∧
      w4.cell? ⟨f.blk, 0, none⟩ = some (.slice (some ⟨P, 0, none⟩) 1 pc) ∧ w4.cell? ⟨P, 0, none⟩ = some (.slice (some ⟨ss, 0, none⟩) f.L.length sc) ∧ w4.frozen? ⟨P, 0, none⟩ = false ∧ w4.frozen? ⟨f.blk, 0, none⟩ = false ∧ w4.cell? ⟨k, 0, none⟩ = some (.slice (some ⟨q, 0, none⟩) C qc) ∧
      Put w f.blk (foot f) (cut a b f.L) ((w4.setCell ⟨P, 0, none⟩ (.slice (some ⟨q, 0, none⟩) C qc)).setCell ⟨f.blk, 0, none⟩ (.slice (some ⟨P, 0, none⟩) 1 pc)) from fun w3 q qc C hC b3 o3 hcl => by
    obtain ⟨v', w4, hrun, k, kc, rfl, o4, b4, k1', k2'⟩ := app_nil (w3.alloc (.cells #[.slice (some ⟨q, 0, none⟩) C qc] 43)) w3.heap.size (.slice (some ⟨q, 0, none⟩) C qc) rfl (cell_new_l _ _ _) 85
    have b34 := b3.alloc b3.size (.cells #[.slice (some ⟨q, 0, none⟩) C qc] 43)
    have bl := b34.trans (b4.mono b34.size)
    have hq : w.heap.size ≤ q ∧ q < w3.heap.size := own_lt o3 rfl
    have o34 : w4.ownsRow 0 32 4 (.slice (some ⟨q, 0, none⟩) C qc) C (pcs (cut a b f.L)) := own_of_block (own_base o3 (Nat.zero_le _)) (fun i hi => by
      simp [Value.ownBlock] at hi
      subst hi
      exact (b4.block _ (by simp; omega)).trans (Below.heap_alloc _ _ _ hq.2))
    obtain ⟨y1, y2, y3, y4⟩ := piece h e1 e3 (Chg.of_below bl (Nat.le_refl _) (fun k => k = ss)) hC o34 (.inr ⟨hq.1, by have := (own_lt o34 rfl).2; exact this⟩) hcl (fun x hx => h.wp x (List.mem_filter.1 hx).1) (cut_rise h.rise a b)
    have hz : w4.frozen? ⟨f.blk, 0, none⟩ = false := (World.frozen?_of_block (a := ⟨f.blk, 0, none⟩) (bl.block f.blk kb)).trans h.z0
    refine ⟨_, w4, hrun, k, kc, rfl, by rw [y3, e1], by rw [y1, e3], y2, hz, by have := o4.cellAt 0 (by decide); simpa using this, ?_⟩
    have := put_again (f := f) (w5 := w4.setCell ⟨P, 0, none⟩ (.slice (some ⟨q, 0, none⟩) C qc)) y4 ((World.cell?_of_block (heap_setCell_ne n1.symm)).trans y3)
    rw [e1] at this
    exact this)
  have HR := Lib.hid hrg
  have HT := Lib.hid hct
  have HL := Lib.hid hlen
  obtain ⟨G, hG⟩ : ∃ G : Nat, G = (rng a b f.L).length := ⟨_, rfl⟩
  rw [← hG]
  have HG : Hid (((M : Int) - (A : Int)) = ((G : Nat) : Int)) := Lib.hid (by omega)
  obtain ⟨n, hn⟩ : ∃ n, n = f.L.length := ⟨_, rfl⟩
  rw [← hn] at SP K1 h0 hl hr hcm
  have HN := Lib.hid hn
  have hcA : ¬ sc = A := by omega
  have hMi : (M : Int) ≤ (n : Int) := by omega
  rw [← hn] at CO NON ONE e4
  clear h kr k0 k1 hx hrg hct hlen hA hM o1 o2 hn
  go_enter Try.func37, Try.ntmps37
  go_wp2_with fail
  refine RE.out.mono ?_
  rintro e w1 ⟨rfl, b1⟩
  have c1 := (b1.cell (p := ⟨f.blk, 0, none⟩) kb).trans K0.out
  have c2 := (b1.cell (p := ⟨P, 0, none⟩) kp).trans K1.out
  have c3 := KX.out w1 b1
  have B1 := Lib.hid b1
  clear b1
  go_wp2_with fail
  refine wp_loop_rounds 2 ?_
  rw [rounds_succ]
  go_wp2_with fail
  refine (SP.out w1 B1.out).mono ?_
  rintro e w2 ⟨rfl, b2⟩
  have B2 := Lib.hid (B1.out.trans (b2.mono B1.out.size))
  clear b2
  by_cases hMs : M = sc
  · subst hMs
    have CO2 := Lib.hid (CO.out (.slice (some ⟨ss, 0, none⟩) 0 0) (.inl ⟨rfl, ss, 0, 0, rfl, HSL.out⟩) w2 B2.out)
    have hnM : n - M = 0 := by omega
    go_wp2_with fail
    go_region_law (first | (go_simp; go_at_call 44; refine (CO2.out).mono ?_; rintro e w3 ⟨r, rfl, o3, b3⟩; have O3 := Lib.hid o3; have B3 := Lib.hid b3; clear o3 b3))
    rw [HT.out] at O3
    by_cases hcl : cut a b f.L = []
    case pos =>
      rw [hcl] at O3
      obtain ⟨ra, rc, rfl⟩ : ∃ ra rc, r = .slice ra 0 rc := by
        rcases Go.Joins.ownsRow_forms O3.out with ⟨rfl, _⟩ | ⟨q, c, rfl⟩
        · exact ⟨_, _, rfl⟩
        · exact ⟨_, _, rfl⟩
      obtain ⟨c5, c6, z5, FN⟩ := NON.out w3 B3.out hcl
      have FN2 := Lib.hid FN
      have R5 := Lib.hid (RN.out w3 _ c6 z5.1)
      have z6 := z5.2
      have hcl2 := Lib.hid hcl
      clear hcl FN z5
      go_wp2_with fail
      rw [rounds_succ]
      go_wp2_with fail
      refine R5.out.mono ?_
      rintro e w5 ⟨rfl, rfl⟩
      go_wp2_with fail
      go_ret
      exact ⟨ret_i HG.out, .inr ⟨hcl2.out, FN2.out⟩⟩
    case neg =>
      obtain ⟨q, qc, rfl⟩ := Go.Joins.ownsRow_form O3.out (List.length_pos_iff.2 hcl)
      obtain ⟨C, hC⟩ : ∃ C, C = (cut a b f.L).length := ⟨_, rfl⟩
      have hC0 : 0 < C := by rw [hC]; exact List.length_pos_iff.2 hcl
      rw [← hC] at O3 ⊢
      have ON := Lib.hid (ONE.out w3 q qc C hC B3.out O3.out hcl)
      have hcl2 := Lib.hid hcl
      obtain ⟨v', w4, hrun, k, kc, rfl, hx⟩ := ON.out
      obtain ⟨c5, c6, z5, z6, c7, FN⟩ := hx
      have FN2 := Lib.hid FN
      have R5 := Lib.hid (RO.out w4 k kc q C qc _ c6 z5 c7)
      clear hcl FN hC
      go_wp2_with (at_builtin; refine Lib.wpList_append_run _ rfl _ _ _ _ rfl _ _ rfl rfl _ _ hrun ?_)
      rw [rounds_succ]
      go_wp2_with fail
      refine R5.out.mono ?_
      rintro e w5 ⟨rfl, rfl⟩
      go_wp2_with fail
      go_ret
      exact ⟨ret_i HG.out, .inl ⟨hcl2.out, FN2.out⟩⟩
  · have CO2 := Lib.hid (CO.out _ (.inr rfl) w2 B2.out)
    have hMs2 : ¬ sc = M := fun e => hMs e.symm
    have hAs : A ≤ sc := by omega
    have hAs2 : (A : Int) ≤ (sc : Int) := by omega
    go_wp2_with fail
    go_region_law (first | (go_simp; go_at_call 44; refine (CO2.out).mono ?_; rintro e w3 ⟨r, rfl, o3, b3⟩; have O3 := Lib.hid o3; have B3 := Lib.hid b3; clear o3 b3))
    rw [HT.out] at O3
    by_cases hcl : cut a b f.L = []
    case pos =>
      rw [hcl] at O3
      obtain ⟨ra, rc, rfl⟩ : ∃ ra rc, r = .slice ra 0 rc := by
        rcases Go.Joins.ownsRow_forms O3.out with ⟨rfl, _⟩ | ⟨q, c, rfl⟩
        · exact ⟨_, _, rfl⟩
        · exact ⟨_, _, rfl⟩
      obtain ⟨c5, c6, z5, FN⟩ := NON.out w3 B3.out hcl
      have FN2 := Lib.hid FN
      have R5 := Lib.hid (RN.out w3 _ c6 z5.1)
      have z6 := z5.2
      have hcl2 := Lib.hid hcl
      clear hcl FN z5
      go_wp2_with fail
      rw [rounds_succ]
      go_wp2_with fail
      refine R5.out.mono ?_
      rintro e w5 ⟨rfl, rfl⟩
      go_wp2_with fail
      go_ret
      exact ⟨ret_i HG.out, .inr ⟨hcl2.out, FN2.out⟩⟩
    case neg =>
      obtain ⟨q, qc, rfl⟩ := Go.Joins.ownsRow_form O3.out (List.length_pos_iff.2 hcl)
      obtain ⟨C, hC⟩ : ∃ C, C = (cut a b f.L).length := ⟨_, rfl⟩
      have hC0 : 0 < C := by rw [hC]; exact List.length_pos_iff.2 hcl
      rw [← hC] at O3 ⊢
      have ON := Lib.hid (ONE.out w3 q qc C hC B3.out O3.out hcl)
      have hcl2 := Lib.hid hcl
      obtain ⟨v', w4, hrun, k, kc, rfl, hx⟩ := ON.out
      obtain ⟨c5, c6, z5, z6, c7, FN⟩ := hx
      have FN2 := Lib.hid FN
      have R5 := Lib.hid (RO.out w4 k kc q C qc _ c6 z5 c7)
      clear hcl FN hC
      go_wp2_with (at_builtin; refine Lib.wpList_append_run _ rfl _ _ _ _ rfl _ _ rfl rfl _ _ hrun ?_)
      rw [rounds_succ]
      go_wp2_with fail
      refine R5.out.mono ?_
      rintro e w5 ⟨rfl, rfl⟩
      go_wp2_with fail
      go_ret
      exact ⟨ret_i HG.out, .inl ⟨hcl2.out, FN2.out⟩⟩
end Rc
end Go.Proofs.Ytloiclmngmnbdaa
