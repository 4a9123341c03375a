/- The law's call: an Append. The law's call: a Trim. -/
import Derived.Test.YtdaknlmnelfedaaGreatDoorXc
namespace Go.Proofs.YtdaknlmnelfedaaGreatDoor
open Go.RowKit Go.Maps Go.ChangeMaps Go.MapKept
namespace X10
open Jb Jm Jd Jw Jx Jn Je Jf Jg Jh Jk Jc Jl Jo Jq Jr J1 J2 J3 J4 W1 W2 W3 V1 V2 V3 V4 V5 V6 V7 V8 V9 Va Vb Vc Vd Ve Vf Vg X1 X3 X4 X5 X6 X7 X8 X9

set_option maxRecDepth 100000 in
set_option maxHeartbeats 4000000 in
theorem call_app (w : World) (B r g k : Nat) (c : Bool) (h : Run w B r g k c) (hk : k ≤ 100000)
    (R : Nat → Prop) (va : Option Addr) (vc : Nat) (bs : List Nat) (hv : Src w R (.slice va bs.length vc) bs) (hR : ∀ k, R k → k < B) (hcap : va = none → vc = 0) (hby : ∀ x ∈ bs, x < 256) (hb : bs.length ≤ 140737488355328) (n : Int) :
    Calls Tryz.prog 9 #[.pointer (some ⟨r, 0, none⟩), .agg #[.int .i64 1, .int .i64 n, .slice va bs.length vc]] w fun e w' => e = .returned (.bool true) ∧ Run w' B r g (k + 1) c ∧ Below B w w' := by
  obtain ⟨U, D, p, q, N, V, L, ov, m, h⟩ := h
  have hN : N ≤ 140737488350000 := by have := h.nn; omega
  have hB : V.used + 1048576 ≤ 140737488355328 := by have := h.us; omega
  have hs : Sm L.nx := by have := h.nx; unfold Sm; omega
  have hn : (L.es.length + 1) * 24 ≤ 140737488355328 := by have := h.nx; unfold Lg.nx at this; omega
  obtain ⟨wo, hwo⟩ : ∃ wo, wo = w.alloc (.cells #[.int .i64 1, .int .i64 n, .slice va bs.length vc] 38) := ⟨_, rfl⟩
  obtain ⟨o, ho⟩ : ∃ o, o = w.heap.size := ⟨_, rfl⟩
  have bO : Below w.heap.size w wo := by rw [hwo]; exact (Below.refl _ w).alloc (Nat.le_refl _) _
  have hos : wo.heap.size = o + 1 := by rw [hwo, ho]; simp
  have o0 : wo.cell? ⟨o, 0, none⟩ = some (.int .i64 1) := by rw [hwo, ho]; exact new_cell _ _ _ 0 _ rfl
  have o2 : wo.cell? ⟨o, 2, none⟩ = some (.slice va bs.length vc) := by rw [hwo, ho]; exact new_cell _ _ _ 2 _ rfl
  have hrs := h.rn.rs
  have hUw := h.rn.ws.lt
  have hi := h.rn.ws.en.hi
  have hRw : ∀ k, R k → ¬ U k ∧ k ≠ r ∧ k < w.heap.size := fun j hj => by
    have h1 := hR j hj
    exact ⟨fun e => by have := h.rn.ws.ge j e; omega, fun e => by have := h.rn.br; omega, by omega⟩
  have A2 : Hid (∀ ty, ∃ v' w', (Builtin.append_ #[36, 36] ty #[.slice (some ⟨wo.heap.size, 0, none⟩) 0 0, .slice va bs.length vc]).run Tryz.prog (wo.alloc (.cells #[] 5)).drew = .ok v' w' ∧ RB wo bs v' w') := Lib.hid fun ty => rb_append (hv.move (w' := wo) fun k hk _ => bO.block k (hRw k hk).2.2) hcap hb ty
  have R2 : Hid (∀ v2 w3, RB wo bs v2 w3 → Below wo.heap.size wo w3 ∧ ∃ a k, v2 = .slice a bs.length k) := Lib.hid fun v2 w3 r => ⟨r.2.1, r.2.2.2⟩
  have A17 : Hid (∀ v2 w3, RB wo bs v2 w3 → Calls Tryz.prog 17 #[.pointer (some ⟨p, 0, none⟩), v2] w3 fun e w4 => ∃ (er : Nat) (V' : Vw) (L' : Lg) (ov' : Bool) (U' : Nat → Prop), e = .returned (.int .i64 (er : Nat)) ∧ WS w4 U' B p g (N + 2) V' L' ov' ∧ (∀ k, U' k → U k ∨ w.heap.size ≤ k) ∧ Chg wo w4 U ∧ AppY ov V L bs er V' L' ov') := Lib.hid fun v2 w3 r2 => by
    have s2 := src_own r2.1
    have bz := r2.2.1.size
    refine (append_any w3 U B p g N V L ov ((h.rn.ws.below bO).below (r2.2.1.mono (by omega))) (fun e => (h.lv e).2) hs v2 bs _ (fun k hk => ⟨fun hu => ?_, (r2.2.2.1 k hk.2).2⟩) s2 (fun c e => ?_) hby hN hB hn).mono ?_
    · have := (r2.2.2.1 k hk.2).1
      have := hUw k hu
      omega
    · rw [e] at r2
      obtain ⟨_, ⟨e1, _⟩ | ⟨g1, _, _, e1, _⟩⟩ := r2.1
      · injection e1
      · simp at e1
    · rintro e w4 ⟨er, V', L', ov', rfl, k1, k2, k3⟩
      exact ⟨er, V', L', ov', _, rfl, k1, fun k hk => hk.imp id fun e => by omega, (Chg.of_below r2.2.1 (Nat.le_refl _) U).trans k2 fun k hk _ => hk, k3⟩
  have DB : Hid (∀ y j, Chg wo y U → D j → y.heap[j]? = w.heap[j]? ∧ j < y.heap.size) := Lib.hid fun y j hy hj => by
    have hk2 := h.rn.dl j hj
    have := hy.size
    exact ⟨(hy.block j (by omega) (h.rn.du j hj)).trans (bO.block j hk2), by omega⟩
  have A19 : Hid (∀ y, Chg wo y U → Calls Tryz.prog 19 #[.pointer (some ⟨q, 0, none⟩), .slice va bs.length vc] y fun e w' => e = .returned (.int .i64 (ckE ov bs.length : Nat)) ∧ w' = y) := Lib.hid fun y hy =>
    check19 y D q L ov (h.rn.rl.move (fun _ hk => hk) fun k hk => (DB.out y k hy hk).1) va bs.length vc
  have A20 : Hid (∀ y, Chg wo y U → Calls Tryz.prog 20 #[.pointer (some ⟨q, 0, none⟩), .slice va bs.length vc] y fun e w' => ∃ q' D', e = .returned (.pointer (some ⟨q', 0, none⟩)) ∧ RL w' D' q' (L.app bs) false ∧ (∀ j, D' j → (D j ∨ y.heap.size ≤ j) ∧ j < w'.heap.size) ∧ (∀ j, D j → D' j) ∧ Below y.heap.size y w') := Lib.hid fun y hy => by
    have hz := hy.size
    refine (app20 y D q L ov (h.rn.rl.move (fun _ hk => hk) fun k hk => (DB.out y k hy hk).1) (fun k hk => (DB.out y k hy hk).2) va vc bs R (fun j hj => by have := (hRw j hj).2.2; omega) ((hv.move (w' := wo) fun k hk _ => bO.block k (hRw k hk).2.2).move fun k hk _ => hy.block k (by have := (hRw k hk).2.2; omega) (hRw k hk).1) hcap hby hb hn).mono ?_
    rintro e w' ⟨q', rfl, j1, j2⟩
    exact ⟨q', _, rfl, j1, fun j hj => hj.elim (fun e => ⟨.inl e, by have := (DB.out y j hy e).2; have := j2.size; omega⟩) fun e => ⟨.inr e.1, e.2⟩, fun j hj => .inl hj, j2⟩
  have CX : Hid (∀ y, Chg wo y U → y.cell? ⟨r, 0, none⟩ = some (.pointer (some ⟨g, 0, none⟩)) ∧ y.cell? ⟨r, 1, none⟩ = some (.pointer (some ⟨p, 0, none⟩)) ∧ y.cell? ⟨r, 2, none⟩ = some (.pointer (some ⟨q, 0, none⟩)) ∧ y.cell? ⟨o, 2, none⟩ = some (.slice va bs.length vc)) := Lib.hid fun y hy => by
    have e1 : y.heap[r]? = w.heap[r]? := (hy.block r (by omega) h.rn.ru).trans (bO.block r h.rn.rs)
    have e2 : y.heap[o]? = wo.heap[o]? := hy.block o (by omega) fun hu => by have := hUw o hu; omega
    exact ⟨(World.cell?_of_block e1).trans h.rn.c0, (World.cell?_of_block e1).trans h.rn.c1, (World.cell?_of_block e1).trans h.rn.c2, (World.cell?_of_block e2).trans o2⟩
  have CZ : Hid (∀ y i, Chg wo y U → y.frozen? ⟨r, i, none⟩ = false) := Lib.hid fun y i hy => by
    have e1 : y.heap[r]? = w.heap[r]? := (hy.block r (by omega) h.rn.ru).trans (bO.block r h.rn.rs)
    exact (World.frozen?_of_block e1).trans (h.rn.z i)
  have CM : Hid (∀ y, Chg wo y U → ∃ mv, y.cell? ⟨r, 3, none⟩ = some mv) := Lib.hid fun y hy => by
    have e1 : y.heap[r]? = w.heap[r]? := (hy.block r (by omega) h.rn.ru).trans (bO.block r h.rn.rs)
    exact ⟨_, (World.cell?_of_block e1).trans h.rn.c3⟩
  have CW : Hid (∀ y, Chg wo y U → Chg w y U) := Lib.hid fun y hy => (Chg.of_below bO (Nat.le_refl _) U).trans hy fun k hk _ => hk
  obtain ⟨M, hM⟩ : ∃ M, M = bs.length := ⟨_, rfl⟩
  obtain ⟨ck, hck⟩ : ∃ ck, ck = ckE ov bs.length := ⟨_, rfl⟩
  rw [← hck] at A19
  rw [← hM] at A2 R2 A19 A20 CX o2 hwo ⊢
  have HUk := Lib.hid (Nat.le_trans h.us (Nat.mul_le_mul_right 1048576 (Nat.le_succ k)))
  have H2 := Lib.hid (show N + 2 ≤ 2 * (k + 1) by have := h.nn; omega)
  have HH := Lib.hid h
  have HM := Lib.hid (And.intro hM hck)
  have HW := Lib.hid (And.intro hwo ho)
  have HS := Lib.hid (And.intro hos (And.intro hrs hUw))
  clear hM hck hwo ho hos hrs hUw
  clear h hs hN hB hn hv hR hcap hby hb hi hRw hk
  go_enter Tryz.func9, Tryz.ntmps9
  go_upto_region 1 with (fail)
  rw [← HW.out.1, ← HW.out.2]
  go_upto_region 4 with (fail)
  have kX := CX.out wo.drew (Chg.of_below (Below.refl wo.heap.size wo).drew (Nat.le_refl _) U)
  have kX2 := CX.out (wo.alloc (.cells #[] 5)).drew (Chg.of_below ((Below.refl wo.heap.size wo).alloc (Nat.le_refl _) _).drew (Nat.le_refl _) U)
  go_region_held_law (fun y : World => y.cell? ⟨r, 0, none⟩ = some (.pointer (some ⟨g, 0, none⟩)) ∧ y.cell? ⟨r, 1, none⟩ = some (.pointer (some ⟨p, 0, none⟩)) ∧ y.cell? ⟨r, 2, none⟩ = some (.pointer (some ⟨q, 0, none⟩)) ∧ y.cell? ⟨o, 2, none⟩ = some (.slice va M vc))
    (first | exact kX | exact kX2 | exact CX.out _ C3.out | exact CX.out _ C4.out)
    (first | (refine step_append rfl (.tmp 16) (.tmp 18) 36 rfl (.slice (some ⟨wo.heap.size, 0, none⟩) 0 0) (.slice va M vc) (by simp [Act.eval]) (by simp [Act.eval]) (RB wo bs) A2.out ?_; intro v2 w3 r2; have R3 := Lib.hid r2; obtain ⟨B3, a2, k2, rfl⟩ := R2.out _ _ r2; clear r2; have C3 := Lib.hid (Chg.of_below B3 (Nat.le_refl _) U); clear B3) | (go_simp; go_at_call 17; refine (A17.out _ w3 R3.out).mono ?_; rintro e w4 ⟨er, V', L', ov', U', rfl, k1, kU, k2, k3⟩; have C4 := Lib.hid k2; have K1 := Lib.hid (And.intro k1 kU); have K3 := Lib.hid k3; clear k1 k2 k3 kU; dsimp only) | (go_simp; go_at_call 19; refine (A19.out _ (by first | exact C4.out | exact C3.out)).mono ?_; rintro e w5 ⟨rfl, rfl⟩; dsimp only))
  go_wp2_with fail
  have A20a := Lib.hid (A20.out _ C4.out.drew)
  have k4 := CX.out _ C4.out.drew
  go_region_held_law (fun y : World => y.cell? ⟨r, 2, none⟩ = some (.pointer (some ⟨q, 0, none⟩)) ∧ y.cell? ⟨o, 2, none⟩ = some (.slice va M vc))
    (first | exact k4.2.2 | exact (CX.out _ C6.out).2.2)
    (first | (go_simp; go_at_call 20; refine (A20a.out).mono ?_; rintro e w6 ⟨q', D', rfl, j1, j2, j3, j4⟩; have J := Lib.hid (And.intro j1 (And.intro j2 (And.intro j3 j4))); have C6 := Lib.hid (C4.out.drew.trans (Chg.of_below j4 (Nat.le_refl _) U) fun k hk _ => hk); clear j1 j2 j3 j4; dsimp only))
  obtain ⟨d0, d1, d2, d3⟩ := CX.out w6 C6.out
  obtain ⟨mv, d4⟩ := CM.out w6 C6.out
  have z2 := CZ.out w6 2 C6.out
  have z3 := CZ.out w6 3 C6.out
  have DQ : Hid (w6.cell? ⟨q, 0, none⟩ = some (.int .i64 (L.first : Nat)) ∧ ∃ ev, w6.cell? ⟨q, 1, none⟩ = some ev ∧ RR w6 D ev L.es) := Lib.hid (by
    have rl := HH.out.rn.rl.move (w' := w6) (D' := D) (fun _ hk => hk) fun j hj => (DB.out w6 j C6.out hj).1
    exact ⟨rl.c0, rl.c1⟩)
  have EB := K3.out
  rw [AppY, ← HM.out.2, ← HM.out.1] at EB
  rcases EB with ⟨hck, her, hV, hL, hov⟩ | ⟨hov, hck, hM, hA⟩
  · have c1 : ((ck : Int) == 0) = false := by simp; omega
    have c2 : ((ck : Int) != 0) = true := by simp [bne, c1]
    have c3 : ((ck : Int) == (ck : Int)) = true := by simp
    subst her hV hL hov
    clear hck
    go_wp2_with fail
    go_ret
    have j4 := J.out.2.2.2
    exact ⟨rfl, run_keep HH.out (CW.out _ C4.out) K1.out.1 K1.out.2 ⟨j4.os, j4.tape, j4.output, j4.size, j4.block⟩ (fun e => (HH.out.lv e).2) (fun _ => rfl) (Nat.le_succ k) HUk.out H2.out (fun e => (HH.out.cc e).2)⟩
  · subst hck hov
    obtain ⟨kp, hus, hA⟩ := hA
    have HF := Lib.hid (show c = true → V'.fused = false from fun e => kp.fused.trans (HH.out.cc e).2)
    clear kp
    have HU := Lib.hid (show V'.used ≤ (k + 1) * 1048576 by have := HH.out.us; have := HM.out.1; omega)
    have HX := Lib.hid (show L.nx ≤ k + 1 by have := HH.out.nx; omega)
    clear hus hM
    rcases hA with ⟨her, hov, hL, hfu, hd, hD⟩ | ⟨her, hov, hL, hd, hC, _⟩ | ⟨her, hov, hL, hd, hC⟩
    · subst her hov hL
      have HL := Lib.hid (show c = true → False from fun e => by rw [(HH.out.cc e).2] at hfu; cases hfu)
      clear hfu
      have HD := Lib.hid (And.intro hd hD)
      have DN : Hid (Calls Tryz.prog 12 #[.pointer (some ⟨g, 0, none⟩)] w6 fun e w' => e = .returned (.bool true) ∧ w' = w6) := Lib.hid (by
        have j4 := J.out.2.2.2
        obtain ⟨S, T, q1, _⟩ := (K1.out.1.below (w' := w6) ⟨j4.os, j4.tape, j4.output, j4.size, j4.block⟩).ex
        have := Down_c w6 S g (N + 2) V' q1
        rwa [hd] at this)
      clear hd hD
      have q0 := DQ.out.1
      obtain ⟨ev, q1, er⟩ := DQ.out.2
      obtain ⟨ea, ec, rfl⟩ := er.form
      obtain ⟨el, hel⟩ : ∃ el, el = L'.es.length := ⟨_, rfl⟩
      rw [← hel] at q1
      have ER := Lib.hid (And.intro hel er)
      obtain ⟨F, hF⟩ : ∃ F, F = L'.first := ⟨_, rfl⟩
      rw [← hF] at q0
      have HF2 := Lib.hid hF
      clear er hF hel
      go_wp2_with (go_at_call 12; refine (DN.out).mono ?_; rintro e w7 ⟨rfl, rfl⟩)
      obtain ⟨wa, hwa⟩ : ∃ wa, wa = w7.alloc (.cells #[.int .i64 (F : Nat), .slice ea el ec, .bool true] 31) := ⟨_, rfl⟩
      have bA : Below w7.heap.size w7 wa := by rw [hwa]; exact (Below.refl _ _).alloc (Nat.le_refl _) _
      have CA := Lib.hid (C6.out.trans (Chg.of_below bA (Nat.le_refl _) U) fun k hk _ => hk)
      obtain ⟨a0, a1, a2', a3⟩ := CX.out wa CA.out
      obtain ⟨mv', a4⟩ := CM.out wa CA.out
      have y2 := CZ.out wa 2 CA.out
      have y3 := CZ.out wa 3 CA.out
      rw [hwa] at a0 a1 a2' a3 a4 y2 y3
      clear hwa bA
      go_region
      go_wp2_with fail
      go_ret
      have j4 := J.out.2.2.2
      have E := lost_end (k' := k + 1) HH.out (CW.out _ C4.out) K1.out.1 K1.out.2 ⟨j4.os, j4.tape, j4.output, j4.size, j4.block⟩ J.out.1 J.out.2.1 J.out.2.2.1 ER.out.2 d2 d4 HD.out.1 (.inl HD.out.2) (Nat.le_succ k) (by rw [Lg.app_nx]; exact Nat.succ_le_succ HH.out.nx) HU.out H2.out HL.out
      rw [← ER.out.1, ← HF2.out] at E
      exact ⟨rfl, E⟩
    · subst her hov hL
      have HD := Lib.hid (And.intro hC hd)
      clear hC hd
      go_wp2_with fail
      go_ret
      have j4 := J.out.2.2.2
      exact ⟨rfl, run_keep HH.out (CW.out _ C4.out) K1.out.1 K1.out.2 ⟨j4.os, j4.tape, j4.output, j4.size, j4.block⟩ (fun _ => HD.out) (fun e => by cases e) (Nat.le_succ k) HU.out H2.out HF.out⟩
    · subst her hov hL
      have HD := Lib.hid (And.intro hC hd)
      clear hC hd
      go_wp2_with fail
      go_ret
      have j4 := J.out.2.2.2
      have hp : Chg w6 ((w6.setCell ⟨r, 2, none⟩ (.pointer (some ⟨q', 0, none⟩))).setCell ⟨r, 3, none⟩ (.pointer none)) (fun k => k = r) := ((Chg.refl w6 (fun k => k = r)).setCell rfl _).setCell rfl _
      exact ⟨rfl, run_done HH.out (CW.out _ C4.out) K1.out.1 K1.out.2 ⟨j4.os, j4.tape, j4.output, j4.size, j4.block⟩ J.out.1 J.out.2.1 hp
        (by rw [cell_other (by simp), cell_same d2]) (cell_same (by rw [cell_other (by simp)]; exact d4)) (by rw [cell_other (by simp), cell_other (by simp)]) (by rw [cell_other (by simp), cell_other (by simp)]) (fun i => by simp only [World.frozen?_setCell]) HD.out (by rw [Lg.app_nx]; exact Nat.succ_le_succ HH.out.nx) HU.out H2.out HF.out⟩
end X10
end Go.Proofs.YtdaknlmnelfedaaGreatDoor
namespace Go.Proofs.YtdaknlmnelfedaaGreatDoor
open Go.RowKit Go.Maps Go.ChangeMaps Go.MapKept
namespace X11
open Jb Jm Jd Jw Jx Jn Je Jf Jg Jh Jk Jc Jl Jo Jq Jr J1 J2 J3 J4 W1 W2 W3 V1 V2 V3 V4 V5 V6 V7 V8 V9 Va Vb Vc Vd Ve Vf Vg X1 X3 X4 X5 X6 X7 X8 X9

theorem ft_zero {ov : Bool} {L : Lg} {n : Int} (h : ftE ov L n = 0) : ov = false ∧ ∃ k : Nat, n = (k : Int) ∧ L.first ≤ k ∧ k ≤ L.nx := by
  unfold ftE at h
  cases ov with
  | true => simp at h
  | false =>
    rw [if_neg (by simp)] at h
    by_cases h1 : n < (L.first : Int) ∨ (L.nx : Int) < n
    · rw [if_pos h1] at h; cases h
    · exact ⟨rfl, n.toNat, by omega, by omega, by omega⟩
theorem trim_refused (w : World) (U : Nat → Prop) (B p g N : Nat) (V : Vw) (L : Lg) (ov : Bool) (h : WS w U B p g N V L ov) (hs : Sm L.nx) (n : Int) (hf : ftE ov L n ≠ 0) :
    Calls Tryz.prog 21 #[.pointer (some ⟨p, 0, none⟩), .int .i64 n] w fun e w' => e = .returned (.int .i64 (ftE ov L n : Nat)) ∧ Below w.heap.size w w' := by
  cases ov with
  | true =>
    refine (Trim_over w U B p g N V L h n).mono ?_
    rintro e w' ⟨rfl, rfl⟩
    exact ⟨by unfold ftE; rw [if_pos rfl]; rfl, Below.refl _ _⟩
  | false =>
    by_cases h1 : n < (L.first : Int) ∨ (L.nx : Int) < n
    · refine (Trim_bad w U B p g N V L h hs n h1).mono ?_
      rintro e w' ⟨rfl, b⟩
      exact ⟨by unfold ftE; rw [if_neg (by simp), if_pos h1]; rfl, b⟩
    · exact absurd (by unfold ftE; rw [if_neg (by simp), if_neg h1]) hf
set_option maxRecDepth 100000 in
set_option maxHeartbeats 4000000 in
theorem call_trim (w : World) (B r g k : Nat) (h : Run w B r g k) (hk : k ≤ 100000) (va : Option Addr) (vl vc : Nat) (n : Int) :
    Calls Tryz.prog 9 #[.pointer (some ⟨r, 0, none⟩), .agg #[.int .i64 2, .int .i64 n, .slice va vl vc]] w fun e w' => e = .returned (.bool true) ∧ Run w' B r g (k + 1) ∧ Below B w w' := by
  obtain ⟨U, D, p, q, N, V, L, ov, m, h⟩ := h
  have hN : N ≤ 140737488350000 := by have := h.nn; omega
  have hB : V.used ≤ 140737488355328 := by have := h.us; omega
  have hs : Sm L.nx := by have := h.nx; unfold Sm; omega
  obtain ⟨wo, hwo⟩ : ∃ wo, wo = w.alloc (.cells #[.int .i64 2, .int .i64 n, .slice va vl vc] 38) := ⟨_, rfl⟩
  obtain ⟨o, ho⟩ : ∃ o, o = w.heap.size := ⟨_, rfl⟩
  have bO : Below w.heap.size w wo := by rw [hwo]; exact (Below.refl _ w).alloc (Nat.le_refl _) _
  have hos : wo.heap.size = o + 1 := by rw [hwo, ho]; simp
  have o0 : wo.cell? ⟨o, 0, none⟩ = some (.int .i64 2) := by rw [hwo, ho]; exact new_cell _ _ _ 0 _ rfl
  have o1 : wo.cell? ⟨o, 1, none⟩ = some (.int .i64 n) := by rw [hwo, ho]; exact new_cell _ _ _ 1 _ rfl
  have hrs := h.rn.rs
  have hUw := h.rn.ws.lt
  have hi := h.rn.ws.en.hi
  have DB : Hid (∀ y j, Chg wo y U → D j → y.heap[j]? = w.heap[j]? ∧ j < y.heap.size) := Lib.hid fun y j hy hj => by
    have hk2 := h.rn.dl j hj
    have := hy.size
    exact ⟨(hy.block j (by omega) (h.rn.du j hj)).trans (bO.block j hk2), by omega⟩
  have RQ : Hid (∀ y, Chg wo y U → RL y D q L ov) := Lib.hid fun y hy => h.rn.rl.move (fun _ hk => hk) fun k hk => (DB.out y k hy hk).1
  have CX : Hid (∀ y, Chg wo y U → y.cell? ⟨r, 0, none⟩ = some (.pointer (some ⟨g, 0, none⟩)) ∧ y.cell? ⟨r, 1, none⟩ = some (.pointer (some ⟨p, 0, none⟩)) ∧ y.cell? ⟨r, 2, none⟩ = some (.pointer (some ⟨q, 0, none⟩)) ∧ y.cell? ⟨o, 1, none⟩ = some (.int .i64 n)) := Lib.hid fun y hy => by
    have e1 : y.heap[r]? = w.heap[r]? := (hy.block r (by omega) h.rn.ru).trans (bO.block r h.rn.rs)
    have e2 : y.heap[o]? = wo.heap[o]? := hy.block o (by omega) fun hu => by have := hUw o hu; omega
    exact ⟨(World.cell?_of_block e1).trans h.rn.c0, (World.cell?_of_block e1).trans h.rn.c1, (World.cell?_of_block e1).trans h.rn.c2, (World.cell?_of_block e2).trans o1⟩
  have CZ : Hid (∀ y i, Chg wo y U → y.frozen? ⟨r, i, none⟩ = false) := Lib.hid fun y i hy => by
    have e1 : y.heap[r]? = w.heap[r]? := (hy.block r (by omega) h.rn.ru).trans (bO.block r h.rn.rs)
    exact (World.frozen?_of_block e1).trans (h.rn.z i)
  have CM : Hid (∀ y, Chg wo y U → ∃ mv, y.cell? ⟨r, 3, none⟩ = some mv) := Lib.hid fun y hy => by
    have e1 : y.heap[r]? = w.heap[r]? := (hy.block r (by omega) h.rn.ru).trans (bO.block r h.rn.rs)
    exact ⟨_, (World.cell?_of_block e1).trans h.rn.c3⟩
  have CW : Hid (∀ y, Chg wo y U → Chg w y U) := Lib.hid fun y hy => (Chg.of_below bO (Nat.le_refl _) U).trans hy fun k hk _ => hk
  obtain ⟨t, ht⟩ : ∃ t, t = Int.tmod n 1000 := ⟨_, rfl⟩
  obtain ⟨F, hF⟩ : ∃ F, F = L.first := ⟨_, rfl⟩
  obtain ⟨X, hX⟩ : ∃ X, X = (F : Int) + t := ⟨_, rfl⟩
  have ht1 : -1000 < t ∧ t < 1000 := by rw [ht]; exact ⟨Int.lt_tmod_of_pos n (by decide), Int.tmod_lt_of_pos n (by decide)⟩
  have hw1 : IntKind.i64.wrap t = t := by rw [IntKind.wrap_i64]; omega
  have hw2 : IntKind.i64.wrap ((F : Int) + t) = X := by rw [IntKind.wrap_i64, ← hX]; have := h.nx; unfold Lg.nx at this; omega
  have hw3 : IntKind.i64.wrap (Int.tmod n 1000) = t := by rw [← ht]; exact hw1
  have CF : Hid (∀ y, Chg wo y U → y.cell? ⟨q, 0, none⟩ = some (.int .i64 (F : Nat))) := Lib.hid fun y hy => by rw [hF]; exact (RQ.out y hy).c0
  have WB : Hid (∀ y, Below wo.heap.size wo y → WS y U B p g N V L ov) := Lib.hid fun y hy => (h.rn.ws.below bO).below hy
  have BC : Hid (∀ y, Below wo.heap.size wo y → Chg wo y U) := Lib.hid fun y hy => Chg.of_below hy (Nat.le_refl _) U
  obtain ⟨ft, hft⟩ : ∃ ft, ft = ftE ov L X := ⟨_, rfl⟩
  have A22 : Hid (∀ y, Chg wo y U → Calls Tryz.prog 22 #[.pointer (some ⟨q, 0, none⟩), .int .i64 X] y fun e w' => e = .returned (.int .i64 (ft : Nat)) ∧ Below y.heap.size y w') := Lib.hid fun y hy => by
    rw [hft]; exact fits22 y D q L ov (RQ.out y hy) hs X
  have HB := Lib.hid bO
  have HUk := Lib.hid (Nat.le_trans h.us (Nat.mul_le_mul_right 1048576 (Nat.le_succ k)))
  have H2 := Lib.hid (show N ≤ 2 * (k + 1) by have := h.nn; omega)
  have HH := Lib.hid h
  have HW := Lib.hid (And.intro hwo ho)
  have HT := Lib.hid ht
  have HK := Lib.hid hk
  by_cases hf : ft = 0
  · rw [hf] at hft
    obtain ⟨rfl, n', rfl, f1, f2⟩ := ft_zero hft.symm
    subst hf
    replace A22 : Hid (∀ y, Chg wo y U → Calls Tryz.prog 22 #[.pointer (some ⟨q, 0, none⟩), .int .i64 (n' : Nat)] y fun e w' => e = .returned (.int .i64 0) ∧ Below y.heap.size y w') := A22
    have A21 : Hid (∀ y, Below wo.heap.size wo y → Calls Tryz.prog 21 #[.pointer (some ⟨p, 0, none⟩), .int .i64 (n' : Nat)] y fun e w4 => ∃ (er : Nat) (V' : Vw) (L' : Lg) (ov' : Bool) (U' : Nat → Prop), e = .returned (.int .i64 (er : Nat)) ∧ WS w4 U' B p g (N + 1) V' L' ov' ∧ (∀ k, U' k → U k ∨ w.heap.size ≤ k) ∧ Chg wo w4 U ∧ Trm V L n' er V' L' ov') := Lib.hid fun y hy => by
      refine (Trim10 y U B p g N V L (WB.out y hy) (h.lv rfl).2.1 (h.lv rfl).2.2 hs n' f1 f2 hN hB).mono ?_
      rintro e w4 ⟨er, V', L', ov', rfl, k1, k2, k3⟩
      exact ⟨er, V', L', ov', _, rfl, k1, fun j hj => hj.imp id fun e => by have := hy.size; omega, (Chg.of_below hy (Nat.le_refl _) U).trans k2 fun k hk _ => hk, k3⟩
    have A23 : Hid (∀ y, Chg wo y U → Calls Tryz.prog 23 #[.pointer (some ⟨q, 0, none⟩), .int .i64 (n' : Nat)] y fun e w' => ∃ q' D', e = .returned (.pointer (some ⟨q', 0, none⟩)) ∧ RL w' D' q' (L.trim n') false ∧ (∀ j, D' j → (D j ∨ y.heap.size ≤ j) ∧ j < w'.heap.size) ∧ (∀ j, D j → D' j) ∧ Below y.heap.size y w') := Lib.hid fun y hy => by
      refine (trim23 y D q L false (RQ.out y hy) (fun k hk => (DB.out y k hy hk).2) hs n' f1 f2).mono ?_
      rintro e w' ⟨q', rfl, j1, j2⟩
      exact ⟨q', _, rfl, j1, fun j hj => hj.elim (fun e => ⟨.inl e, by have := (DB.out y j hy e).2; have := j2.size; omega⟩) fun e => ⟨.inr e.1, e.2⟩, fun j hj => .inl hj, j2⟩
    have NX := Lib.hid (show (L.trim n').nx ≤ k + 1 by rw [Lg.trim_nx f1 f2]; exact Nat.le_succ_of_le h.nx)
    have kX := CX.out wo.drew (Chg.of_below (Below.refl wo.heap.size wo).drew (Nat.le_refl _) U)
    have kF := CF.out wo.drew (Chg.of_below (Below.refl wo.heap.size wo).drew (Nat.le_refl _) U)
    have tm : Int.tmod n 1000 = t := ht.symm
    have HN := Lib.hid (And.intro f1 f2)
    clear hft hwo ho hos hrs hUw hi h hN hB hs hX ht1 hF hk ht f1 f2
    go_enter Tryz.func9, Tryz.ntmps9
    go_upto_region 1 with (fail)
    rw [← HW.out.1, ← HW.out.2]
    go_upto_region 6 with (fail)
    go_region
    go_wp2_with fail
    have kY := CX.out wo.drew.drew ((Chg.refl wo U).drew.drew)
    go_region_held_law (fun y : World => y.cell? ⟨r, 1, none⟩ = some (.pointer (some ⟨p, 0, none⟩)) ∧ y.cell? ⟨r, 2, none⟩ = some (.pointer (some ⟨q, 0, none⟩)))
      (first | exact ⟨kY.2.1, kY.2.2.1⟩ | exact ⟨(CX.out _ C4.out).2.1, (CX.out _ C4.out).2.2.1⟩ | exact ⟨(CX.out _ C5.out).2.1, (CX.out _ C5.out).2.2.1⟩)
      (first | (go_simp; go_at_call 21; refine (A21.out _ (Below.refl _ wo).drew.drew).mono ?_; rintro e w4 ⟨er, V', L', ov', U', rfl, k1, kU, k2, k3⟩; have C4 := Lib.hid k2; have K1 := Lib.hid (And.intro k1 kU); have K3 := Lib.hid k3; clear k1 k2 k3 kU; dsimp only) | (go_simp; go_at_call 22; refine (A22.out _ (by first | exact C4.out)).mono ?_; rintro e w5 ⟨rfl, k2⟩; have B5 := Lib.hid k2; have C5 := Lib.hid (C4.out.trans (Chg.of_below k2 (Nat.le_refl _) U) fun k hk _ => hk); clear k2; dsimp only))
    go_wp2_with fail
    go_at_call 23
    refine (A23.out _ C5.out).mono ?_
    rintro e w6 ⟨q', D', rfl, j1, j2, j3, j4⟩
    have J := Lib.hid (And.intro j1 (And.intro j2 j3))
    have C6 := Lib.hid (C5.out.trans (Chg.of_below j4 (Nat.le_refl _) U) fun k hk _ => hk)
    have B6 := Lib.hid (B5.out.trans (j4.mono B5.out.size))
    have j2' : ∀ j, D' j → (D j ∨ w4.heap.size ≤ j) ∧ j < w6.heap.size := fun j hj => ⟨(j2 j hj).1.imp id fun e => by have := B5.out.size; omega, (j2 j hj).2⟩
    have J2 := Lib.hid j2'
    clear j1 j2 j3 j4 j2'
    obtain ⟨d0, d1, d2, d3⟩ := CX.out w6 C6.out
    obtain ⟨mv, d4⟩ := CM.out w6 C6.out
    have z2 := CZ.out w6 2 C6.out
    have z3 := CZ.out w6 3 C6.out
    have RL6 := Lib.hid (RQ.out w6 C6.out)
    obtain ⟨_, hus, hA⟩ := K3.out
    have HU := Lib.hid (Nat.le_trans hus HUk.out)
    have H2 := Lib.hid (show N + 1 ≤ 2 * (k + 1) by have := HH.out.nn; omega)
    clear hus
    rcases hA with ⟨her, hov, hL, _, hd, hD⟩ | ⟨her, hov, hL, hd, hC⟩
    · subst her hov hL
      have HD := Lib.hid (And.intro hd hD)
      have DN : Hid (Calls Tryz.prog 12 #[.pointer (some ⟨g, 0, none⟩)] w6 fun e w' => e = .returned (.bool true) ∧ w' = w6) := Lib.hid (by
        obtain ⟨S, T, q1, _⟩ := (K1.out.1.below B6.out).ex
        have := Down_c w6 S g (N + 1) V' q1
        rwa [hd] at this)
      clear hd hD
      have q0 := RL6.out.c0
      obtain ⟨ev, q1, er⟩ := RL6.out.c1
      obtain ⟨ea, ec, rfl⟩ := er.form
      obtain ⟨el, hel⟩ : ∃ el, el = L'.es.length := ⟨_, rfl⟩
      rw [← hel] at q1
      have ER := Lib.hid (And.intro hel er)
      obtain ⟨F', hF⟩ : ∃ F', F' = L'.first := ⟨_, rfl⟩
      rw [← hF] at q0
      have HF := Lib.hid hF
      clear er hF hel
      go_wp2_with (go_at_call 12; refine (DN.out).mono ?_; rintro e w7 ⟨rfl, rfl⟩)
      obtain ⟨wa, hwa⟩ : ∃ wa, wa = w7.alloc (.cells #[.int .i64 (F' : Nat), .slice ea el ec, .bool true] 31) := ⟨_, rfl⟩
      have bA : Below w7.heap.size w7 wa := by rw [hwa]; exact (Below.refl _ _).alloc (Nat.le_refl _) _
      have CA := Lib.hid (C6.out.trans (Chg.of_below bA (Nat.le_refl _) U) fun k hk _ => hk)
      obtain ⟨a0, a1, a2, a3⟩ := CX.out wa CA.out
      obtain ⟨mv', a4⟩ := CM.out wa CA.out
      have y2 := CZ.out wa 2 CA.out
      have y3 := CZ.out wa 3 CA.out
      rw [hwa] at a0 a1 a2 a3 a4 y2 y3
      clear hwa bA
      go_region
      go_wp2_with fail
      go_ret
      have E := lost_end (k' := k + 1) HH.out (CW.out _ C4.out) K1.out.1 K1.out.2 B6.out J.out.1 J2.out J.out.2.2 ER.out.2 d2 d4 HD.out.1 HD.out.2 (Nat.le_succ k) NX.out HU.out H2.out (fun e => by cases e)
      rw [← ER.out.1, ← HF.out] at E
      exact ⟨rfl, E⟩
    · subst her hov hL
      have HD := Lib.hid (And.intro hC hd)
      clear hC hd
      go_wp2_with fail
      go_ret
      have hp : Chg w6 ((w6.setCell ⟨r, 2, none⟩ (.pointer (some ⟨q', 0, none⟩))).setCell ⟨r, 3, none⟩ (.pointer none)) (fun k => k = r) := ((Chg.refl w6 (fun k => k = r)).setCell rfl _).setCell rfl _
      exact ⟨rfl, run_done HH.out (CW.out _ C4.out) K1.out.1 K1.out.2 B6.out J.out.1 J2.out hp
        (by rw [cell_other (by simp), cell_same d2]) (cell_same (by rw [cell_other (by simp)]; exact d4)) (by rw [cell_other (by simp), cell_other (by simp)]) (by rw [cell_other (by simp), cell_other (by simp)]) (fun i => by simp only [World.frozen?_setCell]) HD.out NX.out HU.out H2.out (fun e => by cases e)⟩
  · have A21 : Hid (∀ y, Below wo.heap.size wo y → Calls Tryz.prog 21 #[.pointer (some ⟨p, 0, none⟩), .int .i64 X] y fun e w' => e = .returned (.int .i64 (ft : Nat)) ∧ Below y.heap.size y w') := Lib.hid fun y hy => by
      rw [hft] at hf ⊢
      exact trim_refused y U B p g N V L ov (WB.out y hy) hs X hf
    have c1 : ((ft : Int) == 0) = false := by simp; omega
    have c2 : ((ft : Int) != 0) = true := by simp [bne, c1]
    have c3 : ((ft : Int) == (ft : Int)) = true := by simp
    have kX := CX.out wo.drew (Chg.of_below (Below.refl wo.heap.size wo).drew (Nat.le_refl _) U)
    have kF := CF.out wo.drew (Chg.of_below (Below.refl wo.heap.size wo).drew (Nat.le_refl _) U)
    have tm : Int.tmod n 1000 = t := ht.symm
    clear hf hft hwo ho hos hrs hUw hi h hN hB hs hX ht1 hF hk ht
    go_enter Tryz.func9, Tryz.ntmps9
    go_upto_region 1 with (fail)
    rw [← HW.out.1, ← HW.out.2]
    go_upto_region 6 with (fail)
    go_region
    go_wp2_with fail
    have kY := CX.out wo.drew.drew ((Chg.refl wo U).drew.drew)
    go_region_held_law (fun y : World => y.cell? ⟨r, 1, none⟩ = some (.pointer (some ⟨p, 0, none⟩)) ∧ y.cell? ⟨r, 2, none⟩ = some (.pointer (some ⟨q, 0, none⟩)))
      (first | exact ⟨kY.2.1, kY.2.2.1⟩ | exact ⟨(CX.out _ C4.out).2.1, (CX.out _ C4.out).2.2.1⟩ | exact ⟨(CX.out _ C5.out).2.1, (CX.out _ C5.out).2.2.1⟩)
      (first | (go_simp; go_at_call 21; refine (A21.out _ (Below.refl _ wo).drew.drew).mono ?_; rintro e w4 ⟨rfl, k1⟩; have B4 := Lib.hid (show Below wo.heap.size wo w4 from ⟨k1.os, k1.tape, k1.output, k1.size, k1.block⟩); have C4 := Lib.hid (BC.out _ B4.out); clear k1; dsimp only) | (go_simp; go_at_call 22; refine (A22.out _ (by first | exact C4.out)).mono ?_; rintro e w5 ⟨rfl, k2⟩; have B5 := Lib.hid (B4.out.trans (k2.mono B4.out.size)); have C5 := Lib.hid (BC.out _ B5.out); clear k2; dsimp only))
    go_wp2_with fail
    go_ret
    exact ⟨rfl, run_keep (w4 := w) (U' := U) HH.out (Chg.refl _ _) HH.out.rn.ws (fun _ e => .inl e) (HB.out.trans (B5.out.mono HB.out.size)) (fun e => (HH.out.lv e).2) (fun _ => rfl) (Nat.le_succ k) HUk.out H2.out (fun e => by cases e)⟩
end X11
end Go.Proofs.YtdaknlmnelfedaaGreatDoor
