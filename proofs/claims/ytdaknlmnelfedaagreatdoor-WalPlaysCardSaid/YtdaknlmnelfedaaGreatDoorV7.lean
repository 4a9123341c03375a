/- The log's Append. -/
import Derived.Test.YtdaknlmnelfedaaGreatDoorV6
namespace Go.Proofs.YtdaknlmnelfedaaGreatDoor
open Go.RowKit Go.Maps Go.ChangeMaps Go.MapKept
namespace V7
open Jb Jm Jd Jw Jx Jn Je Jf Jg Jh Jk Jc Jl Jo Jq Jr J1 J2 J3 J4 W1 W2 W3 V1 V2 V3 V4 V5 V6

/-- An entry more, in memory. -/
theorem ws_push {w : World} {U : Nat → Prop} {B p g N : Nat} {V : Vw} {L : Lg} {ov : Bool} {bs : List Nat} (h : WS w U B p g N V L ov) (hb : bs.length ≤ 140737488355328) (hby : ∀ x ∈ bs, x < 256) (hn : (L.es.length + 1) * 24 ≤ 140737488355328) :
    ∃ a c, w.cell? ⟨p, 2, none⟩ = some (.slice a L.es.length c) ∧ w.frozen? ⟨p, 2, none⟩ = false ∧ (∀ y, Below w.heap.size w y → y.cell? ⟨p, 2, none⟩ = some (.slice a L.es.length c)) ∧
      ∀ x xb cv, Below w.heap.size w x → Src x (fun k => w.heap.size ≤ k) cv bs → x.cell? ⟨xb, 0, none⟩ = some cv → ∀ ty, ∃ v' x', (Builtin.append_ #[29, 29] ty #[.slice a L.es.length c, .slice (some ⟨xb, 0, none⟩) 1 1]).run Tryz.prog x = .ok v' x' ∧
        (∃ a' n' c', v' = .slice a' n' c' ∧ x'.cell? ⟨p, 2, none⟩ = some (.slice a L.es.length c) ∧ x'.frozen? ⟨p, 2, none⟩ = false ∧ WS (x'.setCell ⟨p, 2, none⟩ v') (New U w (x'.setCell ⟨p, 2, none⟩ v')) B p g N V (L.app bs) ov ∧ Chg w (x'.setCell ⟨p, 2, none⟩ v') U) := by
  obtain ⟨S, T, h1, h2, h3, h4, h5⟩ := h.ex
  obtain ⟨ev, c2, er⟩ := h2.c2
  obtain ⟨a, c, rfl⟩ := er.form
  have pw := h2.lt p h2.tp
  refine ⟨a, c, c2, h2.z 2, fun y hy => (World.cell?_of_block (hy.block p pw)).trans c2, fun x xb cv hx hcv hcell ty => ?_⟩
  obtain ⟨v', x', hrun, r1, r2, T', r3, r4, r5, r6⟩ := run_app er h2.lt h2.tp hx.size (fun k hk => hx.block k (h2.lt k hk)) hcv hcell hn ty
  have px : x'.heap[p]? = w.heap[p]? := r2.trans (hx.block p pw)
  have cx2 : x'.cell? ⟨p, 2, none⟩ = some (.slice a L.es.length c) := (World.cell?_of_block px).trans c2
  have cwx : Chg w x' T := (Chg.of_below hx (Nat.le_refl _) T).trans r1 fun k hk _ => hk
  have cw : Chg w (x'.setCell ⟨p, 2, none⟩ v') T := cwx.trans ((Chg.refl x' T).setCell h2.tp _) fun k hk _ => hk
  have ne : ∀ i, i ≠ 2 → (x'.setCell ⟨p, 2, none⟩ v').cell? ⟨p, i, none⟩ = w.cell? ⟨p, i, none⟩ := fun i hi => (cell_other (by simp <;> omega)).trans (World.cell?_of_block px)
  have lm : LM (x'.setCell ⟨p, 2, none⟩ v') T' p g (L.app bs) ov :=
    ⟨(ne 0 (by decide)).trans h2.c0, (ne 1 (by decide)).trans h2.c1, ⟨v', cell_same cx2, r3.move (fun _ hk => hk) fun k _ hk => heap_setCell_ne hk⟩, (ne 3 (by decide)).trans h2.c3,
      fun i => by simpa using (World.frozen?_of_block px).trans (h2.z i), r4 p h2.tp, fun k hk => by simpa using r6 k hk,
      fun b hb' => by
        rcases List.mem_append.1 hb' with e | e
        · exact h2.byte b e
        · have : b = bs := by simpa using e
          rw [this]; exact hby,
      fun b hb' => by
        rcases List.mem_append.1 hb' with e | e
        · exact h2.len b e
        · have : b = bs := by simpa using e
          rw [this]; exact hb⟩
  obtain ⟨q1, q2⟩ := h.mem h1 h3 h4 h5 lm r5 cw
  obtain ⟨a', c', e'⟩ := r3.form
  exact ⟨v', x', hrun, a', _, c', e', cx2, (World.frozen?_of_block px).trans (h2.z 2), q1, q2⟩
/-- What an Append answers, and leaves. -/
def App (V : Vw) (L : Lg) (bs : List Nat) (er : Nat) (V' : Vw) (L' : Lg) (ov' : Bool) : Prop :=
  Kp V V' ∧ V'.used ≤ V.used + bs.length ∧ ((er = 8 ∧ ov' = true ∧ L' = L ∧ V.fused = true ∧ V'.down = true ∧ Dirt V' L) ∨ (er = 7 ∧ ov' = false ∧ L' = L ∧ V'.down = false ∧ Cln V' L ∧ V.room < V.used + bs.length) ∨
    (er = 0 ∧ ov' = false ∧ L' = L.app bs ∧ V'.down = false ∧ Cln V' (L.app bs)))
set_option maxRecDepth 100000 in
theorem Append7 (w : World) (U : Nat → Prop) (B p g N : Nat) (V : Vw) (L : Lg) (h : WS w U B p g N V L false) (hc : Cln V L) (hd : V.down = false) (hs : Sm L.nx) (v : Value) (bs : List Nat) (R : Nat → Prop) (hR : ∀ k, R k → ¬ U k ∧ k < w.heap.size) (hv : Src w R v bs) (hcap : ∀ c, v = .slice none bs.length c → c = 0) (hby : ∀ x ∈ bs, x < 256)
    (h1 : 1 ≤ bs.length) (h2 : bs.length ≤ 1048576) (hN : N ≤ 140737488350000) (hB : V.used + bs.length ≤ 140737488355328) (hn : (L.es.length + 1) * 24 ≤ 140737488355328) :
    Calls Tryz.prog 17 #[.pointer (some ⟨p, 0, none⟩), v] w fun e w' => ∃ (er : Nat) (V' : Vw) (L' : Lg) (ov' : Bool), e = .returned (.int .i64 (er : Nat)) ∧ WS w' (New U w w') B p g (N + 2) V' L' ov' ∧ Chg w w' U ∧ App V L bs er V' L' ov' := by
  obtain ⟨va, vc, rfl⟩ := hv.forms
  have OV : Hid (Calls Tryz.prog 34 #[.pointer (some ⟨p, 0, none⟩)] w fun e w' => e = .returned (.bool false) ∧ w' = w) := Lib.hid (by
    obtain ⟨S, T, k1, k2, _⟩ := h.ex
    exact over16 w T p g L false k2)
  have LY := Lib.hid (lay17 w U B p g N V L false h hc hd hs _ bs R (fun k hk => (hR k hk).1) hv hcap hby hN hB)
  have FL : Hid (∀ w1 V1 er, WS w1 (New U w w1) B p g (N + 2) V1 L false → Calls Tryz.prog 36 #[.pointer (some ⟨p, 0, none⟩), .int .i64 (er : Nat)] w1 _) := Lib.hid fun w1 V1 er k => fail18 w1 (New U w w1) B p g (N + 2) V1 L false k er
  have PU : Hid (∀ w1 V1, WS w1 (New U w w1) B p g (N + 2) V1 L false → _) := Lib.hid fun w1 V1 k => ws_push (bs := bs) k (by omega) hby hn
  have SR : Hid (∀ w1 V1, Chg w w1 U → WS w1 (New U w w1) B p g (N + 2) V1 L false → ∀ y, Below w1.heap.size w1 y → Calls Tryz.prog 37 #[.slice va bs.length vc] y fun e y' => ∃ q qc, e = .returned (.slice (some ⟨q, 0, none⟩) bs.length qc) ∧ Src y' (fun k => w1.heap.size ≤ k) (.slice (some ⟨q, 0, none⟩) bs.length qc) bs ∧ Below w1.heap.size w1 y') := Lib.hid fun w1 V1 c k y hy => by
    have s1 : Src y R (.slice va bs.length vc) bs := hv.move fun k hk hl => (hy.block k (by have := c.size; omega)).trans (c.block k hl (hR k hk).1)
    refine (clone45 y R _ bs s1 (by omega)).mono ?_
    rintro e y' ⟨v', rfl, o, b⟩
    have hz := hy.size
    obtain ⟨q, qc, rfl⟩ := Go.Joins.ownsRow_form o (by omega)
    exact ⟨q, qc, rfl, (src_own o).imp fun k hk => by omega, hy.trans (b.mono hz)⟩
  obtain ⟨l, hl⟩ : ∃ l, l = bs.length := ⟨_, rfl⟩
  rw [← hl] at SR LY h1 h2 ⊢
  have d1 : decide ((l : Int) < 1) = false := decide_eq_false (by omega)
  have d2 : decide ((l : Int) > 1048576) = false := decide_eq_false (by omega)
  have HL := Lib.hid hl
  clear h hc hd hs hR hv hcap hby h1 h2 hN hB hn hl
  go_enter Tryz.func17, Tryz.ntmps17
  go_wp2_with (first | (go_at_call 34; refine (OV.out).mono ?_; rintro e w ⟨rfl, rfl⟩) | (go_at_call 35; refine (LY.out).mono ?_; rintro e w1 ⟨er, V1, rfl, k1, k2, k3, ⟨rfl, k4⟩ | ⟨rfl, k4⟩ | ⟨rfl, k4⟩⟩))
  · have F1 := Lib.hid (FL.out w1 V1 8 k1)
    have K2 := Lib.hid k2
    have K3 := Lib.hid k3
    have K4 := Lib.hid k4
    clear k1 k2 k3 k4
    go_wp2_with (go_at_call 36; refine (F1.out).mono ?_; rintro e w2 ⟨rfl, j1, j2⟩)
    go_ret
    obtain ⟨k4, k5, k6, k7⟩ := K4.out
    exact ⟨8, V1, L, true, rfl, j1.two K2.out.size j2.size, Chg.U K2.out j2, K3.out, k7, .inl ⟨rfl, rfl, rfl, k4, k5, k6⟩⟩
  · have F1 := Lib.hid (FL.out w1 V1 7 k1)
    have K2 := Lib.hid k2
    have K3 := Lib.hid k3
    have K4 := Lib.hid k4
    clear k1 k2 k3 k4
    go_wp2_with (go_at_call 36; refine (F1.out).mono ?_; rintro e w2 ⟨rfl, j1, j2⟩)
    go_ret
    obtain ⟨k4, k5, k6, k7⟩ := K4.out
    exact ⟨7, V1, L, false, rfl, j1.two K2.out.size j2.size, Chg.U K2.out j2, K3.out, k7, .inr (.inl ⟨rfl, rfl, rfl, k4, k5, k6⟩)⟩
  · obtain ⟨a, c, p1, p2, p3, p4⟩ := PU.out w1 V1 k1
    have CL := Lib.hid (SR.out w1 V1 k2 k1)
    have P3 := Lib.hid p3
    have P4 := Lib.hid p4
    have K2 := Lib.hid k2
    have K3 := Lib.hid k3
    have K4 := Lib.hid k4
    have b0 : Below w1.heap.size w1 w1.drew := ⟨rfl, rfl, rfl, Nat.le_refl _, fun _ _ => rfl⟩
    have kX := p3 _ b0
    clear k1 k2 k3 k4 p3 p4
    go_upto_region 8 with (fail)
    go_region_law (first | (go_simp; go_at_call 37; refine (CL.out _ b0).mono ?_; rintro e y ⟨q, qc, rfl, s1, b1⟩; have kY := P3.out _ b1; have kZ := P3.out _ (b1.alloc b1.size (.cells #[.slice (some ⟨q, 0, none⟩) l qc] 36)); dsimp only) | (refine step_append rfl (.tmp 28) (.tmp 31) 29 rfl (.slice a L.es.length c) _ (by simp [Act.eval]) (by simp [Act.eval]) _ (P4.out _ y.heap.size (.slice (some ⟨q, 0, none⟩) l qc) (b1.alloc b1.size _) (s1.move fun k _ hk => Below.heap_alloc _ _ _ hk) (new_cell _ _ _ 0 _ rfl)) ?_; intro v7 w7 h7; obtain ⟨a7, n7, c7, rfl, f7, z7, h8⟩ := h7; have H7 := Lib.hid h8; clear h8))
    all_goals
      go_wp2_with fail
      go_ret
      obtain ⟨k4, k5, k6⟩ := K4.out
      obtain ⟨m1, m2⟩ := H7.out
      exact ⟨0, V1, _, false, rfl, m1.two K2.out.size m2.size, Chg.U K2.out m2, K3.out, k6, .inr (.inr ⟨rfl, rfl, rfl, k4, k5⟩)⟩
end V7
end Go.Proofs.YtdaknlmnelfedaaGreatDoor
