/- The log's forget. -/
import Derived.Test.YtdaknlmnelfedaaGreatDoorV8
namespace Go.Proofs.YtdaknlmnelfedaaGreatDoor
open Go.RowKit Go.Maps Go.ChangeMaps Go.MapKept
namespace V9
open Jb Jm Jd Jw Jx Jn Je Jf Jg Jh Jk Jc Jl Jo Jq Jr J1 J2 J3 J4 W1 W2 W3 V1 V2 V3 V4 V5 V6 V7 V8

/-- 'clear(s)' at the operation. -/
theorem wpList_clr {w w' : World} {ops : Array Oper} {rest : List Oper} {o : Oper} {a : Act} {Q : Exit → Act → World → Prop} (hg : o.guard = none) (x : Operand) (hop : o.op = Op.call { callee := Callee.builtin Builtin.clear, args := #[x], argTypes := #[29] })
    (v : Value) (hm : a.eval x = v) (hrun : ∀ ty, (Builtin.clear_ #[29] ty #[v]).run Tryz.prog w = .ok (.tuple #[]) w')
    (hK : wpList Tryz.prog ops Q rest (a.put o.dst (.tuple #[])) w') : wpList Tryz.prog ops Q (o :: rest) a w := by
  refine wpList_plain hg fun K' hK' => ?_
  unfold Oper.wp
  simp [execOp, hop, resolve, invoke, builtin, hm, hrun, Result.andThen]
  exact hK' _ _ hK
theorem clr0 (w : World) (a : Option Addr) (c : Nat) (ty : TypeId) : (Builtin.clear_ #[29] ty #[.slice a 0 c]).run Tryz.prog w = .ok (.tuple #[]) w := by
  cases a <;> simp [Builtin.clear_, run_underlying Tryz.underlying29, Result.andThen]
theorem zero23 : ∀ w, (zeroValue 36).run Tryz.prog w = .ok (.slice none 0 0) w := fun w => by kernel_rfl
theorem setCells_heap (b k : Nat) (hk : k ≠ b) : ∀ (vs : List Value) (o : Nat) (w : World), (w.setCells b o vs).heap[k]? = w.heap[k]?
  | [], _, _ => rfl
  | v :: r, o, w => by rw [World.setCells, setCells_heap b k hk r (o + 1) _]; exact heap_setCell_ne hk
theorem setCells_size (b : Nat) : ∀ (vs : List Value) (o : Nat) (w : World), (w.setCells b o vs).heap.size = w.heap.size
  | [], _, _ => rfl
  | v :: r, o, w => by rw [World.setCells, setCells_size b r (o + 1) _]; simp
theorem setCells_chg (b : Nat) (T : Nat → Prop) (hb : T b) : ∀ (vs : List Value) (o : Nat) (w : World), Chg w (w.setCells b o vs) T
  | [], _, w => Chg.refl w T
  | v :: r, o, w => by
    rw [World.setCells]
    exact ((Chg.refl w T).setCell hb v).trans (setCells_chg b T hb r (o + 1) _) fun k hk _ => hk
/-- What the log is when its first entries are forgotten. -/
def Fin (w : World) (T : Nat → Prop) (p g : Nat) (L : Lg) (ov : Bool) (n : Nat) (w' : World) : Prop := LM w' T p g (L.trim n) ov ∧ Chg w w' T
theorem fin_of {w w' : World} {T : Nat → Prop} {p g : Nat} {L : Lg} {ov : Bool} {n : Nat} {ev : Value} (h : LM w T p g L ov) (c : Chg w w' T) (hs : w'.heap.size = w.heap.size) (k0 : w'.cell? ⟨p, 0, none⟩ = w.cell? ⟨p, 0, none⟩) (k1 : w'.cell? ⟨p, 1, none⟩ = some (.int .i64 (n : Nat))) (k2 : w'.cell? ⟨p, 2, none⟩ = some ev)
    (k3 : w'.cell? ⟨p, 3, none⟩ = w.cell? ⟨p, 3, none⟩) (kz : ∀ i, w'.frozen? ⟨p, i, none⟩ = w.frozen? ⟨p, i, none⟩) (er : ER w' p T ev (L.es.drop (n - L.first))) : Fin w T p g L ov n w' :=
  ⟨⟨k0.trans h.c0, k1, ⟨ev, k2, er⟩, k3.trans h.c3, fun i => (kz i).trans (h.z i), h.tp, fun k hk => by rw [hs]; exact h.lt k hk, fun b hb => h.byte b (List.mem_of_mem_drop hb), fun b hb => h.len b (List.mem_of_mem_drop hb)⟩, c⟩
theorem forget21 (w : World) (T : Nat → Prop) (p g : Nat) (L : Lg) (ov : Bool) (h : LM w T p g L ov) (n : Nat) (h1 : L.first ≤ n) (h2 : n ≤ L.nx) (hs : Sm L.nx) :
    Calls Tryz.prog 39 #[.pointer (some ⟨p, 0, none⟩), .int .i64 (n : Nat)] w fun e w' => e = .returned (.tuple #[]) ∧ Fin w T p g L ov n w' := by
  obtain ⟨D, hD⟩ : ∃ D, D = n - L.first := ⟨_, rfl⟩
  obtain ⟨F, hF⟩ : ∃ F, F = L.first := ⟨_, rfl⟩
  have c1 := h.c1
  have z1 := h.z 1
  have z2 := h.z 2
  obtain ⟨ev, c2, er⟩ := h.c2
  rw [← hF] at c1
  have nsm : n ≤ 1000000000000000000 := by unfold Sm at hs; omega
  have q : IntKind.i64.wrap ((n : Int) - (F : Nat)) = (D : Int) := by rw [IntKind.wrap_i64]; omega
  have q' : wrap64 ((n : Int) - (F : Nat)) = (D : Int) := by unfold wrap64; omega
  have hDl : D ≤ L.es.length := by unfold Lg.nx at h2; omega
  rcases er with ⟨e0, rfl⟩ | ⟨b, off, cap, rfl, h0, hc1, hc2, hTb, hbp, hcells, hel⟩
  · -- none
    have D0 : D = 0 := by rw [e0] at hDl; simpa using hDl
    have FN : Hid (∀ w', w' = ((w.setCell ⟨p, 2, none⟩ (.slice none 0 0)).setCell ⟨p, 2, none⟩ (.slice none 0 0)).setCell ⟨p, 1, none⟩ (.int .i64 (n : Nat)) → Fin w T p g L ov n w') := Lib.hid fun w' hw => by
      rw [hw]
      refine fin_of (ev := .slice none 0 0) h ((((Chg.refl w T).setCell h.tp _).setCell h.tp _).setCell h.tp _) (by simp) ?_ ?_ ?_ ?_ (fun i => by simp) (.inl ⟨by rw [e0]; simp, rfl⟩)
      · rw [cell_other (by simp), cell_other (by simp), cell_other (by simp)]
      · exact cell_same (by rw [cell_other (by simp), cell_other (by simp)]; exact c1)
      · rw [cell_other (by simp)]; exact cell_same (cell_same c2)
      · rw [cell_other (by simp), cell_other (by simp), cell_other (by simp)]
    subst D0
    have cl := clr0 w none 0
    clear h h1 h2 hs e0 hDl hD hF nsm
    go_enter Tryz.func39, Tryz.ntmps39
    go_wp2_with (at_builtin; refine wpList_clr rfl _ rfl _ rfl cl ?_)
    refine bodyPost_end (v := .tuple #[]) (by simp [results, Tryz.results39, go_sem]) rfl ⟨rfl, FN.out _ rfl⟩
  · obtain ⟨l, hl⟩ : ∃ l, l = L.es.length := ⟨_, rfl⟩
    have hpb : p ≠ b := fun e => hbp e.symm
    have ecap : cap ≠ 0 := by omega
    -- the row behind it
    have ROW : Hid (∀ w', (∀ k, k ≠ b → k ≠ p → w'.heap[k]? = w.heap[k]?) → (∀ j, D ≤ j → w'.cell? ⟨b, off + j, none⟩ = w.cell? ⟨b, off + j, none⟩) → (∀ j, w'.frozen? ⟨b, j, none⟩ = w.frozen? ⟨b, j, none⟩) → D < l →
        ER w' p T (.slice (some ⟨b, off + D, none⟩) (l - D) (cap - D)) (L.es.drop D)) := Lib.hid fun w' f1 f2 f3 hDl' => by
      refine .inr ⟨b, off + D, cap - D, by rw [List.length_drop, hl], by rw [List.length_drop]; omega, by rw [List.length_drop]; omega, by omega, hTb, hbp, fun j hj => ?_, fun i hi => ?_⟩
      · rw [Nat.add_assoc, f2 (D + j) (by omega), f3]
        exact hcells (D + j) (by omega)
      · have hi' : D + i < L.es.length := by rw [List.length_drop] at hi; omega
        obtain ⟨v, a, c⟩ := hel (D + i) hi'
        refine ⟨v, ?_, ?_⟩
        · rw [Nat.add_assoc, f2 (D + i) (by omega)]; exact a
        · rw [List.getElem_drop]
          exact c.move fun k hk _ => f1 k hk.2.1 hk.2.2
    rw [← hl] at c2 hc1 h0 hDl
    by_cases hD0 : D = 0
    · have FN : Hid (∀ w', w' = (w.setCell ⟨p, 2, none⟩ (.slice (some ⟨b, off, none⟩) l cap)).setCell ⟨p, 1, none⟩ (.int .i64 (n : Nat)) → Fin w T p g L ov n w') := Lib.hid fun w' hw => by
        have R := ROW.out w' (fun k _ hk => by rw [hw, heap_setCell_ne hk, heap_setCell_ne hk]) (fun j _ => by rw [hw, cell_other (by simp), cell_other (by simp)]) (fun j => by rw [hw]; simp) (by omega)
        rw [hD0] at R
        rw [hw] at R ⊢
        refine fin_of (ev := .slice (some ⟨b, off, none⟩) l cap) h (((Chg.refl w T).setCell h.tp _).setCell h.tp _) (by simp) ?_ ?_ ?_ ?_ (fun i => by simp) (by rw [← hD, hD0]; simpa using R)
        · rw [cell_other (by simp), cell_other (by simp)]
        · exact cell_same (by rw [cell_other (by simp)]; exact c1)
        · rw [cell_other (by simp)]; exact cell_same c2
        · rw [cell_other (by simp), cell_other (by simp)]
      subst hD0
      have cl := clr0 w (some ⟨b, off, none⟩) cap
      have hl0 : l ≠ 0 := by omega
      clear h h1 h2 hs hDl hD hF nsm hcells hel ROW hl hTb
      go_enter Tryz.func39, Tryz.ntmps39
      go_wp2_with (at_builtin; refine wpList_clr rfl _ rfl _ rfl cl ?_)
      refine bodyPost_end (v := .tuple #[]) (by simp [results, Tryz.results39, go_sem]) rfl ⟨rfl, FN.out _ rfl⟩
    · obtain ⟨W, hW⟩ : ∃ W, W = w.setCells b off (List.replicate D (.slice none 0 0)) := ⟨_, rfl⟩
      have cl : ∀ ty, (Builtin.clear_ #[29] ty #[.slice (some ⟨b, off, none⟩) D cap]).run Tryz.prog w = .ok (.tuple #[]) W := fun ty => by
        rw [hW]
        exact Lib.run_clear_slice w 29 36 ty (.slice none 0 0) Tryz.underlying29 zero23 rfl rfl b off D cap (by omega) (fun j hj => (hcells j (by omega)).1) (fun j hj => (hcells j (by omega)).2)
      have wo : ∀ k, k ≠ b → W.heap[k]? = w.heap[k]? := fun k hk => by
        rw [hW]
        exact setCells_heap b k hk _ off w
      have wc : ∀ j, D ≤ j → W.cell? ⟨b, off + j, none⟩ = w.cell? ⟨b, off + j, none⟩ := fun j hj => by
        rw [hW]
        exact World.cell?_setCells_out b _ off w ⟨b, off + j, none⟩ (fun _ _ => .inr (by simp; omega))
      have wz : ∀ a, W.frozen? a = w.frozen? a := fun a => by rw [hW]; exact World.frozen?_setCells b _ off w a
      have ws : W.heap.size = w.heap.size := by rw [hW]; exact setCells_size b _ off w
      have wch : Chg w W T := by rw [hW]; exact setCells_chg b T hTb _ off w
      have k1 : W.cell? ⟨p, 1, none⟩ = some (.int .i64 (F : Nat)) := (World.cell?_of_block (wo p hpb)).trans c1
      have k2 : W.cell? ⟨p, 2, none⟩ = some (.slice (some ⟨b, off, none⟩) l cap) := (World.cell?_of_block (wo p hpb)).trans c2
      have y1 : W.frozen? ⟨p, 1, none⟩ = false := (wz _).trans z1
      have y2 : W.frozen? ⟨p, 2, none⟩ = false := (wz _).trans z2
      have wp : ∀ i, W.cell? ⟨p, i, none⟩ = w.cell? ⟨p, i, none⟩ := fun i => World.cell?_of_block (wo p hpb)
      by_cases hDl' : D < l
      · have FN : Hid (∀ w', w' = (W.setCell ⟨p, 2, none⟩ (.slice (some ⟨b, off + D, none⟩) (l - D) (cap - D))).setCell ⟨p, 1, none⟩ (.int .i64 (n : Nat)) → Fin w T p g L ov n w') := Lib.hid fun w' hw => by
          have R := ROW.out w' (fun k hk hk2 => by rw [hw, heap_setCell_ne hk2, heap_setCell_ne hk2, wo k hk]) (fun j hj => by rw [hw, cell_other (by simp), cell_other (by simp), wc j hj]) (fun j => by rw [hw]; simpa using wz _) hDl'
          rw [hw] at R ⊢
          refine fin_of (ev := .slice (some ⟨b, off + D, none⟩) (l - D) (cap - D)) h ((wch.setCell h.tp _).setCell h.tp _) (by simpa using ws) ?_ ?_ ?_ ?_ (fun i => by simpa using wz _) (by rw [← hD]; exact R)
          · rw [cell_other (by simp), cell_other (by simp), wp]
          · exact cell_same (by rw [cell_other (by simp)]; exact k1)
          · rw [cell_other (by simp)]; exact cell_same k2
          · rw [cell_other (by simp), cell_other (by simp), wp]
        have g1 : ¬ cap = D := by omega
        have g2 : ¬ l - D = 0 := by omega
        clear h h1 h2 hs hDl hD hF nsm hcells hel ROW hl hTb hD0 hW wo wc wz ws wch wp
        go_enter Tryz.func39, Tryz.ntmps39
        go_wp2_with (at_builtin; refine wpList_clr rfl _ rfl _ rfl cl ?_)
        refine bodyPost_end (v := .tuple #[]) (by simp [results, Tryz.results39, go_sem]) rfl ⟨rfl, FN.out _ rfl⟩
      · have FN : Hid (∀ w' X, w' = ((W.setCell ⟨p, 2, none⟩ X).setCell ⟨p, 2, none⟩ (.slice none 0 0)).setCell ⟨p, 1, none⟩ (.int .i64 (n : Nat)) → Fin w T p g L ov n w') := Lib.hid fun w' X hw => by
          rw [hw]
          refine fin_of (ev := .slice none 0 0) h (((wch.setCell h.tp _).setCell h.tp _).setCell h.tp _) (by simpa using ws) ?_ ?_ ?_ ?_ (fun i => by simpa using wz _) (.inl ⟨by rw [← hD]; exact List.drop_eq_nil_of_le (by omega), rfl⟩)
          · rw [cell_other (by simp), cell_other (by simp), cell_other (by simp), wp]
          · exact cell_same (by rw [cell_other (by simp), cell_other (by simp)]; exact k1)
          · rw [cell_other (by simp)]; exact cell_same (cell_same k2)
          · rw [cell_other (by simp), cell_other (by simp), cell_other (by simp), wp]
        obtain rfl : D = l := by omega
        by_cases g1 : cap = D
        · subst g1
          clear h h1 h2 hs hDl hD hF nsm hcells hel ROW hl hTb hD0 hW wo wc wz ws wch wp hDl' hc1
          go_enter Tryz.func39, Tryz.ntmps39
          go_wp2_with (at_builtin; refine wpList_clr rfl _ rfl _ rfl cl ?_)
          refine bodyPost_end (v := .tuple #[]) (by simp [results, Tryz.results39, go_sem]) rfl ⟨rfl, FN.out _ _ rfl⟩
        · clear h h1 h2 hs hDl hD hF nsm hcells hel ROW hl hTb hD0 hW wo wc wz ws wch wp hDl'
          go_enter Tryz.func39, Tryz.ntmps39
          go_wp2_with (at_builtin; refine wpList_clr rfl _ rfl _ rfl cl ?_)
          refine bodyPost_end (v := .tuple #[]) (by simp [results, Tryz.results39, go_sem]) rfl ⟨rfl, FN.out _ _ rfl⟩
end V9
end Go.Proofs.YtdaknlmnelfedaaGreatDoor
