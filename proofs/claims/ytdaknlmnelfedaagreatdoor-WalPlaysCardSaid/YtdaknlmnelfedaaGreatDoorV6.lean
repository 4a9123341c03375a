/- A slice of bytes is appended to the log's entries. -/
import Derived.Test.YtdaknlmnelfedaaGreatDoorV5
import Derived.ArgAppend
import Derived.Lib.SliceRun
namespace Go.Proofs.YtdaknlmnelfedaaGreatDoor
open Go.RowKit Go.Maps Go.ChangeMaps Go.MapKept
namespace V6
open Jb Jm Jd Jw Jx Jn Je Jf Jg Jh Jk Jc Jl Jo Jq Jr J1 J2 J3 J4 W1 W2 W3 V1 V2 V3 V4 V5

theorem info23 : (Tryz.prog.info? 36).map (fun i => (i.zero, i.size, i.bytes)) = some (some (.slice none 0 0), 1, 24) := by kernel_rfl
theorem sl_one (a : Option Addr) (n c : Nat) : (Value.slice a n c).oneCell' = true := rfl
theorem run_app {w x : World} {p : Nat} {T : Nat → Prop} {ev cv : Value} {es : List (List Nat)} {bs : List Nat} {xb : Nat} (er : ER w p T ev es) (hlt : ∀ k, T k → k < w.heap.size) (hp : T p) (hs : w.heap.size ≤ x.heap.size) (hx : ∀ k, T k → x.heap[k]? = w.heap[k]?)
    (hcv : Src x (fun k => w.heap.size ≤ k) cv bs) (hcell : x.cell? ⟨xb, 0, none⟩ = some cv) (hn : (es.length + 1) * 24 ≤ 140737488355328) (ty : TypeId) :
    ∃ v' x', (Builtin.append_ #[29, 29] ty #[ev, .slice (some ⟨xb, 0, none⟩) 1 1]).run Tryz.prog x = .ok v' x' ∧ Chg x x' T ∧ x'.heap[p]? = x.heap[p]? ∧ ∃ T', ER x' p T' v' (es ++ [bs]) ∧ (∀ k, T k → T' k) ∧ (∀ k, T' k → T k ∨ w.heap.size ≤ k) ∧ ∀ k, T' k → k < x'.heap.size := by
  obtain ⟨i0, hi, hz0, hz1, hz2⟩ := info_parts info23
  have hone : cv.oneCell' = true := by
    obtain ⟨a, c, rfl⟩ := hcv.forms
    rfl
  have hlen1 : ([cv] : List Value).length = 1 * 1 := rfl
  have hnews : ∀ j u, ([cv] : List Value)[j]? = some u → x.cell? ((⟨xb, 0, none⟩ : Addr).add j) = some u := by
    intro j u hj
    match j, hj with
    | 0, hj =>
      have : cv = u := by simpa using hj
      rw [← this]
      exact hcell
    | j + 1, hj => simp at hj
  have h1c : ∀ u ∈ [cv], u.oneCell' = true := by
    intro u hu
    have : u = cv := by simpa using hu
    rw [this]; exact hone
  have pw : p < w.heap.size := hlt p hp
  have hsrcfoot : ∀ y : World, (∀ k, k < x.heap.size → w.heap.size ≤ k → y.heap[k]? = x.heap[k]?) → Src y (fun k => w.heap.size ≤ k ∧ k < x.heap.size) cv bs := fun y hy => by
    rcases hcv with h | ⟨h0, b, off, c, a1, a2, a3, a4⟩
    · exact .inl h
    · have hb : b < x.heap.size := by have := cell_lt (a4 0 h0); exact this
      exact .inr ⟨h0, b, off, c, a1, a2, ⟨a3, hb⟩, fun i hi' => (World.cell?_of_block (hy b hb a3)).trans (a4 i hi')⟩
  rcases er with ⟨rfl, rfl⟩ | ⟨b, off, cap, rfl, h0, hc1, hc2, hTb, hbp, hcells, hel⟩
  · -- none yet
    obtain ⟨v', x', hrun, r1, r2, _, r4⟩ := run_append_own_at (P := Tryz.prog) x x.heap.size 29 ty 36 i0 (.slice none 0 0) 1 24 Tryz.underlying29 hi hz0 hz1 hz2 rfl (by decide) (.slice none 0 0) 0 [] (World.ownsRow_nil x _ 36 1) ⟨xb, 0, none⟩ 1 1 [cv] hlen1 hnews h1c (by unfold maxLen; omega) (by omega) (Nat.le_refl _)
    have hgr : ∀ k, k < x.heap.size → x'.heap[k]? = x.heap[k]? := fun k hk => r2.block k hk (by simp [Value.ownBlock])
    obtain ⟨_, ⟨_, e0⟩ | ⟨g, c, cur, rfl, hg, hh, hnc, hcm, hsz, htk⟩⟩ := r1
    · omega
    · have hg' : g < x'.heap.size := by
        rcases Nat.lt_or_ge g x'.heap.size with h | h
        · exact h
        · rw [Array.getElem?_eq_none h] at hh; cases hh
      refine ⟨_, x', hrun, Chg.of_grown r2 T (fun k hk _ => by simp [Value.ownBlock] at hk), hgr p (by omega), fun k => T k ∨ (w.heap.size ≤ k ∧ k < x'.heap.size), .inr ⟨g, 0, c, rfl, by simp, by simpa using hnc, hcm, .inr ⟨by omega, hg'⟩, by omega, fun j hj => ?_, fun i hi' => ?_⟩, fun k hk => .inl hk, fun k hk => hk.imp id fun e => e.1, fun k hk => hk.elim (fun e => by have := hlt k e; have := r2.size; omega) fun e => e.2⟩
      · rw [Nat.zero_add, Go.cell_of_row x' g j cur 36 (0, 0) hh, Go.frozen_of_row x' g j cur 36 hh]
        refine ⟨?_, rfl⟩
        rw [Array.getElem?_eq_getElem (by omega)]
        rfl
      · have hi0 : i = 0 := by simpa using hi'
        subst hi0
        refine ⟨cv, ?_, ?_⟩
        · rw [Go.cell_of_row x' g _ cur 36 (0, 0) hh]
          have : cur.toList.take 1 = [cv] := by simpa using htk
          have e2 : (cur.toList.take 1)[0]? = some cv := by rw [this]; rfl
          simpa using e2
        · exact (hsrcfoot x' fun k hk _ => hgr k hk).imp fun k hk => ⟨.inr ⟨hk.1, by have := r2.size; omega⟩, by omega, by omega⟩
  · have hbw := hlt b hTb
    have hbx := hx b hTb
    -- the elements that are there
    have hel' : ∀ i (h : i < es.length), ∃ v, x.cell? ⟨b, off + i, none⟩ = some v ∧ Src x (fun k => T k ∧ k ≠ b ∧ k ≠ p) v es[i] := fun i h => by
      obtain ⟨v, a, c⟩ := hel i h
      exact ⟨v, (World.cell?_of_block hbx).trans a, c.move fun k hk _ => hx k hk.1⟩
    by_cases hr : es.length + 1 ≤ cap
    · have hrun := run_append_room_cells (P := Tryz.prog) x 29 ty 36 i0 Tryz.underlying29 hi b off es.length cap ⟨xb, 0, none⟩ 1 1 [cv] (by rw [hz1]; rfl) hnews h1c hr
        (fun j hj => by
          have hj0 : j = 0 := by simpa using hj
          subst hj0
          rw [hz1, Nat.mul_one, Nat.add_zero, World.cell?_of_block hbx]
          exact (hcells es.length (by omega)).1)
        (fun j hj => by
          have hj0 : j = 0 := by simpa using hj
          subst hj0
          rw [hz1, Nat.mul_one, Nat.add_zero, World.frozen?_of_block hbx]
          exact (hcells es.length (by omega)).2)
      rw [hz1, Nat.mul_one] at hrun
      have e1 : x.setCells b (off + es.length) [cv] = x.setCell ⟨b, off + es.length, none⟩ cv := rfl
      rw [e1] at hrun
      have hold : ∀ k, k ≠ b → (x.setCell ⟨b, off + es.length, none⟩ cv).heap[k]? = x.heap[k]? := fun k hk => heap_setCell_ne hk
      obtain ⟨u, hu⟩ := Option.isSome_iff_exists.1 (hcells es.length (by omega)).1
      have hu' := (World.cell?_of_block (a := ⟨b, off + es.length, none⟩) hbx).trans hu
      refine ⟨_, _, hrun, (Chg.refl x T).setCell hTb _, hold p hbp.symm, fun k => T k ∨ (w.heap.size ≤ k ∧ k < x.heap.size), .inr ⟨b, off, cap, by simp, by simp, by simpa using hr, hc2, .inl hTb, hbp, fun j hj => ?_, fun i hi' => ?_⟩, fun k hk => .inl hk, fun k hk => hk.imp id fun e => e.1, fun k hk => ?_⟩
      · obtain ⟨a1, a2⟩ := hcells j hj
        refine ⟨?_, ?_⟩
        · by_cases e : j = es.length
          · subst e; rw [cell_same hu']; rfl
          · rw [cell_other (by simp <;> omega), World.cell?_of_block hbx]; exact a1
        · simp only [World.frozen?_setCell]
          rw [World.frozen?_of_block hbx]; exact a2
      · by_cases e : i = es.length
        · subst e
          refine ⟨cv, cell_same hu', ?_⟩
          have := (hsrcfoot (x.setCell ⟨b, off + es.length, none⟩ cv) fun k hk hk2 => hold k (by omega)).imp (R' := fun k => (T k ∨ (w.heap.size ≤ k ∧ k < x.heap.size)) ∧ k ≠ b ∧ k ≠ p) fun k hk => ⟨.inr hk, by omega, by omega⟩
          simpa using this
        · have hi2 : i < es.length := by
            have : i < es.length + 1 := by simpa using hi'
            omega
          obtain ⟨v, a, c⟩ := hel' i hi2
          refine ⟨v, (cell_other (by simp <;> omega)).trans a, ?_⟩
          rw [List.getElem_append_left hi2]
          exact (c.move fun k hk _ => hold k hk.2.1).imp fun k hk => ⟨.inl hk.1, hk.2⟩
      · have hsz : (x.setCell ⟨b, off + es.length, none⟩ cv).heap.size = x.heap.size := by simp
        rw [hsz]
        exact hk.elim (fun e => by have := hlt k e; omega) fun e => e.2
    · -- it grows
      have hv : ∀ i (h : i < es.length), ∃ v, x.cell? ⟨b, off + i, none⟩ = some v := fun i h => by obtain ⟨v, a, _⟩ := hel' i h; exact ⟨v, a⟩
      obtain ⟨olds, hol, hoc⟩ : ∃ olds : List Value, olds.length = es.length ∧ ∀ i, i < es.length → x.cell? ⟨b, off + i, none⟩ = olds[i]? := by
        refine ⟨(List.range es.length).map fun i => (x.cell? ⟨b, off + i, none⟩).getD .nilIface, by simp, fun i hi' => ?_⟩
        obtain ⟨v, a⟩ := hv i hi'
        simp [hi', a]
      obtain ⟨v', x', hrun, r1, r2⟩ := run_append_arg_grows (P := Tryz.prog) x 29 ty 36 i0 (.slice none 0 0) 1 24 Tryz.underlying29 hi hz0 hz1 hz2 rfl (by decide) ⟨b, off, none⟩ es.length cap olds (by omega) (fun j u hj => by
          have hj' : j < es.length := by have := (List.getElem?_eq_some_iff.1 hj).1; omega
          rw [Addr.add_lit, hoc j hj', hj]) ⟨xb, 0, none⟩ 1 1 [cv] hlen1 hnews (by omega) (by unfold maxLen; omega) (by omega)
      have hgr : ∀ k, k < x.heap.size → x'.heap[k]? = x.heap[k]? := fun k hk => r2.block k hk (by simp)
      obtain ⟨_, ⟨_, e0⟩ | ⟨g, c, cur, rfl, hg, hh, hnc, hcm, hsz, htk⟩⟩ := r1
      · omega
      · have hg' : g < x'.heap.size := by
          rcases Nat.lt_or_ge g x'.heap.size with h | h
          · exact h
          · rw [Array.getElem?_eq_none h] at hh; cases hh
        have htk' : ∀ i, i < es.length + 1 → cur[i]? = (olds ++ [cv])[i]? := fun i hi' => by
          have e2 : (cur.toList.take ((es.length + 1) * 1))[i]? = (olds ++ [cv])[i]? := by rw [htk]
          rw [List.getElem?_take, if_pos (by omega)] at e2
          simpa using e2
        refine ⟨_, x', hrun, Chg.of_grown r2 T (fun k hk _ => by simp at hk), hgr p (by omega), fun k => T k ∨ (w.heap.size ≤ k ∧ k < x'.heap.size), .inr ⟨g, 0, c, by simp, by simp, by simpa using hnc, hcm, .inr ⟨by omega, hg'⟩, by omega, fun j hj => ?_, fun i hi' => ?_⟩, fun k hk => .inl hk, fun k hk => hk.imp id fun e => e.1, fun k hk => hk.elim (fun e => by have := hlt k e; have := r2.size; omega) fun e => e.2⟩
        · rw [Nat.zero_add, Go.cell_of_row x' g j cur 36 (0, 0) hh, Go.frozen_of_row x' g j cur 36 hh]
          refine ⟨?_, rfl⟩
          rw [Array.getElem?_eq_getElem (by omega)]
          rfl
        · have hi1 : i < es.length + 1 := by simpa using hi'
          rw [Nat.zero_add, Go.cell_of_row x' g i cur 36 (0, 0) hh, htk' i hi1]
          by_cases e : i = es.length
          · subst e
            refine ⟨cv, ?_, ?_⟩
            · rw [← hol]; simp
            · have := (hsrcfoot x' fun k hk _ => hgr k hk).imp (R' := fun k => (T k ∨ (w.heap.size ≤ k ∧ k < x'.heap.size)) ∧ k ≠ g ∧ k ≠ p) fun k hk => ⟨.inr ⟨hk.1, by have := r2.size; omega⟩, by omega, by omega⟩
              simpa using this
          · have hi2 : i < es.length := by omega
            obtain ⟨v, a, c'⟩ := hel' i hi2
            refine ⟨v, ?_, ?_⟩
            · rw [List.getElem?_append_left (by omega), ← hoc i hi2]; exact a
            · rw [List.getElem_append_left hi2]
              exact (c'.move fun k hk hl => hgr k hl).imp fun k hk => ⟨.inl hk.1, fun e => by have := hlt k hk.1; omega, hk.2.2⟩
end V6
end Go.Proofs.YtdaknlmnelfedaaGreatDoor
