/- push, split, put. -/
import Derived.Test.YtloiclmngmnbdaaLj
import Derived.Deep.RegionHeldLaw
namespace Go.Proofs.Ytloiclmngmnbdaa
open Go.RowKit Go.Maps Go.ChangeMaps Go.MapKept
namespace Lk
open Jb Ca Ck Ct Cd Ls Lb Lc Ld Li Lj

set_option maxRecDepth 100000
/-- An append as one step of a region that draws, by its run. -/
theorem step_append {P : Program} {ops : Array Oper} {o : Oper} {a : Act} {w : World} {K : Act → World → Prop} {Q : Exit → Act → World → Prop} {E : Prop}
    (hg : o.guard = none) (s x : Operand) (t : TypeId) (hop : o.op = Op.call { callee := Callee.builtin Builtin.append, args := #[s, x], argTypes := #[t, t] })
    (v y : Value) (hs : a.eval s = v) (hx : a.eval x = y) (R : Value → World → Prop) (hrun : ∀ ty, ∃ v' w', (Builtin.append_ #[t, t] ty #[v, y]).run P w = .ok v' w' ∧ R v' w')
    (hK : ∀ v' w', R v' w' → K (a.put o.dst v') w') :
    if Region.wanted o (yielded ops a.tmps) = true then Oper.wp P o a w K Q else E := by
  have hw : Region.wanted o (yielded ops a.tmps) = true := by simp [Region.wanted, hg]
  rw [if_pos hw]
  obtain ⟨v', w', hr, r1⟩ := hrun o.type
  unfold Oper.wp
  simp [execOp, hop, resolve, invoke, builtin, hs, hx, hr, Result.andThen]
  exact hK v' w' r1


theorem infoS : (Try.prog.info? 43).map (fun i => (i.zero, i.size, i.bytes)) = some (some (.slice none 0 0), 1, 24) := by kernel_rfl
/-- One slice of points, appended to none. -/
theorem app_nil (w : World) (b : Nat) (u : Value) (hu : u.oneCell' = true) (hc : w.cell? ⟨b, 0, none⟩ = some u) (ty : TypeId) :
    ∃ v' w', (Builtin.append_ #[85, 85] ty #[.slice none 0 0, .slice (some ⟨b, 0, none⟩) 1 1]).run Try.prog w = .ok v' w' ∧ ∃ q qc, v' = .slice (some ⟨q, 0, none⟩) 1 qc ∧ w'.ownsRow 0 43 1 (.slice (some ⟨q, 0, none⟩) 1 qc) 1 [u] ∧ Below w.heap.size w w' ∧ w.heap.size ≤ q ∧ q < w'.heap.size := by
  obtain ⟨i0, hi0, hz0, hz1, hz2⟩ := info_parts infoS
  obtain ⟨v', w', hrun, o, g, _⟩ := run_append_own (P := Try.prog) w w.heap.size 85 ty 43 i0 (.slice none 0 0) 1 24 Try.underlying85 hi0 hz0 hz1 hz2 rfl (by decide) (.slice none 0 0) 0 [] (World.ownsRow_nil _ _ _ _) ⟨b, 0, none⟩ 1 1 [u] rfl (fun j x hj => by
    cases j with
    | zero => cases hj; simpa [Addr.add] using hc
    | succ j => simp at hj) (fun x hx => by
      obtain rfl : x = u := by simpa using hx
      exact hu) (by unfold maxLen; omega) (by omega) (Nat.le_refl _)
  obtain ⟨q, qc, rfl⟩ := Go.Joins.ownsRow_form o (by decide)
  obtain ⟨q1, q2⟩ := own_lt o rfl
  exact ⟨_, w', hrun, q, qc, rfl, own_base o (Nat.zero_le _), ⟨g.os, g.tape, g.output, g.size, fun k hk => g.block k hk (fun e => by cases e)⟩, q1, q2⟩
theorem insert55 (w : World) (L : List Pnt) (p : Pnt) (sb n c i vb vc : Nat) (cv : Array Value) (h : w.ownsRow 0 32 4 (.slice (some ⟨sb, 0, none⟩) n c) n (pcs L)) (hn : n = L.length) (hi : i < n) (hn9 : n ≤ 1000000) (hvb : vb ≠ sb)
    (hv : w.heap[vb]? = some (.cells cv 32 (0, 0))) (hcv : cv.toList = pc p) :
    Calls Try.prog 55 #[.slice (some ⟨sb, 0, none⟩) n c, .int .i64 i, .slice (some ⟨vb, 0, none⟩) 1 vc] w fun e w' =>
      ∃ b G, e = .returned (.slice (some ⟨b, 0, none⟩) (n + 1) G) ∧ w'.ownsRow 0 32 4 (.slice (some ⟨b, 0, none⟩) (n + 1) G) (n + 1) (pcs (L.take i ++ p :: L.drop i)) ∧ Chg w w' (fun k => k = sb) ∧ (b = sb ∨ (w.heap.size ≤ b ∧ b < w'.heap.size)) := by
  obtain ⟨_, ⟨e, _⟩ | ⟨g, cap, cur, e, hg, hh, hnc, hcm, hsz, htk⟩⟩ := h
  · cases e
  · cases e
    by_cases hr : n + 1 ≤ c
    · refine (insert55_shift w sb n c i vb vc cur cv L p hn hi hr hcm hvb hh hsz htk hv hcv).mono ?_
      rintro e w' ⟨rfl, o, ch⟩
      exact ⟨sb, c, rfl, o, ch, .inl rfl⟩
    · refine (insert55_grow w sb n c i vb vc cur cv L p hn hi (by omega) hnc hn9 hvb hh hsz htk hv hcv).mono ?_
      rintro e w' ⟨G, rfl, o, bl⟩
      have := own_lt o rfl
      exact ⟨_, G, rfl, o, Chg.of_below bl (Nat.le_refl _) _, .inr ⟨Nat.le_refl _, this.2⟩⟩
theorem push54_0 (w : World) (cb : Nat) (p : Pnt) (hp : Wp p) (hc : w.cell? ⟨cb, 0, none⟩ = some (.slice none 0 0)) (hz : w.frozen? ⟨cb, 0, none⟩ = false) :
    Calls Try.prog 54 #[.pointer (some ⟨cb, 0, none⟩), pa p] w fun e w' => e = .returned (.tuple #[]) ∧ ∃ f', f'.blk = cb ∧ f'.L = [p] ∧ Cm w' f' ∧ Chg w w' (fun k => k = cb) ∧ ∀ k, foot f' k → k = cb ∨ (w.heap.size ≤ k ∧ k < w'.heap.size) := by
  have kb : cb < w.heap.size := cell_lt hc
  have HE := Lib.hid (fun (w : World) => empty38_0 w cb)
  have hpw := Lib.hid hp
  obtain ⟨x0, x1, x2, x3⟩ := p
  unfold pa
  simp only
  obtain ⟨A, hA⟩ : ∃ A : Obj, A = .cells #[.int .i64 x0, .int .i64 x1, .int .u64 ((x2 : Nat) : Int), .string (str x3)] 32 := ⟨_, rfl⟩
  obtain ⟨W3, hW3⟩ : ∃ W3, W3 = (((w.alloc A).alloc A).alloc (.cells #[.slice (some ⟨w.heap.size + 1, 0, none⟩) 1 1] 43)).drew := ⟨_, rfl⟩
  have b3 : Below w.heap.size w W3 := by rw [hW3]; exact ((((Below.refl _ w).alloc (Nat.le_refl _) _).alloc (by simp) _).alloc (by simp; omega) _).drew
  have s3 : W3.heap.size = w.heap.size + 3 := by rw [hW3]; simp
  have own3 : W3.ownsRow 0 32 4 (.slice (some ⟨w.heap.size + 1, 0, none⟩) 1 1) 1 (pcs [(x0, x1, x2, x3)]) := by
    refine ⟨rfl, .inr ⟨w.heap.size + 1, 1, #[.int .i64 x0, .int .i64 x1, .int .u64 ((x2 : Nat) : Int), .string (str x3)], rfl, Nat.zero_le _, ?_, Nat.le_refl _, by unfold maxLen; omega, rfl, rfl⟩⟩
    rw [hW3]
    show (((w.alloc A).alloc A).alloc _).heap[_]? = _
    rw [Below.heap_alloc _ _ _ (by simp), show w.heap.size + 1 = (w.alloc A).heap.size by simp, heap_alloc_new, hA]
  have AP := app_nil W3 (w.heap.size + 1 + 1) (.slice (some ⟨w.heap.size + 1, 0, none⟩) 1 1) rfl (by
    rw [hW3]
    have := cell_new_l ((w.alloc A).alloc A) (.slice (some ⟨w.heap.size + 1, 0, none⟩) 1 1) 43
    simpa using this)
  have AP2 := Lib.hid (show ∀ ty, ∃ v' w', (Builtin.append_ #[85, 85] ty #[.slice none 0 0, .slice (some ⟨w.heap.size + 1 + 1, 0, none⟩) 1 1]).run Try.prog W3 = .ok v' w' ∧ ∃ q qc, v' = .slice (some ⟨q, 0, none⟩) 1 qc ∧ w'.cell? ⟨cb, 0, none⟩ = some (.slice none 0 0) ∧ w'.frozen? ⟨cb, 0, none⟩ = false ∧
      (∃ f', f'.blk = cb ∧ f'.L = [(x0, x1, x2, x3)] ∧ Cm (w'.setCell ⟨cb, 0, none⟩ (.slice (some ⟨q, 0, none⟩) 1 qc)) f' ∧ Chg w (w'.setCell ⟨cb, 0, none⟩ (.slice (some ⟨q, 0, none⟩) 1 qc)) (fun k => k = cb) ∧ ∀ k, foot f' k → k = cb ∨ (w.heap.size ≤ k ∧ k < (w'.setCell ⟨cb, 0, none⟩ (.slice (some ⟨q, 0, none⟩) 1 qc)).heap.size)) from fun ty => by
    obtain ⟨v', w', hrun, q, qc, e, o, bl, q1, q2⟩ := AP ty
    have hbl : w'.heap[cb]? = w.heap[cb]? := (bl.block cb (by omega)).trans (b3.block cb kb)
    have kc : w'.cell? ⟨cb, 0, none⟩ = some (.slice none 0 0) := (World.cell?_of_block hbl).trans hc
    have kz : w'.frozen? ⟨cb, 0, none⟩ = false := (World.frozen?_of_block hbl).trans hz
    refine ⟨v', w', hrun, q, qc, e, kc, kz, ⟨cb, .slice (some ⟨q, 0, none⟩) 1 qc, .slice (some ⟨w.heap.size + 1, 0, none⟩) 1 1, [(x0, x1, x2, x3)]⟩, rfl, rfl, ⟨cell_same kc, by simpa using kz, ?_, ?_, by simp, fun x hx => by
      obtain rfl : x = (x0, x1, x2, x3) := by simpa using hx
      exact hpw.out, by simp [Rise], ?_, ?_, ?_⟩, ?_, ?_⟩
    · exact own_of_block o fun k hk => heap_setCell_ne (by simp [Value.ownBlock] at hk; omega)
    · exact own_of_block own3 fun k hk => by
        simp [Value.ownBlock] at hk
        rw [heap_setCell_ne (by omega)]
        exact bl.block k (by omega)
    · simp [Value.ownBlock]; omega
    · simp [Value.ownBlock]; omega
    · simp [Value.ownBlock]; omega
    · exact (Chg.of_below (b3.trans (bl.mono b3.size)) (Nat.le_refl _) (fun k => k = cb)).setCell rfl _
    · intro k hk
      have bs := bl.size
      rcases hk with hk | hk | hk
      · exact .inl hk
      · simp [Value.ownBlock] at hk; right; simp; omega
      · simp [Value.ownBlock] at hk; right; simp; omega)
  clear AP own3 s3 b3
  have e1 := alloc_cell A hc
  have e2 := alloc_cell A e1
  have e3 := alloc_cell (.cells #[.slice (some ⟨w.heap.size + 1, 0, none⟩) 1 1] 43) e2
  have e4 : W3.cell? ⟨cb, 0, none⟩ = some (.slice none 0 0) := by rw [hW3]; exact e3
  rw [hA] at hW3 e1 e2 e3
  rw [hW3] at AP2 e4
  have HC := Lib.hid hc
  clear hp hpw hA hW3
  go_enter Try.func54, Try.ntmps54
  go_wp2_with (go_at_call 38; refine (HE.out _ (alloc_cell _ hc)).mono ?_; rintro e w' ⟨rfl, rfl⟩)
  go_region_law (refine step_append rfl (.tmp 28) (.tmp 31) 85 rfl (.slice none 0 0) (.slice (some ⟨w.heap.size + 1 + 1, 0, none⟩) 1 1) (by simp [Act.eval]) (by simp [Act.eval]) _ AP2.out ?_; intro v' w3 h3; obtain ⟨q, qc, rfl, k1, k2, h4⟩ := h3; have H4 := Lib.hid h4; clear h4)
  all_goals
    go_wp2_with fail
    refine bodyPost_ret (v := .tuple #[]) (by simp [results, Try.results54, go_sem]) rfl ⟨rfl, H4.out⟩
/-- One point, appended to a row of points. -/
theorem app_own (w : World) (b sb n sc : Nat) (L : List Pnt) (p : Pnt) (hn : n = L.length) (hn9 : n ≤ 1000000) (h : w.ownsRow 0 32 4 (.slice (some ⟨sb, 0, none⟩) n sc) n (pcs L)) (hc : w.heap[b]? = some (.cells #[.int .i64 p.1, .int .i64 p.2.1, .int .u64 ((p.2.2.1 : Nat) : Int), .string (str p.2.2.2)] 32 (0, 0))) (ty : TypeId) :
    ∃ v' w', (Builtin.append_ #[43, 43] ty #[.slice (some ⟨sb, 0, none⟩) n sc, .slice (some ⟨b, 0, none⟩) 1 1]).run Try.prog w = .ok v' w' ∧ ∃ q qc, v' = .slice (some ⟨q, 0, none⟩) (n + 1) qc ∧ w'.ownsRow 0 32 4 (.slice (some ⟨q, 0, none⟩) (n + 1) qc) (n + 1) (pcs (L ++ [p])) ∧ Chg w w' (fun k => k = sb) ∧ (q = sb ∨ (w.heap.size ≤ q ∧ q < w'.heap.size)) := by
  obtain ⟨i0, hi0, hz0, hz1, hz2⟩ := info_parts infoP
  obtain ⟨v', w', hrun, o, g, _, hat⟩ := run_append_own_at (P := Try.prog) w 0 43 ty 32 i0 _ 4 40 Try.underlying43 hi0 hz0 hz1 hz2 rfl (by decide) _ n (pcs L) h ⟨b, 0, none⟩ 1 1 (pc p) rfl (fun j x hj => by
    rw [Addr.add_lit, cell_at hc, Nat.zero_add, ← Array.getElem?_toList]; exact hj) (fun x hx => pc_one p x hx) (by unfold maxLen; omega) (by omega) (Nat.zero_le _)
  obtain ⟨q, qc, rfl⟩ := Go.Joins.ownsRow_form o (by omega)
  obtain ⟨q1, q2⟩ := own_lt o rfl
  refine ⟨_, w', hrun, q, qc, rfl, ?_, Chg.of_grown g _ (fun k hk _ => by simp [Value.ownBlock] at hk; exact hk.symm), ?_⟩
  · rw [pcs_app]; exact o
  · rcases hat with e | e
    · simp [Value.ownBlock] at e; exact .inl e
    · simp [Value.ownBlock] at e; exact .inr ⟨by omega, q2⟩
/-- What the column is when its piece has turned, and is laid where it stood. -/
theorem piece {w w3 : World} {f : Co} (h : Cm w f) {p pc s sc : Nat} (hp : f.pv = .slice (some ⟨p, 0, none⟩) 1 pc) (hs : f.sv = .slice (some ⟨s, 0, none⟩) f.L.length sc) (ch : Chg w w3 (fun k => k = s)) {q n qc : Nat} {L' : List Pnt} (hn : n = L'.length)
    (o : w3.ownsRow 0 32 4 (.slice (some ⟨q, 0, none⟩) n qc) n (pcs L')) (hq : q = s ∨ (w.heap.size ≤ q ∧ q < w3.heap.size)) (ne : L' ≠ []) (wp : ∀ x ∈ L', Wp x) (ri : Rise L') :
    w3.cell? ⟨p, 0, none⟩ = some f.sv ∧ w3.frozen? ⟨p, 0, none⟩ = false ∧ w3.cell? ⟨f.blk, 0, none⟩ = some f.pv ∧
    ∃ f' : Co, f'.blk = f.blk ∧ f'.L = L' ∧ Cm (w3.setCell ⟨p, 0, none⟩ (.slice (some ⟨q, 0, none⟩) n qc)) f' ∧ Chg w (w3.setCell ⟨p, 0, none⟩ (.slice (some ⟨q, 0, none⟩) n qc)) (foot f) ∧ ∀ k, foot f' k → foot f k ∨ (w.heap.size ≤ k ∧ k < (w3.setCell ⟨p, 0, none⟩ (.slice (some ⟨q, 0, none⟩) n qc)).heap.size) := by
  have a1 := h.a1
  have a2 := h.a2
  have a3 := h.a3
  have o1 := h.own1
  have c0 := h.c0
  have z0 := h.z0
  rw [hp] at a1 a3 o1
  rw [hs] at a2 a3
  have n1 : p ≠ f.blk := fun e => a1 (by rw [e]; rfl)
  have n2 : s ≠ f.blk := fun e => a2 (by rw [e]; rfl)
  have n3 : p ≠ s := fun e => a3 (by rw [e]; rfl)
  have pl : p < w.heap.size := (own_lt o1 rfl).2
  have kb : f.blk < w.heap.size := cell_lt c0
  have hbp : w3.heap[p]? = w.heap[p]? := ch.block p pl n3
  have hbb : w3.heap[f.blk]? = w.heap[f.blk]? := ch.block _ kb (fun e => n2 e.symm)
  have o1' : w3.ownsRow 0 43 1 (.slice (some ⟨p, 0, none⟩) 1 pc) 1 [f.sv] := own_of_block o1 fun k hk => by
    simp [Value.ownBlock] at hk; rw [← hk]; exact hbp
  have qp : q ≠ p := by omega
  have qb : q ≠ f.blk := by omega
  refine ⟨by have := o1'.cellAt 0 (by decide); simpa using this, o1'.frozenAt 0, (World.cell?_of_block hbb).trans h.c0, ⟨f.blk, f.pv, .slice (some ⟨q, 0, none⟩) n qc, L'⟩, rfl, rfl, ⟨?_, ?_, ?_, ?_, ne, wp, ri, ?_, ?_, ?_⟩, ?_, ?_⟩
  · rw [World.cell?_of_block (heap_setCell_ne n1.symm), World.cell?_of_block hbb]; exact h.c0
  · rw [World.frozen?_of_block (heap_setCell_ne n1.symm), World.frozen?_of_block hbb]; exact h.z0
  · simp only [hp]
    exact (o1'.stored 0 _).1
  · rw [← hn]
    exact own_of_block o fun k hk => heap_setCell_ne (by simp [Value.ownBlock] at hk; omega)
  · exact h.a1
  · simp [Value.ownBlock]; exact qb
  · simp only [hp]; simp [Value.ownBlock]; exact qp.symm
  · exact (ch.imp (S' := foot f) fun k hk _ => .inr (.inr (by rw [hs, hk]; rfl))).setCell (.inr (.inl (by rw [hp]; rfl))) _
  · intro k hk
    rcases hk with hk | hk | hk
    · exact .inl (.inl hk)
    · exact .inl (.inr (.inl hk))
    · simp [Value.ownBlock] at hk
      rcases hq with e | e
      · exact .inl (.inr (.inr (by rw [hs, ← hk, e]; rfl)))
      · exact .inr (by simp; omega)
theorem ins_end {L : List Pnt} (h : Rise L) (p : Pnt) (hl : cnt p.1 L = L.length) (hh : has p.1 L = false) : ins p L = L ++ [p] := by
  rw [ins_new h p hh, hl, List.take_length, List.drop_length]
theorem ins_wp {L : List Pnt} {p : Pnt} (hp : Wp p) (h : ∀ x ∈ L, Wp x) : ∀ x ∈ ins p L, Wp x := fun x hx => by
  rcases ins_mem hx with rfl | hx
  · exact hp
  · exact h x hx
end Lk
end Go.Proofs.Ytloiclmngmnbdaa
