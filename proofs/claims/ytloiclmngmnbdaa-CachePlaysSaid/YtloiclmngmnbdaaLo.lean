/- put in the place of a point. -/
import Derived.Test.YtloiclmngmnbdaaLn
namespace Go.Proofs.Ytloiclmngmnbdaa
open Go.RowKit Go.Maps Go.ChangeMaps Go.MapKept
namespace Lo
open Jb Ca Ck Ct Cd Ls Lb Lc Ld Li Lj Lk Lm Ln

set_option maxRecDepth 100000
theorem pcs_set (L : List Pnt) (i : Nat) (p : Pnt) (hi : i < L.length) : pcs (L.set i p) = ((((pcs L).set (i * 4) (.int .i64 p.1)).set (i * 4 + 1) (.int .i64 p.2.1)).set (i * 4 + 2) (.int .u64 (p.2.2.1 : Nat))).set (i * 4 + 3) (.string (str p.2.2.2)) := by
  induction L generalizing i with
  | nil => simp at hi
  | cons q r ih =>
    have e : pcs (q :: r) = pc q ++ pcs r := rfl
    cases i with
    | zero => rfl
    | succ i =>
      have e2 : pcs ((q :: r).set (i + 1) p) = pc q ++ pcs (r.set i p) := rfl
      have hl : (pc q).length = 4 := rfl
      have st : ∀ (X : List Value) (j : Nat) (v : Value), (pc q ++ X).set (4 + j) v = pc q ++ X.set j v := fun X j v => by
        rw [List.set_append_right _ _ (by rw [hl]; omega), hl, Nat.add_sub_cancel_left]
      rw [e, e2, ih i (by simpa using hi), show (i + 1) * 4 = 4 + i * 4 by omega, Nat.add_assoc, Nat.add_assoc, Nat.add_assoc, st, st, st, st]
theorem put35_old (w : World) (f : Co) (h : Cm w f) (p : Pnt) (hp : Wp p) (hl : f.L.length ≤ 511) (hin : cnt p.1 f.L < f.L.length) (hnh : has p.1 f.L = true) :
    Calls Try.prog 35 #[.pointer (some ⟨f.blk, 0, none⟩), pa p] w fun e w' => e = .returned (.tuple #[]) ∧ Put w f.blk (foot f) (ins p f.L) w' := by
  obtain ⟨A, hA⟩ : ∃ A : Obj, A = .cells #[.int .i64 p.1, .int .i64 p.2.1, .int .u64 (p.2.2.1 : Nat), .string (str p.2.2.2)] 32 := ⟨_, rfl⟩
  have ba := (Below.refl _ w).alloc (Nat.le_refl _) A
  have RE := reach1 (w.alloc A) f (h.below ba (Nat.le_refl _)) p.1 (by omega)
  have er : rch p.1 f.L = 0 := if_pos hin
  rw [er, World.size_alloc] at RE
  replace RE := Lib.hid RE
  obtain ⟨P, pc, s, sc, e1, e2, e3, e4, e5, e6, n1, n2, n3, k0, k1, kr, kb, kp⟩ := Cm.cells h
  have PU := Lib.hid (show ∀ w1, Below (w.heap.size + 1) (w.alloc A) w1 → Box w w1 p from fun w1 b1 => by
    rw [hA] at b1
    exact box_of b1)
  have SK := Lib.hid (show ∀ w1, Below w.heap.size w w1 → Calls Try.prog 52 #[.slice (some ⟨s, 0, none⟩) f.L.length sc, .int .i64 p.1] w1 fun e w' => e = .returned (.tuple #[.int .i64 (cnt p.1 f.L : Nat), .bool true]) ∧ Below w1.heap.size w1 w' from fun w1 b1 => by
    have := seek52 w1 s 0 sc f.L p.1 (kr.below b1 kr.1) h.rise (by omega)
    rw [hnh] at this
    exact this)
  have CL := Lib.hid (show ∀ w1, Below w.heap.size w w1 → w1.cell? ⟨f.blk, 0, none⟩ = some (.slice (some ⟨P, 0, none⟩) 1 pc) ∧ w1.cell? ⟨P, 0, none⟩ = some (.slice (some ⟨s, 0, none⟩) f.L.length sc) from fun w1 b1 => ⟨(b1.cell (p := ⟨f.blk, 0, none⟩) kb).trans k0, (b1.cell (p := ⟨P, 0, none⟩) kp).trans k1⟩)
  obtain ⟨C, hC⟩ : ∃ C, C = cnt p.1 f.L := ⟨_, rfl⟩
  rw [← hC] at SK hin
  have o2 := h.own2
  rw [e3] at o2
  have hs := o2
  -- the four cells, and what is behind the stores
  have FIN := Lib.hid (show ∀ w1, Below w.heap.size w w1 → (∃ v0 v1 v2 v3, w1.cell? ⟨s, C * 4, none⟩ = some v0 ∧ w1.cell? ⟨s, C * 4 + 1, none⟩ = some v1 ∧ w1.cell? ⟨s, C * 4 + 2, none⟩ = some v2 ∧ w1.cell? ⟨s, C * 4 + 3, none⟩ = some v3) ∧ (∀ i, w1.frozen? ⟨s, i, none⟩ = false) ∧
      Put w f.blk (foot f) (ins p f.L) ((((w1.setCell ⟨s, C * 4, none⟩ (.int .i64 p.1)).setCell ⟨s, C * 4 + 1, none⟩ (.int .i64 p.2.1)).setCell ⟨s, C * 4 + 2, none⟩ (.int .u64 (p.2.2.1 : Nat))).setCell ⟨s, C * 4 + 3, none⟩ (.string (str p.2.2.2))) from fun w1 b1 => by
    have h1 := h.below b1 (Nat.le_refl _)
    have o1 := h1.own2
    rw [e3] at o1
    obtain ⟨_, kx⟩ := kr.below b1 kr.1
    obtain ⟨y0, y1, y2, y3⟩ := kx C hin
    simp only [Nat.zero_add] at y0 y1 y2 y3
    refine ⟨⟨_, _, _, _, y0, y1, y2, y3⟩, fun i => o1.frozenAt i, ?_⟩
    have q1 := (((((o1.stored (C * 4) (.int .i64 p.1)).1).stored (C * 4 + 1) (.int .i64 p.2.1)).1).stored (C * 4 + 2) (.int .u64 (p.2.2.1 : Nat))).1
    have q2 := (q1.stored (C * 4 + 3) (.string (str p.2.2.2))).1
    rw [← pcs_set f.L C p hin] at q2
    have hk : ∀ k, k ≠ s → ((((w1.setCell ⟨s, C * 4, none⟩ (.int .i64 p.1)).setCell ⟨s, C * 4 + 1, none⟩ (.int .i64 p.2.1)).setCell ⟨s, C * 4 + 2, none⟩ (.int .u64 (p.2.2.1 : Nat))).setCell ⟨s, C * 4 + 3, none⟩ (.string (str p.2.2.2))).heap[k]? = w1.heap[k]? := fun k hk => by
      rw [heap_setCell_ne hk, heap_setCell_ne hk, heap_setCell_ne hk, heap_setCell_ne hk]
    have hins : ins p f.L = f.L.set C p := by rw [hC]; exact ins_old h.rise p hnh
    have hch : Chg w1 ((((w1.setCell ⟨s, C * 4, none⟩ (.int .i64 p.1)).setCell ⟨s, C * 4 + 1, none⟩ (.int .i64 p.2.1)).setCell ⟨s, C * 4 + 2, none⟩ (.int .u64 (p.2.2.1 : Nat))).setCell ⟨s, C * 4 + 3, none⟩ (.string (str p.2.2.2))) (fun k => k = s) := ((((Chg.refl w1 (fun k => k = s)).setCell rfl _).setCell rfl _).setCell rfl _).setCell rfl _
    generalize ((((w1.setCell ⟨s, C * 4, none⟩ (.int .i64 p.1)).setCell ⟨s, C * 4 + 1, none⟩ (.int .i64 p.2.1)).setCell ⟨s, C * 4 + 2, none⟩ (.int .u64 (p.2.2.1 : Nat))).setCell ⟨s, C * 4 + 3, none⟩ (.string (str p.2.2.2))) = w4 at q2 hk hch ⊢
    refine ⟨⟨f.blk, f.pv, f.sv, ins p f.L⟩, rfl, rfl, ⟨?_, ?_, ?_, ?_, ins_ne _ _, ins_wp hp h.wp, ins_rise h.rise, h.a1, h.a2, h.a3⟩, ?_, fun k hk => .inl hk⟩
    · exact (World.cell?_of_block (hk f.blk n2.symm)).trans h1.c0
    · exact (World.frozen?_of_block (hk f.blk n2.symm)).trans h1.z0
    · exact own_of_block h1.own1 fun k hk' => hk k (by rw [e1] at hk'; simp [Value.ownBlock] at hk'; omega)
    · rw [e3]
      have el : (ins p f.L).length = f.L.length := by rw [hins, List.length_set]
      simp only [el]
      rw [hins]
      exact q2
    · exact (Chg.of_below b1 (Nat.le_refl _) (foot f)).trans (hch.imp (S' := foot f) fun k hk _ => .inr (.inr (by rw [e3, hk]; rfl))) (fun k hk _ => hk))
  obtain ⟨LL, hLL⟩ : ∃ LL, LL = ins p f.L := ⟨_, rfl⟩
  rw [← hLL] at FIN ⊢
  obtain ⟨n, hn⟩ : ∃ n, n = f.L.length := ⟨_, rfl⟩
  rw [← hn] at hin hl SK CL
  rw [hA] at RE PU
  obtain ⟨x0, x1, x2, x3⟩ := p
  unfold pa
  simp only at RE PU SK FIN ⊢
  clear hp h hnh ba hA er hLL k0 k1 kr e1 e3 e4 o2 hs hC hn
  go_enter Try.func35, Try.ntmps35
  go_wp2_with fail
  refine RE.out.mono ?_
  rintro e w1 ⟨rfl, b1⟩
  have bx := PU.out w1 b1
  obtain ⟨c0, c1⟩ := CL.out w1 bx.bl
  have BX := Lib.hid bx
  obtain ⟨_, g0, g1, g2, g3, _⟩ := bx
  clear b1
  go_wp2_with fail
  have kX : (w1.drew.cell? ⟨f.blk, 0, none⟩ = some (.slice (some ⟨P, 0, none⟩) 1 pc) ∧ w1.drew.cell? ⟨P, 0, none⟩ = some (.slice (some ⟨s, 0, none⟩) n sc)) ∧ w1.drew.cell? ⟨w.heap.size, 0, none⟩ = some (.int .i64 x0) := ⟨⟨c0, c1⟩, g0⟩
  have bd : Below w.heap.size w w1.drew := BX.out.bl.drew
  have BXD := Lib.hid (BX.out.below (Below.refl w1.heap.size w1).drew)
  go_region_held (fun y => (y.cell? ⟨f.blk, 0, none⟩ = some (.slice (some ⟨P, 0, none⟩) 1 pc) ∧ y.cell? ⟨P, 0, none⟩ = some (.slice (some ⟨s, 0, none⟩) n sc)) ∧ y.cell? ⟨w.heap.size, 0, none⟩ = some (.int .i64 x0))
    (first | exact kX | exact kY)
    (first | (go_at_call 52; refine (SK.out _ bd).mono ?_; rintro e w2 ⟨rfl, b2⟩; have bx := BXD.out.below b2; have B2 := Lib.hid bx; have kY := And.intro (CL.out w2 bx.bl) bx.b0; clear b2 bx))
  obtain ⟨⟨v0, v1, v2, v3, d0, d1, d2, d3⟩, z, fin⟩ := FIN.out w2.drew B2.out.bl.drew
  have FN := Lib.hid fin
  have z0 : w2.frozen? ⟨s, C * 4, none⟩ = false := z (C * 4)
  have z1 : w2.frozen? ⟨s, C * 4 + 1, none⟩ = false := z (C * 4 + 1)
  have z2 : w2.frozen? ⟨s, C * 4 + 2, none⟩ = false := z (C * 4 + 2)
  have z3 : w2.frozen? ⟨s, C * 4 + 3, none⟩ = false := z (C * 4 + 3)
  replace d0 : w2.cell? ⟨s, C * 4, none⟩ = some v0 := d0
  replace d1 : w2.cell? ⟨s, C * 4 + 1, none⟩ = some v1 := d1
  replace d2 : w2.cell? ⟨s, C * 4 + 2, none⟩ = some v2 := d2
  replace d3 : w2.cell? ⟨s, C * 4 + 3, none⟩ = some v3 := d3
  obtain ⟨⟨c0, c1⟩, _⟩ := kY
  obtain ⟨_, g0, g1, g2, g3, _⟩ := B2.out
  clear z fin kX
  go_wp2_with fail
  go_region
  go_wp2_with fail
  refine bodyPost_ret (v := .tuple #[]) (by simp [results, Try.results35, go_sem]) rfl ⟨rfl, ?_⟩
  exact FN.out
end Lo
end Go.Proofs.Ytloiclmngmnbdaa
