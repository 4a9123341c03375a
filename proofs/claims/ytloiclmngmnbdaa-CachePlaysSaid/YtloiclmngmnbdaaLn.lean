/- split of a short piece; put where there is no column yet, and behind the last point. -/
import Derived.Test.YtloiclmngmnbdaaLm
namespace Go.Proofs.Ytloiclmngmnbdaa
open Go.RowKit Go.Maps Go.ChangeMaps Go.MapKept
namespace Ln
open Jb Ca Ck Ct Cd Ls Lb Lc Ld Li Lj Lk Lm

set_option maxRecDepth 100000
theorem split56 (w : World) (f : Co) (h : Cm w f) (hl : f.L.length ≤ 512) : Calls Try.prog 56 #[.pointer (some ⟨f.blk, 0, none⟩), .int .i64 0] w fun e w' => e = .returned (.tuple #[]) ∧ w' = w := by
  obtain ⟨P, pc, s, sc, e1, e2, e3, e4, e5, e6, n1, n2, n3, k0, k1, kr, kb, kp⟩ := Cm.cells h
  generalize f.L.length = n at *
  clear h kr
  go_enter Try.func56, Try.ntmps56
  go_wp2_with fail
  refine bodyPost_ret (v := .tuple #[]) (by simp [results, Try.results56, go_sem]) rfl ⟨rfl, rfl⟩
/-- What put leaves of a column at block b. -/
def Put (w : World) (b : Nat) (F : Nat → Prop) (L' : List Pnt) (w' : World) : Prop :=
  ∃ f', f'.blk = b ∧ f'.L = L' ∧ Cm w' f' ∧ Chg w w' F ∧ ∀ k, foot f' k → F k ∨ (w.heap.size ≤ k ∧ k < w'.heap.size)
theorem put35_0 (w : World) (cb : Nat) (p : Pnt) (hp : Wp p) (hc : w.cell? ⟨cb, 0, none⟩ = some (.slice none 0 0)) (hz : w.frozen? ⟨cb, 0, none⟩ = false) :
    Calls Try.prog 35 #[.pointer (some ⟨cb, 0, none⟩), pa p] w fun e w' => e = .returned (.tuple #[]) ∧ Put w cb (fun k => k = cb) [p] w' := by
  have HC := Lib.hid hc
  have kb : cb < w.heap.size := cell_lt hc
  obtain ⟨A, hA⟩ : ∃ A : Obj, A = .cells #[.int .i64 p.1, .int .i64 p.2.1, .int .u64 (p.2.2.1 : Nat), .string (str p.2.2.2)] 32 := ⟨_, rfl⟩
  have RE := Lib.hid (reach0 (w.alloc A) cb p.1 (alloc_cell A hc))
  have PU := Lib.hid (show ∀ w1, Below (w.alloc A).heap.size (w.alloc A) w1 → w1.cell? ⟨cb, 0, none⟩ = some (.slice none 0 0) ∧ w1.cell? ⟨w.heap.size, 0, none⟩ = some (.int .i64 p.1) ∧ w1.cell? ⟨w.heap.size, 1, none⟩ = some (.int .i64 p.2.1) ∧ w1.cell? ⟨w.heap.size, 2, none⟩ = some (.int .u64 (p.2.2.1 : Nat)) ∧ w1.cell? ⟨w.heap.size, 3, none⟩ = some (.string (str p.2.2.2)) ∧ (Calls Try.prog 54 #[.pointer (some ⟨cb, 0, none⟩), pa p] w1 fun e w' => e = .returned (.tuple #[]) ∧ Put w cb (fun k => k = cb) [p] w') from fun w1 b1 => by
    have b0 := (Below.refl _ w).alloc (Nat.le_refl _) A
    have h1 : w1.heap[cb]? = w.heap[cb]? := (b1.block cb (by simp; omega)).trans (b0.block cb kb)
    have h2 : w1.heap[w.heap.size]? = some A := (b1.block _ (by simp)).trans (heap_alloc_new _ _)
    have bs := b1.size
    simp at bs
    rw [hA] at h2
    refine ⟨(World.cell?_of_block h1).trans hc, cell_at h2 0, cell_at h2 1, cell_at h2 2, cell_at h2 3, (push54_0 w1 cb p hp ((World.cell?_of_block h1).trans hc) ((World.frozen?_of_block h1).trans hz)).mono ?_⟩
    rintro e w' ⟨rfl, f', f1, f2, f3, f4, f5⟩
    refine ⟨rfl, f', f1, f2, f3, (Chg.of_below (b0.trans (b1.mono b0.size)) (Nat.le_refl _) _).trans f4 (fun k hk _ => hk), fun k hk => ?_⟩
    rcases f5 k hk with e | e
    · exact .inl e
    · exact .inr (by omega))
  rw [hA] at RE PU
  obtain ⟨x0, x1, x2, x3⟩ := p
  unfold pa at PU ⊢
  simp only at RE PU ⊢
  clear hp hc hz hA
  go_enter Try.func35, Try.ntmps35
  go_wp2_with fail
  refine RE.out.mono ?_
  rintro e w1 ⟨rfl, b1⟩
  obtain ⟨g0, g1, g2, g3, g4, PU2⟩ := PU.out w1 b1
  have PU3 := Lib.hid PU2
  clear b1 PU2
  go_wp2_with fail
  refine PU3.out.mono ?_
  rintro e w2 ⟨rfl, h2⟩
  have H2 := Lib.hid h2
  clear h2
  go_wp2_with fail
  refine bodyPost_ret (v := .tuple #[]) (by simp [results, Try.results35, go_sem]) rfl ⟨rfl, H2.out⟩
/-- A box of a point lies above; what was below is as it was. -/
structure Box (w w1 : World) (p : Pnt) : Prop where
  bl : Below w.heap.size w w1
  b0 : w1.cell? ⟨w.heap.size, 0, none⟩ = some (.int .i64 p.1)
  b1 : w1.cell? ⟨w.heap.size, 1, none⟩ = some (.int .i64 p.2.1)
  b2 : w1.cell? ⟨w.heap.size, 2, none⟩ = some (.int .u64 (p.2.2.1 : Nat))
  b3 : w1.cell? ⟨w.heap.size, 3, none⟩ = some (.string (str p.2.2.2))
  lt : w.heap.size < w1.heap.size
theorem box_of {w w1 : World} {p : Pnt} (b1 : Below (w.heap.size + 1) (w.alloc (.cells #[.int .i64 p.1, .int .i64 p.2.1, .int .u64 (p.2.2.1 : Nat), .string (str p.2.2.2)] 32)) w1) : Box w w1 p := by
  have b0 := (Below.refl _ w).alloc (Nat.le_refl _) (.cells #[.int .i64 p.1, .int .i64 p.2.1, .int .u64 (p.2.2.1 : Nat), .string (str p.2.2.2)] 32)
  have h2 : w1.heap[w.heap.size]? = some (.cells #[.int .i64 p.1, .int .i64 p.2.1, .int .u64 (p.2.2.1 : Nat), .string (str p.2.2.2)] 32 (0, 0)) := (b1.block _ (by omega)).trans (heap_alloc_new _ _)
  have bs := b1.size
  simp at bs
  exact ⟨b0.trans (b1.mono (by omega)), cell_at h2 0, cell_at h2 1, cell_at h2 2, cell_at h2 3, by omega⟩
theorem Box.below {w w1 w2 : World} {p : Pnt} (h : Box w w1 p) (b : Below w1.heap.size w1 w2) : Box w w2 p := by
  have e := fun i => World.cell?_of_block (a := ⟨w.heap.size, i, none⟩) (b.block w.heap.size h.lt)
  exact ⟨h.bl.trans (b.mono h.bl.size), (e 0).trans h.b0, (e 1).trans h.b1, (e 2).trans h.b2, (e 3).trans h.b3, Nat.lt_of_lt_of_le h.lt b.size⟩
theorem Put.up {w w1 w' : World} {b : Nat} {F : Nat → Prop} {L' : List Pnt} (h : Put w1 b F L' w') (bl : Below w.heap.size w w1) : Put w b F L' w' := by
  obtain ⟨f', f1, f2, f3, f4, f5⟩ := h
  refine ⟨f', f1, f2, f3, (Chg.of_below bl (Nat.le_refl _) _).trans f4 (fun k hk _ => hk), fun k hk => ?_⟩
  rcases f5 k hk with e | e
  · exact .inl e
  · exact .inr (by have := bl.size; omega)
theorem put35_end (w : World) (f : Co) (h : Cm w f) (p : Pnt) (hp : Wp p) (hl : f.L.length ≤ 511) (hlast : cnt p.1 f.L = f.L.length) (hnh : has p.1 f.L = false) :
    Calls Try.prog 35 #[.pointer (some ⟨f.blk, 0, none⟩), pa p] w fun e w' => e = .returned (.tuple #[]) ∧ Put w f.blk (foot f) (ins p f.L) w' := by
  obtain ⟨A, hA⟩ : ∃ A : Obj, A = .cells #[.int .i64 p.1, .int .i64 p.2.1, .int .u64 (p.2.2.1 : Nat), .string (str p.2.2.2)] 32 := ⟨_, rfl⟩
  have ba := (Below.refl _ w).alloc (Nat.le_refl _) A
  have RE := reach1 (w.alloc A) f (h.below ba (Nat.le_refl _)) p.1 (by omega)
  have er : rch p.1 f.L = 1 := if_neg (by omega)
  rw [er, World.size_alloc] at RE
  replace RE := Lib.hid RE
  have PU := Lib.hid (show ∀ w1, Below (w.heap.size + 1) (w.alloc A) w1 → Box w w1 p ∧ Cm w1 f ∧ (Calls Try.prog 54 #[.pointer (some ⟨f.blk, 0, none⟩), pa p] w1 fun e w' => e = .returned (.tuple #[]) ∧ Put w f.blk (foot f) (ins p f.L) w') from fun w1 b1 => by
    rw [hA] at b1
    have bx := box_of b1
    have hc := h.below bx.bl (Nat.le_refl _)
    refine ⟨bx, hc, (push54_1 w1 f hc p hp hl hlast hnh).mono ?_⟩
    rintro e w' ⟨rfl, h2⟩
    exact ⟨rfl, Put.up h2 bx.bl⟩)
  obtain ⟨LL, hLL⟩ : ∃ LL, LL = ins p f.L := ⟨_, rfl⟩
  rw [← hLL] at PU ⊢
  rw [hA] at RE PU
  obtain ⟨x0, x1, x2, x3⟩ := p
  unfold pa at PU ⊢
  simp only at RE PU ⊢
  clear hp h hl hlast hnh ba hA er hLL
  go_enter Try.func35, Try.ntmps35
  go_wp2_with fail
  refine RE.out.mono ?_
  rintro e w1 ⟨rfl, b1⟩
  obtain ⟨bx, cm, PU2⟩ := PU.out w1 b1
  obtain ⟨P, pc, s, sc, e1, e2, e3, e4, e5, e6, n1, n2, n3, k0, k1, kr, kb, kp⟩ := Cm.cells cm
  obtain ⟨bl, g0, g1, g2, g3, _⟩ := bx
  have PU3 := Lib.hid PU2
  clear b1 PU2 cm kr bl
  go_wp2_with fail
  refine PU3.out.mono ?_
  rintro e w2 ⟨rfl, h2⟩
  have H2 := Lib.hid h2
  clear h2
  go_wp2_with fail
  refine bodyPost_ret (v := .tuple #[]) (by simp [results, Try.results35, go_sem]) rfl ⟨rfl, H2.out⟩
end Ln
end Go.Proofs.Ytloiclmngmnbdaa
