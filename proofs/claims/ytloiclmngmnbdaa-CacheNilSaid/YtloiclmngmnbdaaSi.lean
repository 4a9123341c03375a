/- The law CacheNil, where the point is taken: what it calls. -/
import Derived.Test.YtloiclmngmnbdaaSg
namespace Go.Proofs.Ytloiclmngmnbdaa
open Go.RowKit Go.Maps Go.ChangeMaps Go.MapKept
namespace Si
open Jb Ca Ck Ct Cd Cz Ls Lb Lc Ld Li Lj Lk Lm Ln Lo Lp Cq Cr Da Db Dc Ce Cs De Df Dg Dh Tb Sk Sl Sc Sd Se Sf Ra Rb Rc Rd Sg

def V1 (p : Pnt) : Vw := ⟨9, 1, fun y => if y = (sS, sF) then [p] else []⟩
theorem put_V1 (p : Pnt) (hE : putE (V0 9) (sS, sF) p = 0) : putV (V0 9) (sS, sF) p = V1 p := by
  unfold putV V1
  rw [if_pos hE]
  simp [V0, ins, Ct.has]
theorem own_fz {w : World} {base k n : Nat} {t : TypeId} {g c : Nat} {xs : List Value} (h : w.ownsRow base t k (.slice (some ⟨g, 0, none⟩) n c) n xs) (i : Nat) : w.frozen? ⟨g, i, none⟩ = false ∧ n ≤ c ∧ base ≤ g := by
  rcases h.2 with ⟨e, _⟩ | ⟨_, _, cur, e, hb, hg, hc, _⟩
  · cases e
  · cases e
    exact ⟨by simp [World.frozen?, hg], hc, hb⟩
theorem colOne (w4 : World) (S : Nat → Prop) (g : Nat) (p : Pnt) (h : DV w4 S g 1 (V1 p)) (y : World) (b : Below w4.heap.size w4 y) : Calls Try.prog 18 #[.pointer (some ⟨g, 0, none⟩)] y fun e w' =>
    ∃ xb xc xr xrc, e = .returned (.slice (some ⟨xb, 0, none⟩) 1 xc) ∧ 1 ≤ xc ∧ w'.cell? ⟨xb, 2, none⟩ = some (.slice (some ⟨xr, 0, none⟩) 1 xrc) ∧ 1 ≤ xrc ∧ w'.cell? ⟨xr, 0, none⟩ = some (.int .i64 p.1) ∧ w'.frozen? ⟨xr, 0, none⟩ = false ∧ w4.heap.size ≤ xr ∧ Below w4.heap.size w4 w' := by
  refine (columnsD y S g 1 (V1 p) (h.below b) (by omega) (fun s => by simp only [V1]; split <;> simp)).mono ?_
  rintro e w' ⟨v, ys, rfl, rv, cl, bl⟩
  obtain rfl : ys = [(sS, sF)] := rows_one rv.1 fun x => by
    rw [rv.2 x]
    simp only [V1]
    split <;> simp_all
  obtain ⟨rs, hrs, o, hi⟩ := cl
  obtain ⟨r, hr, o2⟩ := hi 0 (by simp)
  match rs, hrs with
  | [r'], _ =>
    obtain rfl : r' = r := by simpa using hr
    have o3 : w'.ownsRow y.heap.size 32 4 r' 1 (pcs [p]) := by simpa [V1] using o2
    obtain ⟨xb, xc, rfl⟩ := Go.Joins.ownsRow_form o (by decide)
    obtain ⟨xr, xrc, rfl⟩ := Go.Joins.ownsRow_form o3 (by decide)
    have f1 := o.cellAt 2 (by decide)
    have f2 := o3.cellAt 0 (by decide)
    simp [ccs, cc] at f1
    simp [pcs, pc, vc] at f2
    have q1 := own_fz o 0
    have q2 := own_fz o3 0
    have := b.size
    exact ⟨xb, xc, xr, xrc, rfl, q1.2.1, f1, q2.2.1, f2, q2.1, by omega, b.trans (bl.mono b.size)⟩
theorem getOne (w4 : World) (S : Nat → Prop) (g : Nat) (p : Pnt) (h : DV w4 S g 1 (V1 p)) (y : World) (b : Below w4.heap.size w4 y) : Calls Try.prog 15 #[.pointer (some ⟨g, 0, none⟩), .string sS, .string sF, .int .i64 p.1, .int .i64 p.1] y fun e w' =>
    ∃ xb xc, e = .returned (.slice (some ⟨xb, 0, none⟩) 1 xc) ∧ 1 ≤ xc ∧ (w'.cell? ⟨xb, 0, none⟩ = some (.int .i64 p.1) ∧ w'.cell? ⟨xb, 1, none⟩ = some (.int .i64 p.2.1) ∧ w'.cell? ⟨xb, 2, none⟩ = some (.int .u64 (p.2.2.1 : Nat)) ∧ w'.cell? ⟨xb, 3, none⟩ = some (.string (str p.2.2.2))) ∧ w'.frozen? ⟨xb, 2, none⟩ = false ∧ w4.heap.size ≤ xb ∧ Below w4.heap.size w4 w' := by
  refine (getD y S g 1 (V1 p) (h.below b) (sS, sF) (ok_s sS sF (by decide) (by decide)) p.1 p.1 (by simp [V1])).mono ?_
  rintro e w' ⟨r, rfl, o, bl⟩
  have hr : rng p.1 p.1 ((V1 p).P (sS, sF)) = [p] := by simp [V1, rng, inr]
  rw [hr] at o
  replace o : w'.ownsRow y.heap.size 32 4 r 1 (pcs [p]) := o
  obtain ⟨xr, xrc, rfl⟩ := Go.Joins.ownsRow_form o (by decide)
  have f0 := o.cellAt 0 (by decide)
  have f1 := o.cellAt 1 (by decide)
  have f2 := o.cellAt 2 (by decide)
  have f3 := o.cellAt 3 (by decide)
  simp [pcs, pc, vc] at f0 f1 f2 f3
  have q2 := own_fz o 2
  have := b.size
  exact ⟨xr, xrc, rfl, q2.2.1, ⟨f0, f1, f2, f3⟩, q2.1, by omega, b.trans (bl.mono b.size)⟩
end Si
end Go.Proofs.Ytloiclmngmnbdaa
