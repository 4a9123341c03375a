/- push behind a piece. -/
import Derived.Test.YtloiclmngmnbdaaLk
namespace Go.Proofs.Ytloiclmngmnbdaa
open Go.RowKit Go.Maps Go.ChangeMaps Go.MapKept
namespace Lm
open Jb Ca Ck Ct Cd Ls Lb Lc Ld Li Lj Lk

set_option maxRecDepth 100000
set_option maxHeartbeats 4000000 in
theorem push54_1 (w : World) (f : Co) (h : Cm w f) (p : Pnt) (hp : Wp p) (hl : f.L.length ≤ 511) (hlast : cnt p.1 f.L = f.L.length) (hnh : has p.1 f.L = false) :
    Calls Try.prog 54 #[.pointer (some ⟨f.blk, 0, none⟩), pa p] w fun e w' => e = .returned (.tuple #[]) ∧ ∃ f', f'.blk = f.blk ∧ f'.L = ins p f.L ∧ Cm w' f' ∧ Chg w w' (foot f) ∧ ∀ k, foot f' k → foot f k ∨ (w.heap.size ≤ k ∧ k < w'.heap.size) := by
  obtain ⟨P, pc, s, sc, e1, e2, e3, e4, e5, e6, n1, n2, n3, k0, k1, kr, kb, kp⟩ := Cm.cells h
  have HE := Lib.hid (fun (w : World) (h : Cm w f) => empty38_1 w f h)
  have h0 : 0 < f.L.length := List.length_pos_iff.2 h.ne
  obtain ⟨x0, x1, x2, x3⟩ := p
  have hins := ins_end h.rise _ hlast hnh
  rw [hins]
  unfold pa
  simp only
  obtain ⟨A, hA⟩ : ∃ A : Obj, A = .cells #[.int .i64 x0, .int .i64 x1, .int .u64 ((x2 : Nat) : Int), .string (str x3)] 32 := ⟨_, rfl⟩
  obtain ⟨W3, hW3⟩ : ∃ W3, W3 = ((w.alloc A).alloc A).drew := ⟨_, rfl⟩
  have b3 : Below w.heap.size w W3 := by rw [hW3]; exact (((Below.refl _ w).alloc (Nat.le_refl _) _).alloc (by simp) _).drew
  have s3 : W3.heap.size = w.heap.size + 2 := by rw [hW3]; simp
  have g3 : W3.heap[w.heap.size + 1]? = some (.cells #[.int .i64 x0, .int .i64 x1, .int .u64 ((x2 : Nat) : Int), .string (str x3)] 32 (0, 0)) := by
    rw [hW3]
    show ((w.alloc A).alloc A).heap[_]? = _
    rw [show w.heap.size + 1 = (w.alloc A).heap.size by simp, heap_alloc_new, hA]
  have g0 : W3.heap[w.heap.size]? = some (.cells #[.int .i64 x0, .int .i64 x1, .int .u64 ((x2 : Nat) : Int), .string (str x3)] 32 (0, 0)) := by
    rw [hW3]
    show ((w.alloc A).alloc A).heap[_]? = _
    rw [Below.heap_alloc _ _ _ (by simp), heap_alloc_new, hA]
  have o2 := h.own2
  rw [e3] at o2
  have sl : s < w.heap.size := (own_lt o2 rfl).2
  have o23 := own_of_block (w' := W3) o2 (fun k hk => b3.block k (by simp [Value.ownBlock] at hk; omega))
  have AP := app_own W3 (w.heap.size + 1) s f.L.length sc f.L (x0, x1, x2, x3) rfl (by omega) o23 g3
  have hi : Hid (Rise (f.L ++ [(x0, x1, x2, x3)]) ∧ ∀ x ∈ f.L ++ [(x0, x1, x2, x3)], Wp x) := Lib.hid (by rw [← hins]; exact ⟨ins_rise h.rise, ins_wp hp h.wp⟩)
  obtain ⟨n, hn⟩ : ∃ n, n = f.L.length := ⟨_, rfl⟩
  have e3' := e3
  rw [← hn] at AP k1 h0 hl e3'
  have AP2 := Lib.hid (show ∀ ty, ∃ v' w', (Builtin.append_ #[43, 43] ty #[.slice (some ⟨s, 0, none⟩) n sc, .slice (some ⟨w.heap.size + 1, 0, none⟩) 1 1]).run Try.prog W3 = .ok v' w' ∧ ∃ q qc, v' = .slice (some ⟨q, 0, none⟩) (n + 1) qc ∧ ((w'.cell? ⟨f.blk, 0, none⟩ = some (.slice (some ⟨P, 0, none⟩) 1 pc) ∧ w'.cell? ⟨P, 0, none⟩ = some (.slice (some ⟨s, 0, none⟩) n sc)) ∧ w'.cell? ⟨w.heap.size, 0, none⟩ = some (.int .i64 x0) ∧ w'.cell? ⟨w.heap.size, 1, none⟩ = some (.int .i64 x1) ∧ w'.cell? ⟨w.heap.size, 2, none⟩ = some (.int .u64 ((x2 : Nat) : Int)) ∧ w'.cell? ⟨w.heap.size, 3, none⟩ = some (.string (str x3))) ∧ w'.frozen? ⟨P, 0, none⟩ = false ∧
      (∃ f', f'.blk = f.blk ∧ f'.L = f.L ++ [(x0, x1, x2, x3)] ∧ Cm (w'.setCell ⟨P, 0, none⟩ (.slice (some ⟨q, 0, none⟩) (n + 1) qc)) f' ∧ Chg w (w'.setCell ⟨P, 0, none⟩ (.slice (some ⟨q, 0, none⟩) (n + 1) qc)) (foot f) ∧ ∀ k, foot f' k → foot f k ∨ (w.heap.size ≤ k ∧ k < (w'.setCell ⟨P, 0, none⟩ (.slice (some ⟨q, 0, none⟩) (n + 1) qc)).heap.size)) from fun ty => by
    obtain ⟨v', w', hrun, q, qc, e, o, chg, hq⟩ := AP ty
    obtain ⟨y1, y2, y3, y4⟩ := piece h e1 e3 ((Chg.of_below b3 (Nat.le_refl _) _).trans chg (fun k hk _ => hk)) (L' := f.L ++ [(x0, x1, x2, x3)]) (by rw [hn]; simp) o (hq.imp id fun e => ⟨by omega, e.2⟩) (by simp) hi.out.2 hi.out.1
    have hbx : w'.heap[w.heap.size]? = some (.cells #[.int .i64 x0, .int .i64 x1, .int .u64 ((x2 : Nat) : Int), .string (str x3)] 32 (0, 0)) := by
      rw [chg.block w.heap.size (by omega) (by omega), g0]
    exact ⟨v', w', hrun, q, qc, e, ⟨⟨by rw [y3, e1], by rw [y1, e3']⟩, cell_at hbx 0, cell_at hbx 1, cell_at hbx 2, cell_at hbx 3⟩, y2, y4⟩)
  have c1 := alloc_cell A k0
  have c2 := alloc_cell A c1
  have d1 := alloc_cell A k1
  have d2 := alloc_cell A d1
  have bx : ∀ (i : Nat) (v : Value), (#[.int .i64 x0, .int .i64 x1, .int .u64 ((x2 : Nat) : Int), .string (str x3)] : Array Value)[i]? = some v → (w.alloc A).cell? ⟨w.heap.size, i, none⟩ = some v := fun i v hv => by
    rw [cell_at (by rw [hA]; exact heap_alloc_new w _)]; exact hv
  have SA : Hid (((w.alloc A).cell? ⟨f.blk, 0, none⟩ = some (.slice (some ⟨P, 0, none⟩) 1 pc) ∧ (w.alloc A).cell? ⟨P, 0, none⟩ = some (.slice (some ⟨s, 0, none⟩) n sc)) ∧ (w.alloc A).cell? ⟨w.heap.size, 0, none⟩ = some (.int .i64 x0) ∧ (w.alloc A).cell? ⟨w.heap.size, 1, none⟩ = some (.int .i64 x1) ∧ (w.alloc A).cell? ⟨w.heap.size, 2, none⟩ = some (.int .u64 ((x2 : Nat) : Int)) ∧ (w.alloc A).cell? ⟨w.heap.size, 3, none⟩ = some (.string (str x3))) :=
    Lib.hid ⟨⟨c1, d1⟩, bx 0 _ rfl, bx 1 _ rfl, bx 2 _ rfl, bx 3 _ rfl⟩
  have SB : Hid ((((w.alloc A).alloc A).cell? ⟨f.blk, 0, none⟩ = some (.slice (some ⟨P, 0, none⟩) 1 pc) ∧ ((w.alloc A).alloc A).cell? ⟨P, 0, none⟩ = some (.slice (some ⟨s, 0, none⟩) n sc)) ∧ ((w.alloc A).alloc A).cell? ⟨w.heap.size, 0, none⟩ = some (.int .i64 x0) ∧ ((w.alloc A).alloc A).cell? ⟨w.heap.size, 1, none⟩ = some (.int .i64 x1) ∧ ((w.alloc A).alloc A).cell? ⟨w.heap.size, 2, none⟩ = some (.int .u64 ((x2 : Nat) : Int)) ∧ ((w.alloc A).alloc A).cell? ⟨w.heap.size, 3, none⟩ = some (.string (str x3))) :=
    Lib.hid ⟨⟨c2, d2⟩, alloc_cell _ (bx 0 _ rfl), alloc_cell _ (bx 1 _ rfl), alloc_cell _ (bx 2 _ rfl), alloc_cell _ (bx 3 _ rfl)⟩
  have hcm := Lib.hid (h.below (((Below.refl _ w).alloc (Nat.le_refl _) A)) (Nat.le_refl _))
  rw [hA] at hW3 c1 d1 hcm SA SB
  rw [hW3] at AP2
  have hq1 : ((n : Int) == 512) = false := by simp; omega
  clear AP o23 g0 c2 d2 bx g3 s3 b3 hA hW3 h hp hins hlast hnh e1 e3 e3' o2 kr hi hn
  go_enter Try.func54, Try.ntmps54
  go_wp2_with (go_at_call 38; refine (HE.out _ hcm.out).mono ?_; rintro e w' ⟨rfl, rfl⟩)
  obtain ⟨⟨a1, a2⟩, a3, a4, a5, a6⟩ := SA.out
  obtain ⟨⟨b1, b2⟩, b3, b4, b5, b6⟩ := SB.out
  go_region_law (first | (refine step_append rfl (.tmp 46) (.tmp 48) 43 rfl (.slice (some ⟨s, 0, none⟩) n sc) (.slice (some ⟨w.heap.size + 1, 0, none⟩) 1 1) (by simp [Act.eval]) (by simp [Act.eval]) _ AP2.out ?_; intro v' w3 h3; obtain ⟨q, qc, rfl, jj, j2, h4⟩ := h3; obtain ⟨⟨j1, j0⟩, j5, j6, j7, j8⟩ := jj; have H4 := Lib.hid h4; clear h4))
  all_goals
    go_wp2_with fail
    refine bodyPost_end (v := .tuple #[]) (by simp [results, Try.results54, go_sem]) rfl ⟨rfl, H4.out⟩
end Lm
end Go.Proofs.Ytloiclmngmnbdaa
