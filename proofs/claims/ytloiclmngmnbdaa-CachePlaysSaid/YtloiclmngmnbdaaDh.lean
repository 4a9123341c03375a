/- The cache by what is seen of it; awake. -/
import Derived.Test.YtloiclmngmnbdaaDg
namespace Go.Proofs.Ytloiclmngmnbdaa
open Go.RowKit Go.Maps Go.ChangeMaps Go.MapKept
namespace Dh
open Jb Ca Ck Ct Cd Ls Lb Lc Ld Li Lj Lk Lm Ln Lo Lp Cq Cr Da Db Dc Ce Cs De Df Dg

def DV (w : World) (S : Nat → Prop) (g N : Nat) (V : Vw) : Prop := ∃ d, vw d = V ∧ Dk w S g N d
theorem DV.lt {w : World} {S : Nat → Prop} {g N : Nat} {V : Vw} (h : DV w S g N V) : ∀ k, S k → k < w.heap.size := by obtain ⟨d, _, h⟩ := h; exact h.lt
theorem DV.below {w w' : World} {S : Nat → Prop} {g N : Nat} {V : Vw} (h : DV w S g N V) (b : Below w.heap.size w w') : DV w' S g N V := by
  obtain ⟨d, e, h⟩ := h; exact ⟨d, e, h.below b (Nat.le_refl _)⟩
theorem DV.chg {w w' : World} {S T : Nat → Prop} {g N : Nat} {V : Vw} (h : DV w S g N V) (b : Chg w w' T) (hB : ∀ k, S k → ¬ T k) : DV w' S g N V := by
  obtain ⟨d, e, h⟩ := h; exact ⟨d, e, h.chg b hB⟩
theorem DV.set {w : World} {S S' : Nat → Prop} {g N : Nat} {V : Vw} (h : DV w S g N V) (f : ∀ k, S k → S' k) (hl : ∀ k, S' k → k < w.heap.size) : DV w S' g N V := by
  obtain ⟨d, e, h⟩ := h; exact ⟨d, e, h.set f hl⟩
theorem DV.more {w : World} {S : Nat → Prop} {g N N' : Nat} {V : Vw} (h : DV w S g N V) (hn : N ≤ N') : DV w S g N' V := by
  obtain ⟨d, e, h⟩ := h; exact ⟨d, e, De.Dk.more h hn⟩
theorem DV.rise {w : World} {S : Nat → Prop} {g N : Nat} {V : Vw} (h : DV w S g N V) (s : Ky) : Rise (V.P s) := by
  obtain ⟨d, rfl, h⟩ := h
  show Rise (pts (d.F s))
  cases hF : d.F s with
  | none => exact List.Pairwise.nil
  | some f => exact (h.fm s f hF).1.rise
theorem DV.wp {w : World} {S : Nat → Prop} {g N : Nat} {V : Vw} (h : DV w S g N V) (s : Ky) : ∀ x ∈ V.P s, Wp x := by
  obtain ⟨d, rfl, h⟩ := h
  show ∀ x ∈ pts (d.F s), Wp x
  cases hF : d.F s with
  | none => intro x hx; cases hx
  | some f => exact (h.fm s f hF).1.wp
def V0 (most : Nat) : Vw := ⟨most, 0, fun _ => []⟩
theorem newD (w : World) (n : Int) (hn : -9223372036854775808 ≤ n ∧ n ≤ 9223372036854775807) :
    Calls Try.prog 9 #[.int .i64 n] w fun e w' => e = .returned (.pointer (some ⟨w.heap.size, 0, none⟩)) ∧ DV w' (fun k => w.heap.size ≤ k ∧ k < w'.heap.size) w.heap.size 0 (V0 n.toNat) ∧ Below w.heap.size w w' := by
  refine (new9 w n hn).mono ?_
  rintro e w' ⟨rfl, h, b⟩
  exact ⟨rfl, ⟨_, rfl, h⟩, b⟩
theorem putD (w : World) (S : Nat → Prop) (g N : Nat) (V : Vw) (h : DV w S g N V) (s : Ky) (hs : ok s) (p : Pnt) (hp : Wp p) (hl : (V.P s).length ≤ 511) (hN : N ≤ 140737488353000) : Calls Try.prog 19 #[.pointer (some ⟨g, 0, none⟩), .string s.1, .string s.2, pa p] w fun e w' => e = .returned (.int .i64 (putE V s p)) ∧ DV w' (New S w w') g (N + 1) (putV V s p) ∧ Chg w w' S := by
  obtain ⟨d, rfl, h⟩ := h
  refine (put19 w S g N d h s hs p hp hl hN).mono ?_
  rintro e w' ⟨rfl, d', v, k, c⟩
  exact ⟨rfl, ⟨d', v, k⟩, c⟩
theorem getD (w : World) (S : Nat → Prop) (g N : Nat) (V : Vw) (h : DV w S g N V) (s : Ky) (hs : ok s) (a b : Int) (hl : (V.P s).length ≤ 1000000) :
    Calls Try.prog 15 #[.pointer (some ⟨g, 0, none⟩), .string s.1, .string s.2, .int .i64 a, .int .i64 b] w fun e w' => ∃ r, e = .returned r ∧ w'.ownsRow w.heap.size 32 4 r (rng a b (V.P s)).length (pcs (rng a b (V.P s))) ∧ Below w.heap.size w w' := by
  obtain ⟨d, rfl, h⟩ := h
  exact get15 w S g N d h s hs a b hl
theorem sizeD (w : World) (S : Nat → Prop) (g N : Nat) (V : Vw) (h : DV w S g N V) : Calls Try.prog 12 #[.pointer (some ⟨g, 0, none⟩)] w fun e w' => e = .returned (.int .i64 (V.size : Nat)) ∧ w' = w := by
  obtain ⟨d, rfl, h⟩ := h
  exact size12 w g d h.cs
theorem clearD (w : World) (S : Nat → Prop) (g N : Nat) (V : Vw) (h : DV w S g N V) : Calls Try.prog 20 #[.pointer (some ⟨g, 0, none⟩)] w fun e w' => e = .returned (.tuple #[]) ∧ DV w' S g 0 (V0 V.most) ∧ Chg w w' S := by
  obtain ⟨d, rfl, h⟩ := h
  refine (clear20 w S g N d h).mono ?_
  rintro e w' ⟨rfl, k, c⟩
  exact ⟨rfl, ⟨_, rfl, k⟩, c⟩
/-- Blocks from B on. -/
def Up (B : Nat) (w : World) (k : Nat) : Prop := B ≤ k ∧ k < w.heap.size
theorem up_new {B : Nat} {w w' : World} (h : B ≤ w.heap.size) (hs : w.heap.size ≤ w'.heap.size) : ∀ k, New (Up B w) w w' k → Up B w' k := fun k hk => by
  rcases hk with hk | hk
  · exact ⟨hk.1, by have := hk.2; omega⟩
  · exact ⟨by omega, hk.2⟩
theorem up_below {B : Nat} {w w' : World} (h : Chg w w' (Up B w)) (hB : B ≤ w.heap.size) : Below B w w' := h.below (fun _ hk _ => hk.1) hB
theorem str_nil : str [] = ⟨#[]⟩ := by simp [str, strOfNums]
def sS : ByteArray := ⟨#[115]⟩
def sF : ByteArray := ⟨#[102]⟩
def sG : ByteArray := ⟨#[103]⟩
def sT : ByteArray := ⟨#[116]⟩
theorem ok_s (a b : ByteArray) (ha : a.size ≤ 1) (hb : b.size ≤ 1) : ok (a, b) := ⟨by show a.size ≤ _; omega, by show b.size ≤ _; omega⟩
set_option maxRecDepth 100000
theorem awake8 (w : World) : Calls Try.prog 8 #[] w fun e w' => e = .returned (.bool true) ∧ Below w.heap.size w w' := by
  have NW := Lib.hid (newD w 1 (by omega))
  have hwp : Wp (5, 2, 0, []) := ⟨by decide, by decide, by decide, by decide, by simp⟩
  have e1 : putE (V0 1) (sS, sF) (5, 2, 0, []) = 0 := by decide
  have v1 : putV (V0 1) (sS, sF) (5, 2, 0, []) = ⟨1, 1, fun y => if y = (sS, sF) then [(5, 2, 0, [])] else []⟩ := by unfold putV; rw [if_pos e1]; rfl
  have e2 : putE ⟨1, 1, fun y => if y = (sS, sF) then [(5, 2, 0, [])] else []⟩ (sS, sG) (5, 2, 0, []) = 7 := by decide
  have PT := Lib.hid (show ∀ w1 S g N V s, DV w1 S g N V → ok s → (V.P s).length ≤ 511 → N ≤ 140737488353000 → _ from fun w1 S g N V s h hs hl hN => putD w1 S g N V h s hs (5, 2, 0, []) hwp hl hN)
  unfold pa at PT
  simp only [str_nil] at PT
  have SZ := Lib.hid (fun w S g N V h => sizeD w S g N V h)
  go_enter Try.func8, Try.ntmps8
  go_wp2_with fail
  refine NW.out.mono ?_
  rintro e w1 ⟨rfl, d1, b1⟩
  have s1 := b1.size
  have P1 := PT.out (w1.alloc (.cells #[.int .i64 5, .int .i64 2, .int .u64 0, .string ⟨#[]⟩] 32)) _ w.heap.size 0 (V0 1) (sS, sF) (d1.below ((Below.refl _ w1).alloc (Nat.le_refl _) _)) (ok_s sS sF (by decide) (by decide)) (by simp [V0]) (by omega)
  rw [e1, v1] at P1
  have BB := Lib.hid (b1.alloc b1.size (.cells #[.int .i64 5, .int .i64 2, .int .u64 0, .string ⟨#[]⟩] 32))
  replace P1 := Lib.hid P1
  have hbx := heap_alloc_new w1 (.cells #[.int .i64 5, .int .i64 2, .int .u64 0, .string ⟨#[]⟩] 32)
  have HBX := Lib.hid hbx
  clear d1 b1 hbx
  go_wp2_with fail
  refine P1.out.mono ?_
  rintro e w2 ⟨rfl, d2, c2⟩
  have s2 := c2.size
  simp only [World.size_alloc] at s2
  have bx2 := (c2.block w1.heap.size (by simp) (by omega)).trans HBX.out
  have g0 := cell_at bx2 0
  have g1 := cell_at bx2 1
  have g2 := cell_at bx2 2
  have g3 := cell_at bx2 3
  simp at g0 g1 g2 g3
  have P2 := PT.out w2 _ w.heap.size _ _ (sS, sG) d2 (ok_s sS sG (by decide) (by decide)) (by decide) (by omega)
  rw [e2] at P2
  have v2 : putV ⟨1, 1, fun y => if y = (sS, sF) then [(5, 2, 0, [])] else []⟩ (sS, sG) (5, 2, 0, []) = ⟨1, 1, fun y => if y = (sS, sF) then [(5, 2, 0, [])] else []⟩ := by unfold putV; rw [if_neg (by rw [e2]; decide)]
  rw [v2] at P2
  replace P2 := Lib.hid P2
  have B2 := Lib.hid (BB.out.trans (c2.below (B := w.heap.size) (fun k hk _ => hk.1) (by simp; omega)))
  have C2 := Lib.hid c2
  clear d2 c2 bx2 v2
  go_wp2_with fail
  refine P2.out.mono ?_
  rintro e w3 ⟨rfl, d3, c3⟩
  have Z3 := Lib.hid (SZ.out w3 _ _ _ _ d3)
  have B3 := Lib.hid (B2.out.trans (c3.below (B := w.heap.size) (fun k hk _ => by
    rcases hk with hk | hk
    · exact hk.1
    · have := hk.1; simp at this; omega) (by omega)))
  clear d3 c3
  go_wp2_with fail
  refine Z3.out.mono ?_
  rintro e w4 ⟨rfl, rfl⟩
  go_wp2_with fail
  go_ret
  exact ⟨rfl, B3.out⟩
end Dh
end Go.Proofs.Ytloiclmngmnbdaa
