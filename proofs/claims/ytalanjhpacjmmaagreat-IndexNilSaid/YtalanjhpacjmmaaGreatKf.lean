/- Books: the one under a text, laid there if there is none. -/
import Derived.Test.YtalanjhpacjmmaaGreatKd
namespace Go.Proofs.YtalanjhpacjmmaaGreat
set_option maxRecDepth 100000
open Go.RowKit Go.Maps Go.ChangeMaps Go.MapKept Go.Sort Go.Shelf
namespace Kf
open Jb Ka Kb Kc Kd

theorem Turn.pre {w W w' : World} {g o N : Nat} {mo mo' : Option Nat} {F : Fun} (b : Below w.heap.size w W) (h : Turn W w' g o mo mo' N F) (hg : g < w.heap.size) : Turn w w' g o mo mo' N F :=
  ⟨h.bk, (Chg.of_below b (Nat.le_refl _) (fun k => k = g ∨ mo = some k)).trans h.chg (fun _ e _ => e), h.mo.imp id (fun ⟨m, e, l⟩ => ⟨m, e, Nat.le_trans b.size l⟩), fun i h1 h2 => (h.cell i h1 h2).trans (World.cell?_of_block (b.block g hg)), fun i => (h.froz i).trans (World.frozen?_of_block (b.block g hg))⟩
/-- A new, empty book. -/
theorem bk_new (w : World) (t : TypeId) : Bk (w.alloc (.cells #[.map none, .int .i64 0] t)) w.heap.size 0 none 0 (fun _ => none) :=
  ⟨new_cell _ _ _ 0 _ rfl, ⟨0, by omega, new_cell _ _ _ 1 _ rfl⟩, fun i => by rw [World.frozen?, show (w.alloc (.cells #[.map none, .int .i64 0] t)).heap[w.heap.size]? = _ from heap_alloc_new _ _]; simp, fun m e => (nomatch e), fun _ _ => rfl, fun m e => (nomatch e)⟩
theorem under_old_X (w : World) (g N : Nat) (mo : Option Nat) (F : Fun) (h : Bk w g 0 mo N F) (s : ByteArray) (hs : s.size ≤ maxLen) (b : Nat) (hF : F s = some (.pointer (some ⟨b, 0, none⟩))) :
    Calls Tryz.prog 72 #[.pointer (some ⟨g, 0, none⟩), .string s] w fun e w' => e = .returned (.pointer (some ⟨b, 0, none⟩)) ∧ w' = w := by
  have G := Lib.hid (get_V w g N mo F h s hs)
  rw [hF] at G
  simp only [Option.getD_some] at G
  clear h hs hF
  go_enter Tryz.func72, Tryz.ntmps72
  go_wp2_with (go_at_call 57; refine G.out.mono ?_; rintro e w' ⟨rfl, rfl⟩)
  go_ret
  trivial
theorem under_new_X (w : World) (g N : Nat) (mo : Option Nat) (F : Fun) (h : Bk w g 0 mo N F) (s : ByteArray) (hs : s.size ≤ maxLen) (hN : N < maxLen) (hF : F s = none) :
    Calls Tryz.prog 72 #[.pointer (some ⟨g, 0, none⟩), .string s] w fun e w' => ∃ b mo', e = .returned (.pointer (some ⟨b, 0, none⟩)) ∧ w.heap.size ≤ b ∧ mo' ≠ some b ∧ Bk w' b 0 none 0 (fun _ => none) ∧ Turn w w' g 0 mo mo' (N + 1) (upd F s (some (.pointer (some ⟨b, 0, none⟩)))) := by
  have G := Lib.hid (get_V w g N mo F h s hs)
  rw [hF] at G
  simp only [Option.getD_none] at G
  obtain ⟨W, hW⟩ : ∃ W, W = w.alloc (.cells #[.map none, .int .i64 0] 143) := ⟨_, rfl⟩
  obtain ⟨b, hb⟩ : ∃ b, b = w.heap.size := ⟨_, rfl⟩
  have bW : Below w.heap.size w W := by rw [hW]; exact (Below.refl _ w).alloc (Nat.le_refl _) _
  have P := Lib.hid (put_V W g N mo F (h.below bW) s hs hN b)
  have NW := Lib.hid (show Bk W b 0 none 0 (fun _ => none) by rw [hW, hb]; exact bk_new _ _)
  have BW := Lib.hid bW
  have HB := Lib.hid hb
  have GL := Lib.hid h.lt
  have HM := Lib.hid (fun m (e : mo = some m) => (by subst e; exact h.mlt : m < w.heap.size))
  clear h hs hN hF bW
  go_enter Tryz.func72, Tryz.ntmps72
  go_upto_region 4 with (go_at_call 57; refine G.out.mono ?_; clear G; rintro e w' ⟨rfl, rfl⟩)
  rw [← hW, ← hb]
  clear hW hb
  go_wp2_with (go_at_call 103; refine P.out.mono ?_; clear P; rintro e w1 ⟨rfl, mo', T⟩; have TT := Lib.hid T; clear T)
  go_ret
  have bl := NW.out.lt
  refine ⟨b, mo', rfl, by rw [HB.out]; exact Nat.le_refl _, fun e => ?_, ?_, Turn.pre BW.out TT.out GL.out⟩
  · rcases TT.out.mo with e' | ⟨m, e', hm⟩
    · rw [e'] at e; have := HM.out b e; have := HB.out; omega
    · rw [e'] at e; cases e; omega
  · refine NW.out.move (TT.out.chg.block b bl ?_) (fun m e => (nomatch e))
    rintro (e | e)
    · have := GL.out; have := HB.out; omega
    · have := HM.out b e; have := HB.out; omega
theorem under_old_V (w : World) (g N : Nat) (mo : Option Nat) (F : Fun) (h : Bk w g 2 mo N F) (s : ByteArray) (hs : s.size ≤ maxLen) (b : Nat) (hF : F s = some (.pointer (some ⟨b, 0, none⟩))) :
    Calls Tryz.prog 73 #[.pointer (some ⟨g, 2, none⟩), .string s] w fun e w' => e = .returned (.pointer (some ⟨b, 0, none⟩)) ∧ w' = w := by
  have G := Lib.hid (get_T w g N mo F h s hs)
  rw [hF] at G
  simp only [Option.getD_some] at G
  clear h hs hF
  go_enter Tryz.func73, Tryz.ntmps73
  go_wp2_with (go_at_call 54; refine G.out.mono ?_; rintro e w' ⟨rfl, rfl⟩)
  go_ret
  trivial
theorem under_new_V (w : World) (g N : Nat) (mo : Option Nat) (F : Fun) (h : Bk w g 2 mo N F) (s : ByteArray) (hs : s.size ≤ maxLen) (hN : N < maxLen) (hF : F s = none) :
    Calls Tryz.prog 73 #[.pointer (some ⟨g, 2, none⟩), .string s] w fun e w' => ∃ b mo', e = .returned (.pointer (some ⟨b, 0, none⟩)) ∧ w.heap.size ≤ b ∧ mo' ≠ some b ∧ Bk w' b 0 none 0 (fun _ => none) ∧ Turn w w' g 2 mo mo' (N + 1) (upd F s (some (.pointer (some ⟨b, 0, none⟩)))) := by
  have G := Lib.hid (get_T w g N mo F h s hs)
  rw [hF] at G
  simp only [Option.getD_none] at G
  obtain ⟨W, hW⟩ : ∃ W, W = w.alloc (.cells #[.map none, .int .i64 0] 138) := ⟨_, rfl⟩
  obtain ⟨b, hb⟩ : ∃ b, b = w.heap.size := ⟨_, rfl⟩
  have bW : Below w.heap.size w W := by rw [hW]; exact (Below.refl _ w).alloc (Nat.le_refl _) _
  have P := Lib.hid (put_T W g N mo F (h.below bW) s hs hN b)
  have NW := Lib.hid (show Bk W b 0 none 0 (fun _ => none) by rw [hW, hb]; exact bk_new _ _)
  have BW := Lib.hid bW
  have HB := Lib.hid hb
  have GL := Lib.hid h.lt
  have HM := Lib.hid (fun m (e : mo = some m) => (by subst e; exact h.mlt : m < w.heap.size))
  clear h hs hN hF bW
  go_enter Tryz.func73, Tryz.ntmps73
  go_upto_region 4 with (go_at_call 54; refine G.out.mono ?_; clear G; rintro e w' ⟨rfl, rfl⟩)
  rw [← hW, ← hb]
  clear hW hb
  go_wp2_with (go_at_call 104; refine P.out.mono ?_; clear P; rintro e w1 ⟨rfl, mo', T⟩; have TT := Lib.hid T; clear T)
  go_ret
  have bl := NW.out.lt
  refine ⟨b, mo', rfl, by rw [HB.out]; exact Nat.le_refl _, fun e => ?_, ?_, Turn.pre BW.out TT.out GL.out⟩
  · rcases TT.out.mo with e' | ⟨m, e', hm⟩
    · rw [e'] at e; have := HM.out b e; have := HB.out; omega
    · rw [e'] at e; cases e; omega
  · refine NW.out.move (TT.out.chg.block b bl ?_) (fun m e => (nomatch e))
    rintro (e | e)
    · have := GL.out; have := HB.out; omega
    · have := HM.out b e; have := HB.out; omega
theorem under_old_F (w : World) (g N : Nat) (mo : Option Nat) (F : Fun) (h : Bk w g 2 mo N F) (s : ByteArray) (hs : s.size ≤ maxLen) (b : Nat) (hF : F s = some (.pointer (some ⟨b, 0, none⟩))) :
    Calls Tryz.prog 59 #[.pointer (some ⟨g, 2, none⟩), .string s] w fun e w' => e = .returned (.pointer (some ⟨b, 0, none⟩)) ∧ w' = w := by
  have G := Lib.hid (get_K w g N mo F h s hs)
  rw [hF] at G
  simp only [Option.getD_some] at G
  clear h hs hF
  go_enter Tryz.func59, Tryz.ntmps59
  go_wp2_with (go_at_call 87; refine G.out.mono ?_; rintro e w' ⟨rfl, rfl⟩)
  go_ret
  trivial
theorem under_new_F (w : World) (g N : Nat) (mo : Option Nat) (F : Fun) (h : Bk w g 2 mo N F) (s : ByteArray) (hs : s.size ≤ maxLen) (hN : N < maxLen) (hF : F s = none) :
    Calls Tryz.prog 59 #[.pointer (some ⟨g, 2, none⟩), .string s] w fun e w' => ∃ b mo', e = .returned (.pointer (some ⟨b, 0, none⟩)) ∧ w.heap.size ≤ b ∧ mo' ≠ some b ∧ Bk w' b 0 none 0 (fun _ => none) ∧ Turn w w' g 2 mo mo' (N + 1) (upd F s (some (.pointer (some ⟨b, 0, none⟩)))) := by
  have G := Lib.hid (get_K w g N mo F h s hs)
  rw [hF] at G
  simp only [Option.getD_none] at G
  obtain ⟨W, hW⟩ : ∃ W, W = w.alloc (.cells #[.map none, .int .i64 0] 131) := ⟨_, rfl⟩
  obtain ⟨b, hb⟩ : ∃ b, b = w.heap.size := ⟨_, rfl⟩
  have bW : Below w.heap.size w W := by rw [hW]; exact (Below.refl _ w).alloc (Nat.le_refl _) _
  have P := Lib.hid (put_K W g N mo F (h.below bW) s hs hN b)
  have NW := Lib.hid (show Bk W b 0 none 0 (fun _ => none) by rw [hW, hb]; exact bk_new _ _)
  have BW := Lib.hid bW
  have HB := Lib.hid hb
  have GL := Lib.hid h.lt
  have HM := Lib.hid (fun m (e : mo = some m) => (by subst e; exact h.mlt : m < w.heap.size))
  clear h hs hN hF bW
  go_enter Tryz.func59, Tryz.ntmps59
  go_upto_region 4 with (go_at_call 87; refine G.out.mono ?_; clear G; rintro e w' ⟨rfl, rfl⟩)
  rw [← hW, ← hb]
  clear hW hb
  go_wp2_with (go_at_call 96; refine P.out.mono ?_; clear P; rintro e w1 ⟨rfl, mo', T⟩; have TT := Lib.hid T; clear T)
  go_ret
  have bl := NW.out.lt
  refine ⟨b, mo', rfl, by rw [HB.out]; exact Nat.le_refl _, fun e => ?_, ?_, Turn.pre BW.out TT.out GL.out⟩
  · rcases TT.out.mo with e' | ⟨m, e', hm⟩
    · rw [e'] at e; have := HM.out b e; have := HB.out; omega
    · rw [e'] at e; cases e; omega
  · refine NW.out.move (TT.out.chg.block b bl ?_) (fun m e => (nomatch e))
    rintro (e | e)
    · have := GL.out; have := HB.out; omega
    · have := HM.out b e; have := HB.out; omega
end Kf
end Go.Proofs.YtalanjhpacjmmaaGreat
