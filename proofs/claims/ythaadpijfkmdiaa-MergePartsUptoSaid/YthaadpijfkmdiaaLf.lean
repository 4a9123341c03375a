/- awake; the law MergePlans. -/
import Derived.Test.YthaadpijfkmdiaaLb
import Derived.Test.YthaadpijfkmdiaaLd
import Derived.Test.YthaadpijfkmdiaaLe
namespace Go.Proofs.Ythaadpijfkmdiaa
open Go.RowKit
namespace Lf
open Jb La Lb Lc Ld Le

set_option maxRecDepth 100000
set_option maxHeartbeats 4000000
theorem awake6 (w : World) : Calls Try.prog 6 #[] w fun e w' => e = .returned (.bool true) ∧ Below w.heap.size w w' := by
  have ha := heap_alloc_new w (.cells #[.int .i64 2, .bool false, .int .i64 1, .bool false] 37)
  have hT : Fi (w.alloc (.cells #[.int .i64 2, .bool false, .int .i64 1, .bool false] 37)) (.slice (some ⟨w.heap.size, 0, none⟩) 2 2) [(2, false), (1, false)] := by
    refine ⟨fun x hx => by
      simp only [List.mem_cons, List.not_mem_nil, or_false] at hx
      rcases hx with rfl | rfl <;> (unfold Wi; decide), .inr ⟨_, 0, 2, rfl, Nat.le_refl _, by simp, fun i hi => ?_⟩⟩
    simp only [List.length_cons, List.length_nil] at hi
    have hi2 : i = 0 ∨ i = 1 := by omega
    rcases hi2 with rfl | rfl
    · exact ⟨cell_at ha 0, cell_at ha 1⟩
    · exact ⟨cell_at ha 2, cell_at ha 3⟩
  have F := plan9 _ _ _ hT (by simp)
  have P0 : Pl [(2, false), (1, false)] 0 2 4 := .inr (.inl ⟨fun k hk => by have := hk.1; simp at this, by simp, rfl, rfl, rfl⟩)
  have FF := Lib.hid F
  have PP := Lib.hid P0
  have BA := Lib.hid ((Below.refl w.heap.size w).alloc (Nat.le_refl _) (.cells #[.int .i64 2, .bool false, .int .i64 1, .bool false] 37))
  clear F ha hT P0
  go_enter Try.func6, Try.ntmps6
  go_wp2_with fail
  refine FF.out.mono ?_
  rintro e w2 ⟨a, n, l, rfl, h1, _, b2⟩
  have B2 := Lib.hid (BA.out.trans (b2.mono (by simp)))
  obtain ⟨rfl, rfl, rfl⟩ := h1.one PP.out
  clear b2 h1
  go_wp2_with fail
  go_ret
  exact ⟨rfl, B2.out⟩
theorem plans4 (w : World) (v : Value) (L : List Inf) (h : Fi w v L) (hn : L.length * 16 ≤ 140737488355328) :
    Calls Try.prog 4 #[v] w fun e w' => e = .returned (.bool true) ∧ Below w.heap.size w w' := by
  have A6 := Lib.hid (awake6 w)
  have HL := Lib.hid h.1
  have T10 := Lib.hid (fun (y : World) (hy : Below w.heap.size w y) => theirs10 y v L (h.below hy) hn)
  have P9 := Lib.hid (fun (y : World) (r : Value) (hr : Fi y r L) => plan9 y r L hr hn)
  have P11 := Lib.hid (fun (y : World) (hy : Below w.heap.size w y) => plan11 y v L (h.below hy) hn)
  clear h
  go_enter Try.func4, Try.ntmps4
  go_wp2_with fail
  refine A6.out.mono ?_
  rintro e w1 ⟨rfl, b1⟩
  have B1 := Lib.hid b1
  have A1 := Lib.hid (T10.out w1 b1)
  clear b1 A6
  go_wp2_with fail
  refine A1.out.mono ?_
  rintro e w2 ⟨r, rfl, ho, b2⟩
  have A2 := Lib.hid (P9.out w2 r (fi_own ho HL.out))
  have B2 := Lib.hid (B1.out.trans (b2.mono B1.out.size))
  clear ho b2 A1
  go_wp2_with fail
  refine A2.out.mono ?_
  rintro e w3 ⟨a, n, l, rfl, p1, _, b3⟩
  have B3 := Lib.hid (B2.out.trans (b3.mono B2.out.size))
  have PA := Lib.hid p1
  have A3 := Lib.hid (P11.out w3 B3.out)
  clear p1 b3 A2
  go_wp2_with fail
  refine A3.out.mono ?_
  rintro e w4 ⟨a', n', l', rfl, p2, b4⟩
  have B4 := Lib.hid (B3.out.trans (b4.mono B3.out.size))
  obtain ⟨rfl, rfl, rfl⟩ := PA.out.one p2
  clear p2 b4 A3
  go_wp2_with fail
  go_ret
  exact ⟨rfl, B4.out⟩
end Lf
end Go.Proofs.Ythaadpijfkmdiaa
