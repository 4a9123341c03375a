/- The laws' own small example; the law LzPacks. -/
import Derived.Test.YtbmdjmckgcjfcaaPb
import Derived.Lib.SlBytesConst
namespace Go.Proofs.Ytbmdjmckgcjfcaa
open Go.RowKit
namespace Lw
open Lm Bs Fa Fb Pa Pb

theorem packs_awake : packs [97, 97, 97, 97, 97, 97, 97, 97] = [1, 97, 131, 0, 1] := by decide +kernel
theorem str_awake : str [1, 97, 131, 0, 1] = ⟨#[1, 97, 131, 0, 1]⟩ := by rfl

set_option maxRecDepth 100000 in
theorem awake6 (w : World) : Calls Try.prog 6 #[] w fun e w' => e = .returned (.bool true) ∧ Below w.heap.size w w' := by
  have hs : Src (w.alloc (.cells #[.int .u8 97, .int .u8 97, .int .u8 97, .int .u8 97, .int .u8 97, .int .u8 97, .int .u8 97, .int .u8 97] 5 (8, 9))) (fun _ => True) (.slice (some ⟨w.heap.size, 0, none⟩) 8 8) [97, 97, 97, 97, 97, 97, 97, 97] := by
    refine .inr ⟨by decide, w.heap.size, 0, 8, rfl, by decide, trivial, fun i hi => ?_⟩
    rw [Nat.zero_add, World.cell?_alloc_mark]
    match i, hi with
    | 0, _ => rfl
    | 1, _ => rfl
    | 2, _ => rfl
    | 3, _ => rfl
    | 4, _ => rfl
    | 5, _ => rfl
    | 6, _ => rfl
    | 7, _ => rfl
  have FB : Hid (Below w.heap.size w (w.alloc (.cells #[.int .u8 97, .int .u8 97, .int .u8 97, .int .u8 97, .int .u8 97, .int .u8 97, .int .u8 97, .int .u8 97] 5 (8, 9)))) := Lib.hid ((Below.refl _ _).alloc (Nat.le_refl _) _)
  have F7 : Hid (Calls Try.prog 7 #[.slice (some ⟨w.heap.size, 0, none⟩) 8 8] (w.alloc (.cells #[.int .u8 97, .int .u8 97, .int .u8 97, .int .u8 97, .int .u8 97, .int .u8 97, .int .u8 97, .int .u8 97] 5 (8, 9))) fun e w' => ∃ r, e = .returned r ∧ (convert 22 9 r).run Try.prog w' = .ok (.string ⟨#[1, 97, 131, 0, 1]⟩) w' ∧ Below w.heap.size w w') := Lib.hid (by
    refine (pack7 _ _ _ _ hs (by intro x hx; simp at hx; omega) (by decide)).mono ?_
    rintro e w' ⟨r, rfl, h1, h2⟩
    rw [packs_awake] at h1
    refine ⟨r, rfl, ?_, FB.out.trans (h2.mono FB.out.size)⟩
    rw [← str_awake]
    exact conv_own h1)
  have hcv := Lib.run_convert_bytes_const (P := Try.prog) w 22 5 #[.int .u8 97, .int .u8 97, .int .u8 97, .int .u8 97, .int .u8 97, .int .u8 97, .int .u8 97, .int .u8 97] 8 8 Try.underlying22 Try.underlying5
  clear hs
  go_enter Try.func6, Try.ntmps6
  go_wp2_with (go_at_call 7; refine F7.out.mono ?_; rintro e w2 ⟨r, rfl, q, bl⟩)
  go_ret
  exact ⟨rfl, bl⟩

set_option maxRecDepth 100000 in
theorem packs_any (w : World) (R : Nat → Prop) (v : Value) (b : List Nat) (hS : Src w R v b) (hX : ∀ x ∈ b, x < 256) (hl : b.length ≤ 20000) :
    Calls Try.prog 3 #[v] w fun e w' => e = .returned (.bool true) ∧ Below w.heap.size w w' := by
  have hS1 := src_lt hS
  have F6 := Lib.hid (awake6 w)
  have F7 : Hid (∀ x, Below w.heap.size w x → Calls Try.prog 7 #[v] x fun e w' => ∃ r, e = .returned r ∧ w'.ownsRow x.heap.size 5 1 r (packs b).length (u8s (packs b)) ∧ Below x.heap.size x w') := Lib.hid fun x hx => pack7 x _ v b (hS1.below hx fun k hk => hk) hX (by omega)
  have F8 : Hid (∀ x, Below w.heap.size w x → Calls Try.prog 8 #[v] x fun e w' => ∃ r, e = .returned r ∧ w'.ownsRow x.heap.size 5 1 r (packs b).length (u8s (packs b)) ∧ Below x.heap.size x w') := Lib.hid fun x hx => refpack8 x _ v b (hS1.below hx fun k hk => hk) hX (by omega)
  obtain ⟨S, hSt⟩ : ∃ S, S = str (packs b) := ⟨_, rfl⟩
  have FS : Hid (∀ x B r, World.ownsRow x B 5 1 r (packs b).length (u8s (packs b)) → (convert 22 9 r).run Try.prog x = .ok (.string S) x) := Lib.hid fun x B r h => by rw [hSt]; exact conv_own h
  obtain ⟨ad, c, rfl⟩ := hS.forms
  obtain ⟨n, hn⟩ : ∃ n, n = b.length := ⟨_, rfl⟩
  rw [← hn] at hl F7 F8 ⊢
  clear hS hS1 hX hSt hn
  go_enter Try.func3, Try.ntmps3
  go_wp2_with (go_at_call 6; refine F6.out.mono ?_; rintro e w1 ⟨rfl, b1⟩; have B1 := Lib.hid b1; clear b1)
  go_region_law (first
    | (go_simp; go_at_call 7; refine (F7.out _ B1.out.drew).mono ?_; rintro e w2 ⟨r2, rfl, o2, b2⟩; have q2 := FS.out _ _ _ o2; have O2 := Lib.hid o2; have B2 := Lib.hid (B1.out.drew.trans (b2.mono B1.out.drew.size)); clear b2 o2)
    | (go_simp; go_at_call 8; refine (F8.out _ B2.out).mono ?_; rintro e w3 ⟨r3, rfl, o3, b3⟩; have q3 := FS.out _ _ _ o3; have q23 := FS.out _ _ _ (own_below O2.out b3); have B3 := Lib.hid (B2.out.trans (b3.mono B2.out.size)); clear b3 o3))
  all_goals
    go_wp2_with fail
    go_ret
    exact ⟨rfl, B3.out⟩
end Lw
end Go.Proofs.Ytbmdjmckgcjfcaa
