/- The law LzPacks. -/
import Derived.Test.YtbmdjmckgcjfcaaLw
namespace Go.Proofs.Ytbmdjmckgcjfcaa
open Go.RowKit
namespace Lw
open Lm Bs Fa Fb Pa Pb

set_option maxRecDepth 100000 in
theorem packs_cut (w : World) (R : Nat → Prop) (q off n c : Nat) (b : List Nat) (hS : Src w R (.slice (some ⟨q, off, none⟩) 20000 c) b) (hX : ∀ x ∈ b, x < 256) (hl : b.length ≤ 20000) (hn1 : 20000 < n) (hn2 : n ≤ c) (hn3 : n ≤ 140737488353272) :
    Calls Try.prog 3 #[.slice (some ⟨q, off, none⟩) n c] w fun e w' => e = .returned (.bool true) ∧ Below w.heap.size w w' := by
  have hS1 := src_lt hS
  have F6 := Lib.hid (awake6 w)
  have F7 : Hid (∀ x, Below w.heap.size w x → Calls Try.prog 7 #[.slice (some ⟨q, off, none⟩) 20000 c] x fun e w' => ∃ r, e = .returned r ∧ w'.ownsRow x.heap.size 5 1 r (packs b).length (u8s (packs b)) ∧ Below x.heap.size x w') := Lib.hid fun x hx => pack7 x _ _ b (hS1.below hx fun k hk => hk) hX (by omega)
  have F8 : Hid (∀ x, Below w.heap.size w x → Calls Try.prog 8 #[.slice (some ⟨q, off, none⟩) 20000 c] x fun e w' => ∃ r, e = .returned r ∧ w'.ownsRow x.heap.size 5 1 r (packs b).length (u8s (packs b)) ∧ Below x.heap.size x w') := Lib.hid fun x hx => refpack8 x _ _ b (hS1.below hx fun k hk => hk) hX (by omega)
  obtain ⟨S, hSt⟩ : ∃ S, S = str (packs b) := ⟨_, rfl⟩
  have FS : Hid (∀ x B r, World.ownsRow x B 5 1 r (packs b).length (u8s (packs b)) → (convert 22 9 r).run Try.prog x = .ok (.string S) x) := Lib.hid fun x B r h => by rw [hSt]; exact conv_own h
  clear hS hS1 hX hSt hl
  go_enter Try.func3, Try.ntmps3
  go_wp2_with (go_at_call 6; refine F6.out.mono ?_; rintro e w1 ⟨rfl, b1⟩; have B1 := Lib.hid b1; clear b1)
  go_region_law (first
    | (go_simp; go_at_call 7; refine (F7.out _ B1.out.drew).mono ?_; rintro e w2 ⟨r2, rfl, o2, b2⟩; have q2 := FS.out _ _ _ o2; have O2 := Lib.hid o2; have B2 := Lib.hid (B1.out.drew.trans (b2.mono B1.out.drew.size)); clear b2 o2)
    | (go_simp; go_at_call 8; refine (F8.out _ B2.out).mono ?_; rintro e w3 ⟨r3, rfl, o3, b3⟩; have q3 := FS.out _ _ _ o3; have q23 := FS.out _ _ _ (own_below O2.out b3); have B3 := Lib.hid (B2.out.trans (b3.mono B2.out.size)); clear b3 o3))
  all_goals
    go_wp2_with fail
    go_ret
    exact ⟨rfl, B3.out⟩

theorem packs3 (w : World) (R : Nat → Prop) (v : Value) (b : List Nat) (hS : Src w R v b) (hX : ∀ x ∈ b, x < 256) (hl : b.length ≤ 140737488353272) :
    Calls Try.prog 3 #[v] w fun e w' => e = .returned (.bool true) ∧ Below w.heap.size w w' := by
  by_cases h : b.length ≤ 20000
  · exact packs_any w R v b hS hX h
  · rcases hS with ⟨rfl, _⟩ | ⟨h0, q, off, c, rfl, hnc, hq, hcell⟩
    · exact absurd (Nat.zero_le _) h
    · refine packs_cut w R q off b.length c (b.take 20000) (.inr ⟨by rw [List.length_take]; omega, q, off, c, by rw [List.length_take, Nat.min_eq_left (by omega)], by rw [List.length_take]; omega, hq, fun i hi => ?_⟩) (fun x hx => hX x (List.mem_of_mem_take hx)) (by rw [List.length_take]; omega) (by omega) hnc hl
      rw [List.length_take] at hi
      rw [hcell i (by omega), g_take (by omega)]
end Lw
end Go.Proofs.Ytbmdjmckgcjfcaa
