/- The law PackPacks. -/
import Derived.Test.YtjeimfgapkgmiaaDoorSa
import Derived.Test.YtjeimfgapkgmiaaDoorRp
namespace Go.Proofs.YtjeimfgapkgmiaaDoor
open Go.RowKit
namespace La
open Mt Wr Bm Pk Rp Cv

theorem Packed.ok {w w' : World} {l : List Nat} {e : Ending} (h : Packed w l e w') (hS : Small l) : ∃ r, e = .returned (.tuple #[r, .int .i64 0]) ∧ w'.ownsRow w.heap.size 5 1 r (packs l).length (u8s (packs l)) ∧ Below w.heap.size w w' := by
  rcases h with ⟨_, h⟩ | ⟨h, _⟩
  · exact h
  · exact absurd hS h
theorem Packed.bad {w w' : World} {l : List Nat} {e : Ending} (h : Packed w l e w') (hS : ¬ Small l) : e = .returned (.tuple #[.slice none 0 0, .int .i64 3]) ∧ Below w.heap.size w w' := by
  rcases h with ⟨h, _⟩ | ⟨_, h⟩
  · exact absurd h hS
  · exact h

set_option maxRecDepth 100000 in
theorem packs3 (w : World) (v : Value) (l : List Nat) (hI : Iu w v l) (hT : Tab w) (hl : l.length ≤ 17592186044159) :
    Calls Tryd.prog 3 #[v] w fun e w' => e = .returned (.bool true) ∧ Below w.heap.size w w' := by
  have F7 := Lib.hid (awake7 w hT)
  have FI : Hid (∀ x, Below w.heap.size w x → Iu x v l ∧ Tab x) := Lib.hid fun x b => ⟨hI.below b, hT.below b hT.1⟩
  by_cases hS : Small l
  · have F8 : Hid (∀ x, Below w.heap.size w x → Calls Tryd.prog 8 #[v] x fun e w' => ∃ r, e = .returned (.tuple #[r, .int .i64 0]) ∧ w'.ownsRow x.heap.size 5 1 r (packs l).length (u8s (packs l)) ∧ Below x.heap.size x w') :=
      Lib.hid fun x b => (refpack8 x v l (FI.out x b).1 hl).mono fun e w' h => Packed.ok h hS
    have F9 : Hid (∀ x, Below w.heap.size w x → Calls Tryd.prog 9 #[v] x fun e w' => ∃ r, e = .returned (.tuple #[r, .int .i64 0]) ∧ w'.ownsRow x.heap.size 5 1 r (packs l).length (u8s (packs l)) ∧ Below x.heap.size x w') :=
      Lib.hid fun x b => (pack9 x v l (FI.out x b).1 (FI.out x b).2 hl).mono fun e w' h => Packed.ok h hS
    obtain ⟨S, hSt⟩ : ∃ S, S = str (packs l) := ⟨_, rfl⟩
    have FS : Hid (∀ x B r, World.ownsRow x B 5 1 r (packs l).length (u8s (packs l)) → (convert 24 9 r).run Tryd.prog x = .ok (.string S) x) := Lib.hid fun x B r h => by rw [hSt]; exact conv_own h
    clear hI hT hSt
    go_enter Tryd.func3, Tryd.ntmps3
    go_wp2_with (first
      | (go_at_call 7; refine F7.out.mono ?_; rintro e w1 ⟨rfl, b1⟩; have B1 := Lib.hid b1; clear b1)
      | (go_at_call 8; refine (F8.out _ B1.out).mono ?_; rintro e w2 ⟨r2, rfl, o2, b2⟩; have O2 := Lib.hid o2; have B2 := Lib.hid (B1.out.trans (b2.mono B1.out.size)); clear b2 o2)
      | (go_at_call 9; refine (F9.out _ B2.out).mono ?_; rintro e w3 ⟨r3, rfl, o3, b3⟩; have B3 := Lib.hid (B2.out.trans (b3.mono B2.out.size)); have q3 := FS.out _ _ _ o3; have q2 := FS.out _ _ _ (own_below O2.out b3); clear b3 o3))
    go_ret
    exact ⟨rfl, B3.out⟩
  · have F8 : Hid (∀ x, Below w.heap.size w x → Calls Tryd.prog 8 #[v] x fun e w' => e = .returned (.tuple #[.slice none 0 0, .int .i64 3]) ∧ Below x.heap.size x w') :=
      Lib.hid fun x b => (refpack8 x v l (FI.out x b).1 hl).mono fun e w' h => Packed.bad h hS
    have F9 : Hid (∀ x, Below w.heap.size w x → Calls Tryd.prog 9 #[v] x fun e w' => e = .returned (.tuple #[.slice none 0 0, .int .i64 3]) ∧ Below x.heap.size x w') :=
      Lib.hid fun x b => (pack9 x v l (FI.out x b).1 (FI.out x b).2 hl).mono fun e w' h => Packed.bad h hS
    have q : ∀ x, (convert 24 9 (.slice none 0 0)).run Tryd.prog x = .ok (.string (str [])) x := fun x => run_convert_bytes_nil x 24 5 Tryd.underlying24 Tryd.underlying5 0 0 9 Tryd.underlying9
    obtain ⟨S, hSt⟩ : ∃ S, S = str [] := ⟨_, rfl⟩
    rw [← hSt] at q
    clear hI hT hSt
    go_enter Tryd.func3, Tryd.ntmps3
    go_wp2_with (first
      | (go_at_call 7; refine F7.out.mono ?_; rintro e w1 ⟨rfl, b1⟩; have B1 := Lib.hid b1; clear b1)
      | (go_at_call 8; refine (F8.out _ B1.out).mono ?_; rintro e w2 ⟨rfl, b2⟩; have B2 := Lib.hid (B1.out.trans (b2.mono B1.out.size)); clear b2)
      | (go_at_call 9; refine (F9.out _ B2.out).mono ?_; rintro e w3 ⟨rfl, b3⟩; have B3 := Lib.hid (B2.out.trans (b3.mono B2.out.size)); clear b3))
    go_ret
    exact ⟨rfl, B3.out⟩
end La
end Go.Proofs.YtjeimfgapkgmiaaDoor
