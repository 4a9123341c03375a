/- The laws StampEncodes and StampDecodes. -/
import Derived.Test.YtidbpoigbfpocaaDoorUa
import Derived.Test.YtidbpoigbfpocaaDoorUb
namespace Go.Proofs.YtidbpoigbfpocaaDoor
open Go.RowKit
namespace Lw
open Bm Mt Wr Pk Rp Cv Rd Rx Sz Tm Ti En De Rr

set_option maxRecDepth 100000 in
theorem encodes3 (w : World) (v : Value) (T : List Int) (hI : Ii w v T) (hT : Tab w) :
    Calls Tryd.prog 3 #[v] w fun e w' => e = .returned (.bool true) ∧ Below w.heap.size w w' := by
  have F8 := Lib.hid (awake8 w hT)
  have FI : Hid (∀ x, Below w.heap.size w x → Ii x v T ∧ Tab x) := Lib.hid fun x b => ⟨hI.below b, hT.below b hT.1⟩
  by_cases hO : Ok T
  · have F9 : Hid (∀ x, Below w.heap.size w x → Calls Tryd.prog 9 #[v] x fun e w' => ∃ r, e = .returned (.tuple #[r, .int .i64 0]) ∧ w'.ownsRow x.heap.size 5 1 r (bytesOf T).length (u8s (bytesOf T)) ∧ Below x.heap.size x w') :=
      Lib.hid fun x b => (refencode9 x v T (FI.out x b).1).mono fun e w' h => Encoded.ok h hO
    have F10 : Hid (∀ x, Below w.heap.size w x → Calls Tryd.prog 10 #[v] x fun e w' => ∃ r, e = .returned (.tuple #[r, .int .i64 0]) ∧ w'.ownsRow x.heap.size 5 1 r (bytesOf T).length (u8s (bytesOf T)) ∧ Below x.heap.size x w') :=
      Lib.hid fun x b => (encode10 x v T (FI.out x b).1 (FI.out x b).2).mono fun e w' h => Encoded.ok h hO
    obtain ⟨S, hSt⟩ : ∃ S, S = str (bytesOf T) := ⟨_, rfl⟩
    have FS : Hid (∀ x B r, World.ownsRow x B 5 1 r (bytesOf T).length (u8s (bytesOf T)) → (convert 24 9 r).run Tryd.prog x = .ok (.string S) x) := Lib.hid fun x B r h => by rw [hSt]; exact conv_own h
    clear hI hT hSt hO
    go_enter Tryd.func3, Tryd.ntmps3
    go_wp2_with (first
      | (go_at_call 8; refine F8.out.mono ?_; rintro e w1 ⟨rfl, b1⟩; have B1 := Lib.hid b1; clear b1)
      | (go_at_call 9; refine (F9.out _ B1.out).mono ?_; rintro e w2 ⟨r2, rfl, o2, b2⟩; have O2 := Lib.hid o2; have B2 := Lib.hid (B1.out.trans (b2.mono B1.out.size)); clear b2 o2)
      | (go_at_call 10; refine (F10.out _ B2.out).mono ?_; rintro e w3 ⟨r3, rfl, o3, b3⟩; have B3 := Lib.hid (B2.out.trans (b3.mono B2.out.size)); have q3 := FS.out _ _ _ o3; have q2 := FS.out _ _ _ (own_below O2.out b3); clear b3 o3))
    go_ret
    exact ⟨rfl, B3.out⟩
  · have F9 : Hid (∀ x, Below w.heap.size w x → Calls Tryd.prog 9 #[v] x fun e w' => e = .returned (.tuple #[.slice none 0 0, .int .i64 1]) ∧ Below x.heap.size x w') :=
      Lib.hid fun x b => (refencode9 x v T (FI.out x b).1).mono fun e w' h => Encoded.bad h hO
    have F10 : Hid (∀ x, Below w.heap.size w x → Calls Tryd.prog 10 #[v] x fun e w' => e = .returned (.tuple #[.slice none 0 0, .int .i64 1]) ∧ Below x.heap.size x w') :=
      Lib.hid fun x b => (encode10 x v T (FI.out x b).1 (FI.out x b).2).mono fun e w' h => Encoded.bad h hO
    have q : ∀ x, (convert 24 9 (.slice none 0 0)).run Tryd.prog x = .ok (.string (str [])) x := fun x => run_convert_bytes_nil x 24 5 Tryd.underlying24 Tryd.underlying5 0 0 9 Tryd.underlying9
    obtain ⟨S, hSt⟩ : ∃ S, S = str [] := ⟨_, rfl⟩
    rw [← hSt] at q
    clear hI hT hSt hO
    go_enter Tryd.func3, Tryd.ntmps3
    go_wp2_with (first
      | (go_at_call 8; refine F8.out.mono ?_; rintro e w1 ⟨rfl, b1⟩; have B1 := Lib.hid b1; clear b1)
      | (go_at_call 9; refine (F9.out _ B1.out).mono ?_; rintro e w2 ⟨rfl, b2⟩; have B2 := Lib.hid (B1.out.trans (b2.mono B1.out.size)); clear b2)
      | (go_at_call 10; refine (F10.out _ B2.out).mono ?_; rintro e w3 ⟨rfl, b3⟩; have B3 := Lib.hid (B2.out.trans (b3.mono B2.out.size)); clear b3))
    go_ret
    exact ⟨rfl, B3.out⟩

theorem same_nil (x : World) : Calls Tryd.prog 13 #[.slice none 0 0, .slice none 0 0] x fun e w' => e = .returned (.bool true) ∧ ∃ m, w' = x.drewN m :=
  same13 x _ _ [] ⟨nil_in, .inl ⟨_, _, rfl, rfl⟩⟩ ⟨nil_in, .inl ⟨_, _, rfl, rfl⟩⟩ (by simp)
theorem same_own {x : World} {B B' : Nat} {u v : Value} {T : List Int} (hu : x.ownsRow B 2 1 u T.length (i64s T)) (hv : x.ownsRow B' 2 1 v T.length (i64s T)) (hi : In T) (hl : T.length ≤ 1000) :
    Calls Tryd.prog 13 #[u, v] x fun e w' => e = .returned (.bool true) ∧ ∃ m, w' = x.drewN m := same13 x u v T (ii_own hu hi) (ii_own hv hi) hl

set_option maxRecDepth 100000 in
theorem decodes4 (w : World) (v : Value) (bs : List Nat) (hP : Pl w v bs) (hX : ∀ x ∈ bs, x < 256) (hT : Tab w) (hb : bs.length ≤ 140737488353272) :
    Calls Tryd.prog 4 #[v] w fun e w' => e = .returned (.bool true) ∧ Below w.heap.size w w' := by
  have F8 := Lib.hid (awake8 w hT)
  have G11 : Hid (∀ x, Below w.heap.size w x → Calls Tryd.prog 11 #[v] x fun e w' => Decoded x bs e w') := Lib.hid fun x b => rdecode11 x v bs (hP.below b) hX hb
  have G12 : Hid (∀ x, Below w.heap.size w x → Calls Tryd.prog 12 #[v] x fun e w' => Decoded x bs e w') := Lib.hid fun x b => decode12 x v bs (hP.below b) hX (hT.below b hT.1) hb
  cases hu : dec bs with
  | some T =>
    obtain ⟨hin, hok, _⟩ := dec_some hu
    have F11 : Hid (∀ x, Below w.heap.size w x → Calls Tryd.prog 11 #[v] x fun e w' => ∃ r, e = .returned (.tuple #[r, .int .i64 0]) ∧ w'.ownsRow x.heap.size 2 1 r T.length (i64s T) ∧ Below x.heap.size x w') := Lib.hid fun x b => (G11.out x b).mono fun e w' h => Decoded.ok h hu
    have F12 : Hid (∀ x, Below w.heap.size w x → Calls Tryd.prog 12 #[v] x fun e w' => ∃ r, e = .returned (.tuple #[r, .int .i64 0]) ∧ w'.ownsRow x.heap.size 2 1 r T.length (i64s T) ∧ Below x.heap.size x w') := Lib.hid fun x b => (G12.out x b).mono fun e w' h => Decoded.ok h hu
    have F13 : Hid (∀ x B B' u v, World.ownsRow x B 2 1 u T.length (i64s T) → World.ownsRow x B' 2 1 v T.length (i64s T) → Calls Tryd.prog 13 #[u, v] x fun e w' => e = .returned (.bool true) ∧ ∃ m, w' = x.drewN m) := Lib.hid fun x B B' u v h1 h2 => same_own h1 h2 hin hok.2.1
    clear hP hX hT hb hu hin hok G11 G12
    go_enter Tryd.func4, Tryd.ntmps4
    go_wp2_with (first
      | (go_at_call 8; refine F8.out.mono ?_; rintro e w1 ⟨rfl, b1⟩; have B1 := Lib.hid b1; clear b1)
      | (go_at_call 11; refine (F11.out _ B1.out).mono ?_; rintro e w2 ⟨r2, rfl, o2, b2⟩; have O2 := Lib.hid o2; have B2 := Lib.hid (B1.out.trans (b2.mono B1.out.size)); clear b2 o2)
      | (go_at_call 12; refine (F12.out _ B2.out).mono ?_; rintro e w3 ⟨r3, rfl, o3, b3⟩; have O3 := Lib.hid o3; have B3 := Lib.hid (B2.out.trans (b3.mono B2.out.size)); have O23 := Lib.hid (own_below O2.out b3); clear b3 o3)
      | (go_at_call 13; refine (F13.out _ _ _ _ _ O3.out O23.out).mono ?_; rintro e w4 ⟨rfl, hm⟩))
    go_ret
    obtain ⟨m, rfl⟩ := hm
    exact ⟨rfl, Below.drewN' B3.out m⟩
  | none =>
    have F11 : Hid (∀ x, Below w.heap.size w x → Calls Tryd.prog 11 #[v] x fun e w' => e = .returned (.tuple #[.slice none 0 0, .int .i64 2]) ∧ Below x.heap.size x w') := Lib.hid fun x b => (G11.out x b).mono fun e w' h => Decoded.bad h hu
    have F12 : Hid (∀ x, Below w.heap.size w x → Calls Tryd.prog 12 #[v] x fun e w' => e = .returned (.tuple #[.slice none 0 0, .int .i64 2]) ∧ Below x.heap.size x w') := Lib.hid fun x b => (G12.out x b).mono fun e w' h => Decoded.bad h hu
    have F13 := Lib.hid same_nil
    clear hP hX hT hb hu G11 G12
    go_enter Tryd.func4, Tryd.ntmps4
    go_wp2_with (first
      | (go_at_call 8; refine F8.out.mono ?_; rintro e w1 ⟨rfl, b1⟩; have B1 := Lib.hid b1; clear b1)
      | (go_at_call 11; refine (F11.out _ B1.out).mono ?_; rintro e w2 ⟨rfl, b2⟩; have B2 := Lib.hid (B1.out.trans (b2.mono B1.out.size)); clear b2)
      | (go_at_call 12; refine (F12.out _ B2.out).mono ?_; rintro e w3 ⟨rfl, b3⟩; have B3 := Lib.hid (B2.out.trans (b3.mono B2.out.size)); clear b3)
      | (go_at_call 13; refine (F13.out _).mono ?_; rintro e w4 ⟨rfl, hm⟩))
    go_ret
    obtain ⟨m, rfl⟩ := hm
    exact ⟨rfl, Below.drewN' B3.out m⟩
end Lw
end Go.Proofs.YtidbpoigbfpocaaDoor
