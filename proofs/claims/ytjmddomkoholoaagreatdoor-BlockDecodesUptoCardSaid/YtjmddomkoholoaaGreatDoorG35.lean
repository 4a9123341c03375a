import Derived.Test.YtjmddomkoholoaaGreatDoorG34
import Derived.Test.YtjmddomkoholoaaGreatDoorG33

/- head, laidSum. -/
namespace Go.Proofs.YtjmddomkoholoaaGreatDoor
open Go.RowKit
namespace Kh
open Wr Bm Cv Kd Th

theorem four_bits (n : Nat) : ∀ j k, j < (four n).length → k < 8 → ((four n).getD j 0).testBit (7 - k) = n.testBit (32 - 1 - (8 * j + k)) := by
  intro j k hj hk
  have h4 : j = 0 ∨ j = 1 ∨ j = 2 ∨ j = 3 := by simp [four] at hj; omega
  have e : ∀ m : Nat, (m % 256).testBit (7 - k) = m.testBit (7 - k) := fun m => by
    rw [show (256 : Nat) = 2 ^ 8 from rfl, Nat.testBit_mod_two_pow, decide_eq_true (show 7 - k < 8 by omega), Bool.true_and]
  rcases h4 with rfl | rfl | rfl | rfl
  · show (n / 16777216 % 256).testBit (7 - k) = _
    rw [e, show (16777216 : Nat) = 2 ^ 24 from rfl, ← Nat.shiftRight_eq_div_pow, Nat.testBit_shiftRight]
    congr 1; omega
  · show (n / 65536 % 256).testBit (7 - k) = _
    rw [e, show (65536 : Nat) = 2 ^ 16 from rfl, ← Nat.shiftRight_eq_div_pow, Nat.testBit_shiftRight]
    congr 1; omega
  · show (n / 256 % 256).testBit (7 - k) = _
    rw [e, show (256 : Nat) = 2 ^ 8 from rfl, ← Nat.shiftRight_eq_div_pow, Nat.testBit_shiftRight]
    congr 1; omega
  · show (n % 256).testBit (7 - k) = _
    rw [e]
    congr 1; omega

set_option maxRecDepth 100000 in
theorem head38 (w : World) (k s : Nat) (hk : k < 256) (hs : s < 4294967296) :
    Calls Tryz.prog 49 #[.int .i64 (k : Nat), .int .i64 (s : Nat)] w fun e w' => ∃ r, e = .returned r ∧ w'.ownsRow w.heap.size 5 1 r 5 (u8s (k :: four s)) ∧ Below w.heap.size w w' := by
  have F36 := Lib.hid (new36 w)
  have HP1 : Hid (∀ x g u, Wb x g u [] → Calls Tryz.prog 93 #[.pointer (some ⟨g, 0, none⟩), .int .u64 (k : Nat), .int .i64 8] x fun e w' => e = .returned (.tuple #[]) ∧ (∃ s', Wb w' g s' ([] ++ [k])) ∧ Below g x w') :=
    Lib.hid fun x g u h => put32 x g u [] [k] k 8 h (by omega) rfl (by decide) (by simpa using hk) (one_bits k) (by simp)
  have HP2 : Hid (∀ x g u, Wb x g u ([] ++ [k]) → Calls Tryz.prog 93 #[.pointer (some ⟨g, 0, none⟩), .int .u64 (s : Nat), .int .i64 32] x fun e w' => e = .returned (.tuple #[]) ∧ (∃ s', Wb w' g s' ([] ++ [k] ++ four s)) ∧ Below g x w') :=
    Lib.hid fun x g u h => put32 x g u ([] ++ [k]) (four s) s 32 h (by omega) rfl (by decide) (four_lt s) (four_bits s) (by simp)
  have HP3 : Hid (∀ x g u, Wb x g u ([] ++ [k] ++ four s) → Calls Tryz.prog 85 #[.pointer (some ⟨g, 0, none⟩)] x fun e w' => ∃ v, e = .returned v ∧ w'.ownsRow x.heap.size 5 1 v 5 (u8s (k :: four s)) ∧ Below x.heap.size x w') :=
    Lib.hid fun x g u h => bytes27 x g u _ h (by simp [four])
  go_enter Tryz.func49, Tryz.ntmps49
  go_wp2_with fail
  refine F36.out.mono ?_
  rintro e w1 ⟨rfl, ⟨s1, q1⟩, b1⟩
  have Q1 := Lib.hid q1
  have B1 := Lib.hid b1
  clear q1 b1
  go_wp2_with fail
  refine (HP1.out _ _ _ Q1.out).mono ?_
  rintro e w2 ⟨rfl, ⟨s2, q2⟩, b2⟩
  have Q2 := Lib.hid q2
  have B2 := Lib.hid (B1.out.trans b2)
  clear q2 b2
  go_wp2_with fail
  refine (HP2.out _ _ _ Q2.out).mono ?_
  rintro e w3 ⟨rfl, ⟨s3, q3⟩, b3⟩
  have Q3 := Lib.hid q3
  have B3 := Lib.hid (B2.out.trans b3)
  clear q3 b3
  go_wp2_with fail
  refine (HP3.out _ _ _ Q3.out).mono ?_
  rintro e w4 ⟨v4, rfl, o4, b4⟩
  have O4 := Lib.hid (Go.Joins.ownsRow_le o4 B3.out.size)
  have B4 := Lib.hid (B3.out.trans (b4.mono B3.out.size))
  clear o4 b4
  go_wp2_with fail
  go_ret
  exact ⟨_, rfl, O4.out, B4.out⟩

set_option maxRecDepth 100000 in
theorem laidSum39 (w : World) (v : Value) (bs : List Nat) (hP : Pl w v bs) (hX : ∀ x ∈ bs, x < 256) (hl : bs.length ≤ 140737488353272) :
    Calls Tryz.prog 50 #[v] w fun e w' => ∃ r, e = .returned r ∧ w'.ownsRow w.heap.size 5 1 r 4 (u8s (four (Kc.sum bs))) ∧ Below w.heap.size w w' := by
  have FS := Lib.hid (fun x (hb : Below w.heap.size w x) => Ks.sum19 x v bs (hP.below hb) hX hl)
  have hs := Kc.sum_lt bs
  obtain ⟨s, hse⟩ : ∃ s, s = Kc.sum bs := ⟨_, rfl⟩
  rw [← hse] at FS hs ⊢
  have F36 := Lib.hid (new36 w)
  have HP2 : Hid (∀ x g u, Wb x g u [] → Calls Tryz.prog 93 #[.pointer (some ⟨g, 0, none⟩), .int .u64 (s : Nat), .int .i64 32] x fun e w' => e = .returned (.tuple #[]) ∧ (∃ s', Wb w' g s' ([] ++ four s)) ∧ Below g x w') :=
    Lib.hid fun x g u h => put32 x g u [] (four s) s 32 h (by omega) rfl (by decide) (four_lt s) (four_bits s) (by simp)
  have HP3 : Hid (∀ x g u, Wb x g u ([] ++ four s) → Calls Tryz.prog 85 #[.pointer (some ⟨g, 0, none⟩)] x fun e w' => ∃ v, e = .returned v ∧ w'.ownsRow x.heap.size 5 1 v 4 (u8s (four s)) ∧ Below x.heap.size x w') :=
    Lib.hid fun x g u h => bytes27 x g u _ h (by simp [four])
  have hsw : (s : Int) % 18446744073709551616 = s := by omega
  clear hse hP hX
  go_enter Tryz.func50, Tryz.ntmps50
  go_wp2_with fail
  refine F36.out.mono ?_
  rintro e w1 ⟨rfl, ⟨s1, q1⟩, b1⟩
  have Q1 := Lib.hid q1
  have B1 := Lib.hid b1
  clear q1 b1
  go_wp2_with fail
  refine (FS.out _ B1.out).mono ?_
  rintro e w9 ⟨rfl, h9⟩
  have Q9 := Lib.hid (Q1.out.below h9)
  have B9 := Lib.hid (B1.out.trans (h9.mono B1.out.size))
  clear h9
  go_wp2_with fail
  refine (HP2.out _ _ _ Q9.out).mono ?_
  rintro e w3 ⟨rfl, ⟨s3, q3⟩, b3⟩
  have Q3 := Lib.hid q3
  have B3 := Lib.hid (B9.out.trans b3)
  clear q3 b3
  go_wp2_with fail
  refine (HP3.out _ _ _ Q3.out).mono ?_
  rintro e w4 ⟨v4, rfl, o4, b4⟩
  have O4 := Lib.hid (Go.Joins.ownsRow_le o4 B3.out.size)
  have B4 := Lib.hid (B3.out.trans (b4.mono B3.out.size))
  clear o4 b4
  go_wp2_with fail
  go_ret
  exact ⟨_, rfl, O4.out, B4.out⟩
end Kh
end Go.Proofs.YtjmddomkoholoaaGreatDoor
