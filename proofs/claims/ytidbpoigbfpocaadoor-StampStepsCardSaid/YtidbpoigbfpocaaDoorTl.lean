/- laidWhole, laidEven. -/
import Derived.Test.YtidbpoigbfpocaaDoorTh
namespace Go.Proofs.YtidbpoigbfpocaaDoor
open Go.RowKit
namespace Th
open Bm Mt Wr Pk Rp Cv Rd Rx Sz Tm Ti

def wb0 (T : List Int) (k : Nat) : List Nat := head 0 T ++ flat (tab (fun k => ut (T.getD (k + 1) 0)) k)
theorem wb0_len (T : List Int) (k : Nat) : (wb0 T k).length = 11 + 8 * k := by unfold wb0; rw [List.length_append, head_len, flat_len, tab_len]
theorem wb0_succ (T : List Int) (k : Nat) : wb0 T (k + 1) = wb0 T k ++ eight (ut (T.getD (k + 1) 0)) := by unfold wb0; rw [tab_succ, flat_snoc, List.append_assoc]
theorem wb0_zero (T : List Int) : wb0 T 0 = head 0 T := by simp [wb0, tab, flat]
theorem wb0_all (T : List Int) : head 0 T ++ flat (others T) = wb0 T (T.length - 1) := rfl

set_option maxRecDepth 100000 in
theorem whole20 (w : World) (v : Value) (T : List Int) (hI : Ii w v T) (h1 : 1 ≤ T.length) (hl : T.length ≤ 1000) :
    Calls Tryd.prog 20 #[v] w fun e w' => ∃ r, e = .returned r ∧ w'.ownsRow w.heap.size 5 1 r (head 0 T ++ flat (others T)).length (u8s (head 0 T ++ flat (others T))) ∧ Below w.heap.size w w' := by
  have F26 := Lib.hid (head26 w v T 0 (by decide) hI h1 hl)
  have HP : Hid (∀ x g s k, k < T.length - 1 → Wb x g s (wb0 T k) → Calls Tryd.prog 32 #[.pointer (some ⟨g, 0, none⟩), .int .u64 (ut (T.getD (k + 1) 0) : Nat), .int .i64 64] x fun e w' => e = .returned (.tuple #[]) ∧ (∃ s', Wb w' g s' (wb0 T (k + 1))) ∧ Below g x w') :=
    Lib.hid fun x g s k hk h => by
      rw [wb0_succ]
      exact put32 x g s (wb0 T k) _ _ 64 h (ut_lt _) rfl (by decide) (eight_lt _) (eight_bits _) (by rw [wb0_len]; omega)
  have F27 : Hid (∀ x g s, Wb x g s (wb0 T (T.length - 1)) → Calls Tryd.prog 27 #[.pointer (some ⟨g, 0, none⟩)] x fun e w' => ∃ v, e = .returned v ∧ w'.ownsRow x.heap.size 5 1 v (wb0 T (T.length - 1)).length (u8s (wb0 T (T.length - 1))) ∧ Below x.heap.size x w') :=
    Lib.hid fun x g s h => bytes27 x g s _ h (by rw [wb0_len]; omega)
  rw [wb0_all]
  obtain ⟨b, off, c, rfl, hc, hb, hcell⟩ := ii_open hI h1
  obtain ⟨n, hn⟩ : ∃ n, n = T.length := ⟨_, rfl⟩
  rw [← hn] at h1 hl hc hcell HP F26 F27 ⊢
  rw [← wb0_zero, show ((0 : Nat) : Int) = 0 from rfl] at F26
  have HC := Lib.hid hcell
  clear hcell hn hI
  by_cases h2 : n = 1
  · subst h2
    by_cases hc1 : c = 1
    · subst hc1
      go_enter Tryd.func20, Tryd.ntmps20
      go_wp2_with fail
      refine F26.out.mono ?_
      rintro e w1 ⟨g, s, rfl, q1, hg, b1⟩
      have Q1 := Lib.hid q1
      have B1 := Lib.hid b1
      clear q1 b1
      go_wp2_with fail
      refine wp_loop_rounds 1 ?_
      rw [rounds_succ]
      go_wp2_with (go_at_call 27; refine (F27.out _ _ _ Q1.out).mono ?_; rintro e w2 ⟨r, rfl, o2, b2⟩; have O2 := Lib.hid o2; have B2 := Lib.hid b2; clear o2 b2)
      go_ret
      exact ⟨r, rfl, Go.Joins.ownsRow_le O2.out B1.out.size, B1.out.trans (B2.out.mono B1.out.size)⟩
    · go_enter Tryd.func20, Tryd.ntmps20
      go_wp2_with fail
      refine F26.out.mono ?_
      rintro e w1 ⟨g, s, rfl, q1, hg, b1⟩
      have Q1 := Lib.hid q1
      have B1 := Lib.hid b1
      clear q1 b1
      go_wp2_with fail
      refine wp_loop_rounds 1 ?_
      rw [rounds_succ]
      go_wp2_with (go_at_call 27; refine (F27.out _ _ _ Q1.out).mono ?_; rintro e w2 ⟨r, rfl, o2, b2⟩; have O2 := Lib.hid o2; have B2 := Lib.hid b2; clear o2 b2)
      go_ret
      exact ⟨r, rfl, Go.Joins.ownsRow_le O2.out B1.out.size, B1.out.trans (B2.out.mono B1.out.size)⟩
  · have hc1 : ¬ c = 1 := by omega
    go_enter Tryd.func20, Tryd.ntmps20
    go_wp2_with fail
    refine F26.out.mono ?_
    rintro e w1 ⟨g, s, rfl, q1, hg, b1⟩
    have Q1 := Lib.hid q1
    have B1 := Lib.hid b1
    clear q1 b1
    go_wp2_with fail
    go_loopw [5, 11] (fun _ i wr => ∃ k s, k ≤ n - 1 ∧ i = .int .i64 (k : Nat) ∧ Wb wr g s (wb0 T k) ∧ Below w.heap.size w wr) (fun _ i _ => n - (intOf i).toNat)
    case atStart => exact ⟨0, s, Nat.zero_le _, rfl, Q1.out, B1.out⟩
    case round =>
      obtain ⟨k, s3, hk, rfl, hw, hbl⟩ := hrel
      by_cases hkn : k < n - 1
      · have e1 := (hbl.cell hb).trans (HC.out (k + 1) (by omega))
        have F32 := Lib.hid (HP.out _ _ _ k hkn hw)
        have hu := @ut_of (T.getD (k + 1) 0)
        obtain ⟨A, hA⟩ : ∃ A, A = T.getD (k + 1) 0 := ⟨_, rfl⟩
        rw [← hA] at e1 hu F32
        rw [show off + (k + 1) = off + 1 + k from by omega] at e1
        obtain ⟨U, hU⟩ : ∃ U, U = ut A := ⟨_, rfl⟩
        rw [← hU] at hu F32
        have hw1 : IntKind.u64.wrap A = (U : Int) := by rw [IntKind.wrap_u64]; omega
        have B2 := Lib.hid hbl
        clear hA hU hu hw hbl
        go_wp2_with (go_at_call 32; refine F32.out.mono ?_; rintro e w4 ⟨rfl, ⟨s4, q4⟩, b4⟩; have Q4 := Lib.hid q4; have B4 := Lib.hid (B2.out.trans (b4.mono hg)); clear q4 b4)
        go_roundw
        case rel => exact ⟨k + 1, s4, by omega, by go_num, Q4.out, B4.out⟩
        case measure => simp [intOf]; omega
      · obtain rfl : k = n - 1 := by omega
        have Q3 := Lib.hid hw
        have B3 := Lib.hid hbl
        clear hw hbl
        go_wp2_with (go_at_call 27; refine (F27.out _ _ _ Q3.out).mono ?_; rintro e w2 ⟨r, rfl, o2, b2⟩; have O2 := Lib.hid o2; have B2 := Lib.hid b2; clear o2 b2)
        go_ret
        exact ⟨r, rfl, Go.Joins.ownsRow_le O2.out B3.out.size, B3.out.trans (B2.out.mono B3.out.size)⟩

set_option maxRecDepth 100000 in
theorem even23 (w : World) (v : Value) (T : List Int) (D : Nat) (hD : D < 18446744073709551616) (hI : Ii w v T) (h1 : 1 ≤ T.length) (hl : T.length ≤ 1000) :
    Calls Tryd.prog 23 #[v, .int .u64 (D : Nat)] w fun e w' => ∃ r, e = .returned r ∧ w'.ownsRow w.heap.size 5 1 r (head 1 T ++ eight D).length (u8s (head 1 T ++ eight D)) ∧ Below w.heap.size w w' := by
  have F26 := Lib.hid (head26 w v T 1 (by decide) hI h1 hl)
  have HP : Hid (∀ x g s, Wb x g s (head 1 T) → Calls Tryd.prog 32 #[.pointer (some ⟨g, 0, none⟩), .int .u64 (D : Nat), .int .i64 64] x fun e w' => e = .returned (.tuple #[]) ∧ (∃ s', Wb w' g s' (head 1 T ++ eight D)) ∧ Below g x w') :=
    Lib.hid fun x g s h => put32 x g s (head 1 T) _ _ 64 h hD rfl (by decide) (eight_lt _) (eight_bits _) (by rw [head_len]; omega)
  have F27 : Hid (∀ x g s, Wb x g s (head 1 T ++ eight D) → Calls Tryd.prog 27 #[.pointer (some ⟨g, 0, none⟩)] x fun e w' => ∃ v, e = .returned v ∧ w'.ownsRow x.heap.size 5 1 v (head 1 T ++ eight D).length (u8s (head 1 T ++ eight D)) ∧ Below x.heap.size x w') :=
    Lib.hid fun x g s h => bytes27 x g s _ h (by rw [List.length_append, head_len, eight_len]; omega)
  rw [show ((1 : Nat) : Int) = 1 from rfl] at F26
  clear hI h1 hl hD
  go_enter Tryd.func23, Tryd.ntmps23
  go_wp2_with fail
  refine F26.out.mono ?_
  rintro e w1 ⟨g, s, rfl, q1, hg, b1⟩
  have Q1 := Lib.hid q1
  have B1 := Lib.hid b1
  clear q1 b1
  go_wp2_with fail
  refine (HP.out _ _ _ Q1.out).mono ?_
  rintro e w2 ⟨rfl, ⟨s2, q2⟩, b2⟩
  have Q2 := Lib.hid q2
  have B2 := Lib.hid (B1.out.trans (b2.mono hg))
  clear q2 b2
  go_wp2_with fail
  refine (F27.out _ _ _ Q2.out).mono ?_
  rintro e w3 ⟨r, rfl, o3, b3⟩
  have O3 := Lib.hid o3
  have B3 := Lib.hid b3
  clear o3 b3
  go_wp2_with fail
  go_ret
  exact ⟨r, rfl, Go.Joins.ownsRow_le O3.out B2.out.size, B2.out.trans (B3.out.mono B2.out.size)⟩
end Th
end Go.Proofs.YtidbpoigbfpocaaDoor
