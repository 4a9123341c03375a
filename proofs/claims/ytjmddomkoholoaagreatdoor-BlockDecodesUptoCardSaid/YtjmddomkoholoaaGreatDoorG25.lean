import Derived.Test.YtjmddomkoholoaaGreatDoorG24
import Derived.Test.YtjmddomkoholoaaGreatDoorG16

/- laidWhole, laidEven. -/
namespace Go.Proofs.YtjmddomkoholoaaGreatDoor
open Go.RowKit
namespace Th
open Bm Mt Wr Pk Rp Cv Rd Rx Sz Tm Ti

def wb0 (T : List Int) (k : Nat) : List Nat := head 0 T ++ flat (tab (fun k => ut (T.getD (k + 1) 0)) k)
theorem wb0_len (T : List Int) (k : Nat) : (wb0 T k).length = 11 + 8 * k := by unfold wb0; rw [List.length_append, head_len, flat_len, tab_len]
theorem wb0_succ (T : List Int) (k : Nat) : wb0 T (k + 1) = wb0 T k ++ eight (ut (T.getD (k + 1) 0)) := by unfold wb0; rw [tab_succ, flat_snoc, List.append_assoc]
theorem wb0_zero (T : List Int) : wb0 T 0 = head 0 T := by simp [wb0, tab, flat]
theorem wb0_all (T : List Int) : head 0 T ++ flat (others T) = wb0 T (T.length - 1) := rfl

set_option maxRecDepth 100000 in
theorem whole20 (w : World) (v : Value) (T : List Int) (hI : Ii w v T) (h1 : 1 ≤ T.length) (hl : T.length ≤ 1000) :
    Calls Tryz.prog 78 #[v] w fun e w' => ∃ r, e = .returned r ∧ w'.ownsRow w.heap.size 5 1 r (head 0 T ++ flat (others T)).length (u8s (head 0 T ++ flat (others T))) ∧ Below w.heap.size w w' := by
  have F26 := Lib.hid (head26 w v T 0 (by decide) hI h1 hl)
  have HP : Hid (∀ x g s k, k < T.length - 1 → Wb x g s (wb0 T k) → Calls Tryz.prog 93 #[.pointer (some ⟨g, 0, none⟩), .int .u64 (ut (T.getD (k + 1) 0) : Nat), .int .i64 64] x fun e w' => e = .returned (.tuple #[]) ∧ (∃ s', Wb w' g s' (wb0 T (k + 1))) ∧ Below g x w') :=
    Lib.hid fun x g s k hk h => by
      rw [wb0_succ]
      exact put32 x g s (wb0 T k) _ _ 64 h (ut_lt _) rfl (by decide) (eight_lt _) (eight_bits _) (by rw [wb0_len]; omega)
  have F27 : Hid (∀ x g s, Wb x g s (wb0 T (T.length - 1)) → Calls Tryz.prog 85 #[.pointer (some ⟨g, 0, none⟩)] x fun e w' => ∃ v, e = .returned v ∧ w'.ownsRow x.heap.size 5 1 v (wb0 T (T.length - 1)).length (u8s (wb0 T (T.length - 1))) ∧ Below x.heap.size x w') :=
    Lib.hid fun x g s h => bytes27 x g s _ h (by rw [wb0_len]; omega)
  rw [wb0_all]
  obtain ⟨b, off, c, rfl, hc, hb, hcell⟩ := ii_open hI h1
  obtain ⟨n, hn⟩ : ∃ n, n = T.length := ⟨_, rfl⟩
  rw [← hn] at h1 hl hc hcell HP F26 F27 ⊢
  rw [← wb0_zero, show ((0 : Nat) : Int) = 0 from rfl] at F26
  have HC := Lib.hid hcell
  clear hcell hn hI
  by_cases h2 : n = 1
  · subst h2
    by_cases hc1 : c = 1
    · subst hc1
      go_enter Tryz.func78, Tryz.ntmps78
      go_wp2_with fail
      refine F26.out.mono ?_
      rintro e w1 ⟨g, s, rfl, q1, hg, b1⟩
      have Q1 := Lib.hid q1
      have B1 := Lib.hid b1
      clear q1 b1
      go_wp2_with fail
      refine wp_loop_rounds 1 ?_
      rw [rounds_succ]
      go_wp2_with (go_at_call 85; refine (F27.out _ _ _ Q1.out).mono ?_; rintro e w2 ⟨r, rfl, o2, b2⟩; have O2 := Lib.hid o2; have B2 := Lib.hid b2; clear o2 b2)
      go_ret
      exact ⟨r, rfl, Go.Joins.ownsRow_le O2.out B1.out.size, B1.out.trans (B2.out.mono B1.out.size)⟩
    · go_enter Tryz.func78, Tryz.ntmps78
      go_wp2_with fail
      refine F26.out.mono ?_
      rintro e w1 ⟨g, s, rfl, q1, hg, b1⟩
      have Q1 := Lib.hid q1
      have B1 := Lib.hid b1
      clear q1 b1
      go_wp2_with fail
      refine wp_loop_rounds 1 ?_
      rw [rounds_succ]
      go_wp2_with (go_at_call 85; refine (F27.out _ _ _ Q1.out).mono ?_; rintro e w2 ⟨r, rfl, o2, b2⟩; have O2 := Lib.hid o2; have B2 := Lib.hid b2; clear o2 b2)
      go_ret
      exact ⟨r, rfl, Go.Joins.ownsRow_le O2.out B1.out.size, B1.out.trans (B2.out.mono B1.out.size)⟩
  · have hc1 : ¬ c = 1 := by omega
    go_enter Tryz.func78, Tryz.ntmps78
    go_wp2_with fail
    refine F26.out.mono ?_
    rintro e w1 ⟨g, s, rfl, q1, hg, b1⟩
    have Q1 := Lib.hid q1
    have B1 := Lib.hid b1
    clear q1 b1
    go_wp2_with fail
    go_loopw [5, 11] (fun _ i wr => ∃ k s, k ≤ n - 1 ∧ i = .int .i64 (k : Nat) ∧ Wb wr g s (wb0 T k) ∧ Below w.heap.size w wr) (fun _ i _ => n - (intOf i).toNat)
    case atStart => exact ⟨0, s, Nat.zero_le _, rfl, Q1.out, B1.out⟩
    case round =>
      obtain ⟨k, s3, hk, rfl, hw, hbl⟩ := hrel
      by_cases hkn : k < n - 1
      · have e1 := (hbl.cell hb).trans (HC.out (k + 1) (by omega))
        have F32 := Lib.hid (HP.out _ _ _ k hkn hw)
        have hu := @ut_of (T.getD (k + 1) 0)
        obtain ⟨A, hA⟩ : ∃ A, A = T.getD (k + 1) 0 := ⟨_, rfl⟩
        rw [← hA] at e1 hu F32
        rw [show off + (k + 1) = off + 1 + k from by omega] at e1
        obtain ⟨U, hU⟩ : ∃ U, U = ut A := ⟨_, rfl⟩
        rw [← hU] at hu F32
        have hw1 : IntKind.u64.wrap A = (U : Int) := by rw [IntKind.wrap_u64]; omega
        have B2 := Lib.hid hbl
        clear hA hU hu hw hbl
        go_wp2_with (go_at_call 93; refine F32.out.mono ?_; rintro e w4 ⟨rfl, ⟨s4, q4⟩, b4⟩; have Q4 := Lib.hid q4; have B4 := Lib.hid (B2.out.trans (b4.mono hg)); clear q4 b4)
        go_roundw
        case rel => exact ⟨k + 1, s4, by omega, by go_num, Q4.out, B4.out⟩
        case measure => simp [intOf]; omega
      · obtain rfl : k = n - 1 := by omega
        have Q3 := Lib.hid hw
        have B3 := Lib.hid hbl
        clear hw hbl
        go_wp2_with (go_at_call 85; refine (F27.out _ _ _ Q3.out).mono ?_; rintro e w2 ⟨r, rfl, o2, b2⟩; have O2 := Lib.hid o2; have B2 := Lib.hid b2; clear o2 b2)
        go_ret
        exact ⟨r, rfl, Go.Joins.ownsRow_le O2.out B3.out.size, B3.out.trans (B2.out.mono B3.out.size)⟩

set_option maxRecDepth 100000 in
theorem even23 (w : World) (v : Value) (T : List Int) (D : Nat) (hD : D < 18446744073709551616) (hI : Ii w v T) (h1 : 1 ≤ T.length) (hl : T.length ≤ 1000) :
    Calls Tryz.prog 81 #[v, .int .u64 (D : Nat)] w fun e w' => ∃ r, e = .returned r ∧ w'.ownsRow w.heap.size 5 1 r (head 1 T ++ eight D).length (u8s (head 1 T ++ eight D)) ∧ Below w.heap.size w w' := by
  have F26 := Lib.hid (head26 w v T 1 (by decide) hI h1 hl)
  have HP : Hid (∀ x g s, Wb x g s (head 1 T) → Calls Tryz.prog 93 #[.pointer (some ⟨g, 0, none⟩), .int .u64 (D : Nat), .int .i64 64] x fun e w' => e = .returned (.tuple #[]) ∧ (∃ s', Wb w' g s' (head 1 T ++ eight D)) ∧ Below g x w') :=
    Lib.hid fun x g s h => put32 x g s (head 1 T) _ _ 64 h hD rfl (by decide) (eight_lt _) (eight_bits _) (by rw [head_len]; omega)
  have F27 : Hid (∀ x g s, Wb x g s (head 1 T ++ eight D) → Calls Tryz.prog 85 #[.pointer (some ⟨g, 0, none⟩)] x fun e w' => ∃ v, e = .returned v ∧ w'.ownsRow x.heap.size 5 1 v (head 1 T ++ eight D).length (u8s (head 1 T ++ eight D)) ∧ Below x.heap.size x w') :=
    Lib.hid fun x g s h => bytes27 x g s _ h (by rw [List.length_append, head_len, eight_len]; omega)
  rw [show ((1 : Nat) : Int) = 1 from rfl] at F26
  clear hI h1 hl hD
  go_enter Tryz.func81, Tryz.ntmps81
  go_wp2_with fail
  refine F26.out.mono ?_
  rintro e w1 ⟨g, s, rfl, q1, hg, b1⟩
  have Q1 := Lib.hid q1
  have B1 := Lib.hid b1
  clear q1 b1
  go_wp2_with fail
  refine (HP.out _ _ _ Q1.out).mono ?_
  rintro e w2 ⟨rfl, ⟨s2, q2⟩, b2⟩
  have Q2 := Lib.hid q2
  have B2 := Lib.hid (B1.out.trans (b2.mono hg))
  clear q2 b2
  go_wp2_with fail
  refine (F27.out _ _ _ Q2.out).mono ?_
  rintro e w3 ⟨r, rfl, o3, b3⟩
  have O3 := Lib.hid o3
  have B3 := Lib.hid b3
  clear o3 b3
  go_wp2_with fail
  go_ret
  exact ⟨r, rfl, Go.Joins.ownsRow_le O3.out B2.out.size, B2.out.trans (B3.out.mono B2.out.size)⟩
end Th
end Go.Proofs.YtjmddomkoholoaaGreatDoor

/- The program's side: Encode. -/
namespace Go.Proofs.YtjmddomkoholoaaGreatDoor
open Go.RowKit
namespace TEn
open Bm Mt Wr Pk Rp Cv Rd Rx Sz Tm Ti Th La

/-- What Encode answers. -/
def Encoded (w : World) (T : List Int) (e : Ending) (w' : World) : Prop :=
  (Ok T ∧ ∃ r, e = .returned (.tuple #[r, .int .i64 0]) ∧ w'.ownsRow w.heap.size 5 1 r (bytesOf T).length (u8s (bytesOf T)) ∧ Below w.heap.size w w') ∨
  (¬ Ok T ∧ e = .returned (.tuple #[.slice none 0 0, .int .i64 1]) ∧ Below w.heap.size w w')
theorem Encoded.ok {w w' : World} {T : List Int} {e : Ending} (h : Encoded w T e w') (hO : Ok T) : ∃ r, e = .returned (.tuple #[r, .int .i64 0]) ∧ w'.ownsRow w.heap.size 5 1 r (bytesOf T).length (u8s (bytesOf T)) ∧ Below w.heap.size w w' := by
  rcases h with ⟨_, h⟩ | ⟨h, _⟩
  · exact h
  · exact absurd hO h
theorem Encoded.bad {w w' : World} {T : List Int} {e : Ending} (h : Encoded w T e w') (hO : ¬ Ok T) : e = .returned (.tuple #[.slice none 0 0, .int .i64 1]) ∧ Below w.heap.size w w' := by
  rcases h with ⟨h, _⟩ | ⟨_, h⟩
  · exact absurd h hO
  · exact h

theorem ok_len {T : List Int} (h : T.length = 0 ∨ 1000 < T.length) : ¬ Ok T := fun h' => by obtain ⟨h1, h2, _⟩ := h'; omega
theorem bytes_even {T : List Int} (h1 : 2 ≤ T.length) (h : OneFar T) : bytesOf T = head 1 T ++ eight (dist T 0) := if_pos ⟨h1, h⟩
theorem bytes_pack {T : List Int} (h1 : 2 ≤ T.length) (h : ¬ OneFar T) (hS : Small (chgs T)) : bytesOf T = head 2 T ++ packs (chgs T) := by
  unfold bytesOf
  rw [if_neg (fun h' => h h'.2), if_pos ⟨h1, hS⟩]
theorem bytes_whole {T : List Int} (h : T.length < 2 ∨ (¬ OneFar T ∧ ¬ Small (chgs T))) : bytesOf T = head 0 T ++ flat (others T) := by
  unfold bytesOf
  rw [if_neg (fun h' => by rcases h with h | h; omega; exact h.1 h'.2), if_neg (fun h' => by rcases h with h | h; omega; exact h.2 h'.2)]
theorem packs_pos {l : List Nat} (h : 0 < l.length) : 0 < (packs l).length := by
  rw [packs_len, words_cons h]
  simp

set_option maxRecDepth 100000 in
theorem enc_none (w : World) (v : Value) (T : List Int) (hv : ∃ a c, v = .slice a T.length c) (h : T.length = 0 ∨ 1000 < T.length) : Calls Tryz.prog 44 #[v] w fun e w' => Encoded w T e w' := by
  obtain ⟨a, c, rfl⟩ := hv
  have HO := Lib.hid (ok_len h)
  obtain ⟨n, hn⟩ : ∃ n, n = T.length := ⟨_, rfl⟩
  rw [← hn] at h ⊢
  clear hn
  rcases h with rfl | h
  · go_enter Tryz.func44, Tryz.ntmps44
    go_wp2_with fail
    go_ret2
    exact .inr ⟨HO.out, rfl, Below.refl _ _⟩
  · have hn0 : ((n : Int) == 0) = false := by simp; omega
    go_enter Tryz.func44, Tryz.ntmps44
    go_wp2_with fail
    go_ret2
    exact .inr ⟨HO.out, rfl, Below.refl _ _⟩

set_option maxRecDepth 100000 in
theorem enc_down (w : World) (v : Value) (T : List Int) (hI : Ii w v T) (h1 : 1 ≤ T.length) (hl : T.length ≤ 1000) (hU : ¬ Up T) : Calls Tryz.prog 44 #[v] w fun e w' => Encoded w T e w' := by
  have F19 := Lib.hid (rise19 w v T hI h1 hl)
  rw [decide_eq_false hU] at F19
  have HO : Hid (¬ Ok T) := Lib.hid fun h => hU h.2.2
  obtain ⟨b, off, c, rfl, -⟩ := ii_open hI h1
  obtain ⟨n, hn⟩ : ∃ n, n = T.length := ⟨_, rfl⟩
  rw [← hn] at h1 hl F19 ⊢
  have hn0 : ((n : Int) == 0) = false := by simp; omega
  clear hn hI hU
  go_enter Tryz.func44, Tryz.ntmps44
  go_wp2_with (go_at_call 77; refine F19.out.mono ?_; rintro e w1 ⟨rfl, rfl⟩)
  go_ret2
  exact .inr ⟨HO.out, rfl, Below.refl _ _⟩

set_option maxRecDepth 100000 in
theorem enc_one (w : World) (v : Value) (T : List Int) (hI : Ii w v T) (h1 : T.length = 1) (hU : Up T) : Calls Tryz.prog 44 #[v] w fun e w' => Encoded w T e w' := by
  have F19 := Lib.hid (rise19 w v T hI (by omega) (by omega))
  rw [decide_eq_true hU] at F19
  have F20 := Lib.hid (whole20 w v T hI (by omega) (by omega))
  rw [← bytes_whole (.inl (by omega))] at F20
  have HO : Hid (Ok T) := Lib.hid ⟨by omega, by omega, hU⟩
  obtain ⟨b, off, c, rfl, -⟩ := ii_open hI (by omega)
  rw [h1] at F19 F20 ⊢
  clear hI hU h1
  go_enter Tryz.func44, Tryz.ntmps44
  go_wp2_with (first
    | (go_at_call 77; refine F19.out.mono ?_; rintro e w1 ⟨rfl, rfl⟩)
    | (go_at_call 78; refine F20.out.mono ?_; rintro e w2 ⟨r, rfl, o2, b2⟩; have O2 := Lib.hid o2; have B2 := Lib.hid b2; clear o2 b2))
  go_ret2
  exact .inl ⟨HO.out, r, rfl, O2.out, B2.out⟩

set_option maxRecDepth 100000 in
set_option maxHeartbeats 1000000 in
theorem enc_even (w : World) (v : Value) (T : List Int) (hI : Ii w v T) (h1 : 2 ≤ T.length) (hl : T.length ≤ 1000) (hU : Up T) (hA : OneFar T) : Calls Tryz.prog 44 #[v] w fun e w' => Encoded w T e w' := by
  have F19 := Lib.hid (rise19 w v T hI (by omega) hl)
  rw [decide_eq_true hU] at F19
  have F21 := Lib.hid (dists21 w v T hI h1 hl)
  have F22 : Hid (∀ x B u, World.ownsRow x B 33 1 u (dists T).length (u64s (dists T)) → Calls Tryz.prog 80 #[u] x fun e w' => e = .returned (.bool true) ∧ w' = x) := Lib.hid fun x B u ho => by
    have := alike22 x u T (dists_iu ho) h1 hl
    rwa [decide_eq_true hA] at this
  have F23 : Hid (∀ x, Below w.heap.size w x → Calls Tryz.prog 81 #[v, .int .u64 (dist T 0 : Nat)] x fun e w' => ∃ r, e = .returned r ∧ w'.ownsRow x.heap.size 5 1 r (bytesOf T).length (u8s (bytesOf T)) ∧ Below x.heap.size x w') := Lib.hid fun x b => by
    rw [bytes_even h1 hA]
    exact even23 x v T _ (dist_lt T 0) (hI.below b) (by omega) hl
  have FD : Hid (∀ x B u, World.ownsRow x B 33 1 u (dists T).length (u64s (dists T)) → ∃ b off c, u = .slice (some ⟨b, off, none⟩) (T.length - 1) c ∧ x.cell? ⟨b, off, none⟩ = some (.int .u64 (dist T 0 : Nat))) := Lib.hid fun x B u ho => by
    obtain ⟨b, off, c, rfl, _, _, h⟩ := dists_open (dists_iu ho) h1
    exact ⟨b, off, c, rfl, h 0 (by omega)⟩
  have HO : Hid (Ok T) := Lib.hid ⟨by omega, hl, hU⟩
  obtain ⟨b, off, c, rfl, -⟩ := ii_open hI (by omega)
  obtain ⟨n, hn⟩ : ∃ n, n = T.length := ⟨_, rfl⟩
  obtain ⟨D, hD⟩ : ∃ D, D = dist T 0 := ⟨_, rfl⟩
  rw [← hn] at h1 hl F19 F21 F23 FD ⊢
  rw [← hD] at F23 FD
  have hn0 : ((n : Int) == 0) = false := by simp; omega
  have hn1 : ((n : Int) == 1) = false := by simp; omega
  clear hn hI hU hA hD
  go_enter Tryz.func44, Tryz.ntmps44
  go_wp2_with (go_at_call 77; refine F19.out.mono ?_; rintro e w1 ⟨rfl, rfl⟩)
  refine F21.out.mono ?_
  rintro e w2 ⟨r2, rfl, o2, b2⟩
  have O2 := Lib.hid o2
  have B2 := Lib.hid b2
  obtain ⟨gb, go, gc, rfl, e0⟩ := FD.out _ _ _ o2
  clear o2 b2
  go_wp2_with fail
  refine (F22.out _ _ _ O2.out).mono ?_
  rintro e w3 ⟨rfl, h3⟩
  rw [h3]
  clear h3 w3
  go_wp2_with fail
  refine (F23.out _ B2.out).mono ?_
  rintro e w4 ⟨r4, rfl, o4, b4⟩
  have O4 := Lib.hid o4
  have B4 := Lib.hid b4
  clear o4 b4
  go_wp2_with fail
  go_ret2
  exact .inl ⟨HO.out, r4, rfl, Go.Joins.ownsRow_le O4.out B2.out.size, B2.out.trans (B4.out.mono B2.out.size)⟩
end TEn
end Go.Proofs.YtjmddomkoholoaaGreatDoor

/- The program's side: Encode, where the changes are packed or can't be. -/
namespace Go.Proofs.YtjmddomkoholoaaGreatDoor
open Go.RowKit
namespace TEn
open Bm Mt Wr Pk Rp Cv Rd Rx Sz Tm Ti Th La

theorem chgs_iu {w : World} {B : Nat} {v : Value} {T : List Int} (h : w.ownsRow B 33 1 v (chgs T).length (u64s (chgs T))) : Iu w v (chgs T) :=
  iu_own h fun x hx => by obtain ⟨j, _, rfl⟩ := tab_mem hx; exact chg_lt T j

set_option maxRecDepth 100000 in
set_option maxHeartbeats 1000000 in
theorem enc_whole (w : World) (v : Value) (T : List Int) (hI : Ii w v T) (hTb : Tab w) (h1 : 2 ≤ T.length) (hl : T.length ≤ 1000) (hU : Up T) (hA : ¬ OneFar T) (hS : ¬ Small (chgs T)) : Calls Tryz.prog 44 #[v] w fun e w' => Encoded w T e w' := by
  have F19 := Lib.hid (rise19 w v T hI (by omega) hl)
  rw [decide_eq_true hU] at F19
  have F21 := Lib.hid (dists21 w v T hI h1 hl)
  have F22 : Hid (∀ x B u, World.ownsRow x B 33 1 u (dists T).length (u64s (dists T)) → Calls Tryz.prog 80 #[u] x fun e w' => e = .returned (.bool false) ∧ w' = x) := Lib.hid fun x B u ho => by
    have := alike22 x u T (dists_iu ho) h1 hl
    rwa [decide_eq_false hA] at this
  have F25 : Hid (∀ x B u, World.ownsRow x B 33 1 u (dists T).length (u64s (dists T)) → Calls Tryz.prog 83 #[u] x fun e w' => ∃ r, e = .returned r ∧ w'.ownsRow x.heap.size 33 1 r (chgs T).length (u64s (chgs T)) ∧ Below x.heap.size x w') :=
    Lib.hid fun x B u ho => chgs25 x u T (dists_iu ho) h1 hl
  have F24 : Hid (∀ x B u, Below w.heap.size w x → World.ownsRow x B 33 1 u (chgs T).length (u64s (chgs T)) → Calls Tryz.prog 82 #[u] x fun e w' => e = .returned (.tuple #[.slice none 0 0, .int .i64 3]) ∧ Below x.heap.size x w') :=
    Lib.hid fun x B u b ho => (pack9 x u (chgs T) (chgs_iu ho) (hTb.below b hTb.1) (by rw [chgs_len]; omega)).mono fun e w' h => Packed.bad h hS
  have F20 : Hid (∀ x, Below w.heap.size w x → Calls Tryz.prog 78 #[v] x fun e w' => ∃ r, e = .returned r ∧ w'.ownsRow x.heap.size 5 1 r (bytesOf T).length (u8s (bytesOf T)) ∧ Below x.heap.size x w') := Lib.hid fun x b => by
    rw [bytes_whole (.inr ⟨hA, hS⟩)]
    exact whole20 x v T (hI.below b) (by omega) hl
  have HO : Hid (Ok T) := Lib.hid ⟨by omega, hl, hU⟩
  obtain ⟨b, off, c, rfl, -⟩ := ii_open hI (by omega)
  obtain ⟨n, hn⟩ : ∃ n, n = T.length := ⟨_, rfl⟩
  rw [← hn] at h1 hl F19 F21 F20 ⊢
  have hn0 : ((n : Int) == 0) = false := by simp; omega
  have hn1 : ((n : Int) == 1) = false := by simp; omega
  clear hn hI hU hA hS hTb
  go_enter Tryz.func44, Tryz.ntmps44
  go_wp2_with (go_at_call 77; refine F19.out.mono ?_; rintro e w1 ⟨rfl, rfl⟩)
  refine F21.out.mono ?_
  rintro e w2 ⟨r2, rfl, o2, b2⟩
  have O2 := Lib.hid o2
  have B2 := Lib.hid b2
  clear o2 b2
  go_wp2_with fail
  refine (F22.out _ _ _ O2.out).mono ?_
  rintro e w3 ⟨rfl, h3⟩
  rw [h3]
  clear h3 w3
  go_wp2_with fail
  refine (F25.out _ _ _ O2.out).mono ?_
  rintro e w4 ⟨r4, rfl, o4, b4⟩
  have O4 := Lib.hid o4
  have B4 := Lib.hid (B2.out.trans (b4.mono B2.out.size))
  clear o4 b4
  go_wp2_with fail
  refine (F24.out _ _ _ B4.out O4.out).mono ?_
  rintro e w5 ⟨rfl, b5⟩
  have B5 := Lib.hid (B4.out.trans (b5.mono B4.out.size))
  clear b5
  go_wp2_with fail
  refine (F20.out _ B5.out).mono ?_
  rintro e w6 ⟨r6, rfl, o6, b6⟩
  have O6 := Lib.hid o6
  have B6 := Lib.hid b6
  clear o6 b6
  go_wp2_with fail
  go_ret2
  exact .inl ⟨HO.out, r6, rfl, Go.Joins.ownsRow_le O6.out B5.out.size, B5.out.trans (B6.out.mono B5.out.size)⟩

set_option maxRecDepth 100000 in
set_option maxHeartbeats 1000000 in
theorem enc_pack (w : World) (v : Value) (T : List Int) (hI : Ii w v T) (hTb : Tab w) (h1 : 2 ≤ T.length) (hl : T.length ≤ 1000) (hU : Up T) (hA : ¬ OneFar T) (hS : Small (chgs T)) : Calls Tryz.prog 44 #[v] w fun e w' => Encoded w T e w' := by
  obtain ⟨i0, hi, hz0, hz1, hz2⟩ := info_parts info5
  have F19 := Lib.hid (rise19 w v T hI (by omega) hl)
  rw [decide_eq_true hU] at F19
  have F21 := Lib.hid (dists21 w v T hI h1 hl)
  have F22 : Hid (∀ x B u, World.ownsRow x B 33 1 u (dists T).length (u64s (dists T)) → Calls Tryz.prog 80 #[u] x fun e w' => e = .returned (.bool false) ∧ w' = x) := Lib.hid fun x B u ho => by
    have := alike22 x u T (dists_iu ho) h1 hl
    rwa [decide_eq_false hA] at this
  have F25 : Hid (∀ x B u, World.ownsRow x B 33 1 u (dists T).length (u64s (dists T)) → Calls Tryz.prog 83 #[u] x fun e w' => ∃ r, e = .returned r ∧ w'.ownsRow x.heap.size 33 1 r (chgs T).length (u64s (chgs T)) ∧ Below x.heap.size x w') :=
    Lib.hid fun x B u ho => chgs25 x u T (dists_iu ho) h1 hl
  obtain ⟨ps, hps⟩ : ∃ ps, ps = packs (chgs T) := ⟨_, rfl⟩
  have hp1 : 0 < ps.length := by rw [hps]; exact packs_pos (by rw [chgs_len]; omega)
  have hp2 : ps.length ≤ 7992 := by rw [hps, packs_len]; have := words_len (chgs T); rw [chgs_len] at this; omega
  have F24 : Hid (∀ x B u, Below w.heap.size w x → World.ownsRow x B 33 1 u (chgs T).length (u64s (chgs T)) → Calls Tryz.prog 82 #[u] x fun e w' => ∃ g c, e = .returned (.tuple #[.slice (some ⟨g, 0, none⟩) ps.length c, .int .i64 0]) ∧ w'.ownsRow x.heap.size 5 1 (.slice (some ⟨g, 0, none⟩) ps.length c) ps.length (u8s ps) ∧ Below x.heap.size x w') :=
    Lib.hid fun x B u b ho => (pack9 x u (chgs T) (chgs_iu ho) (hTb.below b hTb.1) (by rw [chgs_len]; omega)).mono fun e w' h => by
      obtain ⟨r, rfl, ho, bl⟩ := Packed.ok h hS
      rw [← hps] at ho
      obtain ⟨g, c, rfl⟩ := Go.Joins.ownsRow_form ho hp1
      exact ⟨g, c, rfl, ho, bl⟩
  have F26 : Hid (∀ x, Below w.heap.size w x → Calls Tryz.prog 84 #[.int .u64 2, v] x fun e w' => ∃ g s, e = .returned (.pointer (some ⟨g, 0, none⟩)) ∧ Wb w' g s (head 2 T) ∧ x.heap.size ≤ g ∧ Below x.heap.size x w') :=
    Lib.hid fun x b => head26 x v T 2 (by decide) (hI.below b) (by omega) hl
  have F27 : Hid (∀ x g s, Wb x g s (head 2 T) → Calls Tryz.prog 85 #[.pointer (some ⟨g, 0, none⟩)] x fun e w' => ∃ v, e = .returned v ∧ w'.ownsRow x.heap.size 5 1 v 11 (u8s (head 2 T)) ∧ Below x.heap.size x w') :=
    Lib.hid fun x g s h => by have := bytes27 x g s _ h (by rw [head_len]; omega); rwa [head_len] at this
  have HB : Hid (bytesOf T = head 2 T ++ ps) := Lib.hid (by rw [hps]; exact bytes_pack h1 hA hS)
  have HO : Hid (Ok T) := Lib.hid ⟨by omega, hl, hU⟩
  have HU8 : Hid (u8s (head 2 T ++ ps) = u8s (head 2 T) ++ u8s ps ∧ (head 2 T ++ ps).length = 11 + ps.length ∧ (u8s ps).length = ps.length) := Lib.hid ⟨by simp [u8s], by rw [List.length_append, head_len], u8s_len _⟩
  have HONE : Hid (∀ u ∈ u8s ps, u.oneCell' = true) := Lib.hid fun u hu => by simp [u8s] at hu; obtain ⟨x, _, rfl⟩ := hu; rfl
  obtain ⟨b, off, c, rfl, -⟩ := ii_open hI (by omega)
  obtain ⟨n, hn⟩ : ∃ n, n = T.length := ⟨_, rfl⟩
  rw [← hn] at h1 hl F19 F21 F26 ⊢
  obtain ⟨Q, hQ⟩ : ∃ Q, Q = ps.length := ⟨_, rfl⟩
  rw [← hQ] at hp1 hp2 F24 HU8
  have hn0 : ((n : Int) == 0) = false := by simp; omega
  have hn1 : ((n : Int) == 1) = false := by simp; omega
  clear hn hI hU hA hS hTb hps hQ
  go_enter Tryz.func44, Tryz.ntmps44
  go_wp2_with (go_at_call 77; refine F19.out.mono ?_; rintro e w1 ⟨rfl, rfl⟩)
  refine F21.out.mono ?_
  rintro e w2 ⟨r2, rfl, o2, b2⟩
  have O2 := Lib.hid o2
  have B2 := Lib.hid b2
  clear o2 b2
  go_wp2_with fail
  refine (F22.out _ _ _ O2.out).mono ?_
  rintro e w3 ⟨rfl, h3⟩
  rw [h3]
  clear h3 w3
  go_wp2_with fail
  refine (F25.out _ _ _ O2.out).mono ?_
  rintro e w4 ⟨r4, rfl, o4, b4⟩
  have O4 := Lib.hid o4
  have B4 := Lib.hid (B2.out.trans (b4.mono B2.out.size))
  clear o4 b4
  go_wp2_with fail
  refine (F24.out _ _ _ B4.out O4.out).mono ?_
  rintro e w5 ⟨g5, c5, rfl, o5, b5⟩
  have O5 := Lib.hid o5
  have B5 := Lib.hid (B4.out.trans (b5.mono B4.out.size))
  clear o5 b5
  go_wp2_with fail
  refine (F26.out _ B5.out).mono ?_
  rintro e w6 ⟨g6, s6, rfl, q6, hg6, b6⟩
  have Q6 := Lib.hid q6
  have O56 := Lib.hid (own_below O5.out b6)
  have B6 := Lib.hid (B5.out.trans (b6.mono B5.out.size))
  clear q6 b6
  go_wp2_with fail
  refine (F27.out _ _ _ Q6.out).mono ?_
  rintro e w7 ⟨r7, rfl, o7, b7⟩
  have O57 := Lib.hid (own_below O56.out b7)
  have B7 := Lib.hid (B6.out.trans (b7.mono B6.out.size))
  have hs7 : w6.heap.size ≤ w7.heap.size := b7.size
  have hown := o7
  clear o7 b7
  go_wp2_with (at_builtin; refine wpList_append_own _ rfl (.tmp 46) (.tmp 47) 22 rfl w6.heap.size 5 i0 (.int .u8 0) 1 1 Tryz.underlying22 hi hz0 hz1 hz2 rfl (by decide) _ 11 _ rfl hown ⟨g5, 0, none⟩ Q c5 (u8s ps) rfl (by rw [HU8.out.2.2]; omega) ?c1 ?c2 ?c3 ?c4 ?c5 ?_)
  case c1 => intro j u hj; exact O57.out.cells rfl j u hj
  case c2 => exact HONE.out
  case c3 => unfold maxLen; omega
  case c4 => omega
  case c5 => omega
  intro v' w8 hown' hgrow _
  have b8 := Lib.hid (Below.grown (Below.refl w6.heap.size w7) hgrow hs7 (fun r hr => (hown.lt r hr).1))
  clear hgrow
  have hO8 := Lib.hid hown'
  clear hown'
  go_wp2_with fail
  go_ret2
  refine .inl ⟨HO.out, _, rfl, ?_, B7.out.trans (b8.out.mono B6.out.size)⟩
  rw [HB.out, HU8.out.2.1, HU8.out.1]
  exact Go.Joins.ownsRow_le hO8.out B6.out.size

theorem encode10 (w : World) (v : Value) (T : List Int) (hI : Ii w v T) (hTb : Tab w) : Calls Tryz.prog 44 #[v] w fun e w' => Encoded w T e w' := by
  have hv : ∃ a c, v = .slice a T.length c := by
    obtain ⟨_, ⟨a, c, rfl, rfl⟩ | ⟨b, off, c, rfl, _⟩⟩ := hI
    · exact ⟨a, c, rfl⟩
    · exact ⟨_, _, rfl⟩
  by_cases h0 : T.length = 0 ∨ 1000 < T.length
  · exact enc_none w v T hv h0
  · by_cases hU : Up T
    · by_cases h1 : T.length = 1
      · exact enc_one w v T hI h1 hU
      · by_cases hA : OneFar T
        · exact enc_even w v T hI (by omega) (by omega) hU hA
        · by_cases hS : Small (chgs T)
          · exact enc_pack w v T hI hTb (by omega) (by omega) hU hA hS
          · exact enc_whole w v T hI hTb (by omega) (by omega) hU hA hS
    · exact enc_down w v T hI (by omega) (by omega) hU
end TEn
end Go.Proofs.YtjmddomkoholoaaGreatDoor
