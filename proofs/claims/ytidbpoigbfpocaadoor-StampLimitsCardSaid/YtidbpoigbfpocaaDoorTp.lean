/- The program's side: Encode, where the changes are packed or can't be. -/
import Derived.Test.YtidbpoigbfpocaaDoorTn
namespace Go.Proofs.YtidbpoigbfpocaaDoor
open Go.RowKit
namespace En
open Bm Mt Wr Pk Rp Cv Rd Rx Sz Tm Ti Th La

theorem chgs_iu {w : World} {B : Nat} {v : Value} {T : List Int} (h : w.ownsRow B 35 1 v (chgs T).length (u64s (chgs T))) : Iu w v (chgs T) :=
  iu_own h fun x hx => by obtain ⟨j, _, rfl⟩ := tab_mem hx; exact chg_lt T j

set_option maxRecDepth 100000 in
set_option maxHeartbeats 1000000 in
theorem enc_whole (w : World) (v : Value) (T : List Int) (hI : Ii w v T) (hTb : Tab w) (h1 : 2 ≤ T.length) (hl : T.length ≤ 1000) (hU : Up T) (hA : ¬ OneFar T) (hS : ¬ Small (chgs T)) : Calls Tryd.prog 10 #[v] w fun e w' => Encoded w T e w' := by
  have F19 := Lib.hid (rise19 w v T hI (by omega) hl)
  rw [decide_eq_true hU] at F19
  have F21 := Lib.hid (dists21 w v T hI h1 hl)
  have F22 : Hid (∀ x B u, World.ownsRow x B 35 1 u (dists T).length (u64s (dists T)) → Calls Tryd.prog 22 #[u] x fun e w' => e = .returned (.bool false) ∧ w' = x) := Lib.hid fun x B u ho => by
    have := alike22 x u T (dists_iu ho) h1 hl
    rwa [decide_eq_false hA] at this
  have F25 : Hid (∀ x B u, World.ownsRow x B 35 1 u (dists T).length (u64s (dists T)) → Calls Tryd.prog 25 #[u] x fun e w' => ∃ r, e = .returned r ∧ w'.ownsRow x.heap.size 35 1 r (chgs T).length (u64s (chgs T)) ∧ Below x.heap.size x w') :=
    Lib.hid fun x B u ho => chgs25 x u T (dists_iu ho) h1 hl
  have F24 : Hid (∀ x B u, Below w.heap.size w x → World.ownsRow x B 35 1 u (chgs T).length (u64s (chgs T)) → Calls Tryd.prog 24 #[u] x fun e w' => e = .returned (.tuple #[.slice none 0 0, .int .i64 3]) ∧ Below x.heap.size x w') :=
    Lib.hid fun x B u b ho => (pack9 x u (chgs T) (chgs_iu ho) (hTb.below b hTb.1) (by rw [chgs_len]; omega)).mono fun e w' h => Packed.bad h hS
  have F20 : Hid (∀ x, Below w.heap.size w x → Calls Tryd.prog 20 #[v] x fun e w' => ∃ r, e = .returned r ∧ w'.ownsRow x.heap.size 5 1 r (bytesOf T).length (u8s (bytesOf T)) ∧ Below x.heap.size x w') := Lib.hid fun x b => by
    rw [bytes_whole (.inr ⟨hA, hS⟩)]
    exact whole20 x v T (hI.below b) (by omega) hl
  have HO : Hid (Ok T) := Lib.hid ⟨by omega, hl, hU⟩
  obtain ⟨b, off, c, rfl, -⟩ := ii_open hI (by omega)
  obtain ⟨n, hn⟩ : ∃ n, n = T.length := ⟨_, rfl⟩
  rw [← hn] at h1 hl F19 F21 F20 ⊢
  have hn0 : ((n : Int) == 0) = false := by simp; omega
  have hn1 : ((n : Int) == 1) = false := by simp; omega
  clear hn hI hU hA hS hTb
  go_enter Tryd.func10, Tryd.ntmps10
  go_wp2_with (go_at_call 19; refine F19.out.mono ?_; rintro e w1 ⟨rfl, rfl⟩)
  refine F21.out.mono ?_
  rintro e w2 ⟨r2, rfl, o2, b2⟩
  have O2 := Lib.hid o2
  have B2 := Lib.hid b2
  clear o2 b2
  go_wp2_with fail
  refine (F22.out _ _ _ O2.out).mono ?_
  rintro e w3 ⟨rfl, h3⟩
  rw [h3]
  clear h3 w3
  go_wp2_with fail
  refine (F25.out _ _ _ O2.out).mono ?_
  rintro e w4 ⟨r4, rfl, o4, b4⟩
  have O4 := Lib.hid o4
  have B4 := Lib.hid (B2.out.trans (b4.mono B2.out.size))
  clear o4 b4
  go_wp2_with fail
  refine (F24.out _ _ _ B4.out O4.out).mono ?_
  rintro e w5 ⟨rfl, b5⟩
  have B5 := Lib.hid (B4.out.trans (b5.mono B4.out.size))
  clear b5
  go_wp2_with fail
  refine (F20.out _ B5.out).mono ?_
  rintro e w6 ⟨r6, rfl, o6, b6⟩
  have O6 := Lib.hid o6
  have B6 := Lib.hid b6
  clear o6 b6
  go_wp2_with fail
  go_ret2
  exact .inl ⟨HO.out, r6, rfl, Go.Joins.ownsRow_le O6.out B5.out.size, B5.out.trans (B6.out.mono B5.out.size)⟩

set_option maxRecDepth 100000 in
set_option maxHeartbeats 1000000 in
theorem enc_pack (w : World) (v : Value) (T : List Int) (hI : Ii w v T) (hTb : Tab w) (h1 : 2 ≤ T.length) (hl : T.length ≤ 1000) (hU : Up T) (hA : ¬ OneFar T) (hS : Small (chgs T)) : Calls Tryd.prog 10 #[v] w fun e w' => Encoded w T e w' := by
  obtain ⟨i0, hi, hz0, hz1, hz2⟩ := info_parts info5
  have F19 := Lib.hid (rise19 w v T hI (by omega) hl)
  rw [decide_eq_true hU] at F19
  have F21 := Lib.hid (dists21 w v T hI h1 hl)
  have F22 : Hid (∀ x B u, World.ownsRow x B 35 1 u (dists T).length (u64s (dists T)) → Calls Tryd.prog 22 #[u] x fun e w' => e = .returned (.bool false) ∧ w' = x) := Lib.hid fun x B u ho => by
    have := alike22 x u T (dists_iu ho) h1 hl
    rwa [decide_eq_false hA] at this
  have F25 : Hid (∀ x B u, World.ownsRow x B 35 1 u (dists T).length (u64s (dists T)) → Calls Tryd.prog 25 #[u] x fun e w' => ∃ r, e = .returned r ∧ w'.ownsRow x.heap.size 35 1 r (chgs T).length (u64s (chgs T)) ∧ Below x.heap.size x w') :=
    Lib.hid fun x B u ho => chgs25 x u T (dists_iu ho) h1 hl
  obtain ⟨ps, hps⟩ : ∃ ps, ps = packs (chgs T) := ⟨_, rfl⟩
  have hp1 : 0 < ps.length := by rw [hps]; exact packs_pos (by rw [chgs_len]; omega)
  have hp2 : ps.length ≤ 7992 := by rw [hps, packs_len]; have := words_len (chgs T); rw [chgs_len] at this; omega
  have F24 : Hid (∀ x B u, Below w.heap.size w x → World.ownsRow x B 35 1 u (chgs T).length (u64s (chgs T)) → Calls Tryd.prog 24 #[u] x fun e w' => ∃ g c, e = .returned (.tuple #[.slice (some ⟨g, 0, none⟩) ps.length c, .int .i64 0]) ∧ w'.ownsRow x.heap.size 5 1 (.slice (some ⟨g, 0, none⟩) ps.length c) ps.length (u8s ps) ∧ Below x.heap.size x w') :=
    Lib.hid fun x B u b ho => (pack9 x u (chgs T) (chgs_iu ho) (hTb.below b hTb.1) (by rw [chgs_len]; omega)).mono fun e w' h => by
      obtain ⟨r, rfl, ho, bl⟩ := Packed.ok h hS
      rw [← hps] at ho
      obtain ⟨g, c, rfl⟩ := Go.Joins.ownsRow_form ho hp1
      exact ⟨g, c, rfl, ho, bl⟩
  have F26 : Hid (∀ x, Below w.heap.size w x → Calls Tryd.prog 26 #[.int .u64 2, v] x fun e w' => ∃ g s, e = .returned (.pointer (some ⟨g, 0, none⟩)) ∧ Wb w' g s (head 2 T) ∧ x.heap.size ≤ g ∧ Below x.heap.size x w') :=
    Lib.hid fun x b => head26 x v T 2 (by decide) (hI.below b) (by omega) hl
  have F27 : Hid (∀ x g s, Wb x g s (head 2 T) → Calls Tryd.prog 27 #[.pointer (some ⟨g, 0, none⟩)] x fun e w' => ∃ v, e = .returned v ∧ w'.ownsRow x.heap.size 5 1 v 11 (u8s (head 2 T)) ∧ Below x.heap.size x w') :=
    Lib.hid fun x g s h => by have := bytes27 x g s _ h (by rw [head_len]; omega); rwa [head_len] at this
  have HB : Hid (bytesOf T = head 2 T ++ ps) := Lib.hid (by rw [hps]; exact bytes_pack h1 hA hS)
  have HO : Hid (Ok T) := Lib.hid ⟨by omega, hl, hU⟩
  have HU8 : Hid (u8s (head 2 T ++ ps) = u8s (head 2 T) ++ u8s ps ∧ (head 2 T ++ ps).length = 11 + ps.length ∧ (u8s ps).length = ps.length) := Lib.hid ⟨by simp [u8s], by rw [List.length_append, head_len], u8s_len _⟩
  have HONE : Hid (∀ u ∈ u8s ps, u.oneCell' = true) := Lib.hid fun u hu => by simp [u8s] at hu; obtain ⟨x, _, rfl⟩ := hu; rfl
  obtain ⟨b, off, c, rfl, -⟩ := ii_open hI (by omega)
  obtain ⟨n, hn⟩ : ∃ n, n = T.length := ⟨_, rfl⟩
  rw [← hn] at h1 hl F19 F21 F26 ⊢
  obtain ⟨Q, hQ⟩ : ∃ Q, Q = ps.length := ⟨_, rfl⟩
  rw [← hQ] at hp1 hp2 F24 HU8
  have hn0 : ((n : Int) == 0) = false := by simp; omega
  have hn1 : ((n : Int) == 1) = false := by simp; omega
  clear hn hI hU hA hS hTb hps hQ
  go_enter Tryd.func10, Tryd.ntmps10
  go_wp2_with (go_at_call 19; refine F19.out.mono ?_; rintro e w1 ⟨rfl, rfl⟩)
  refine F21.out.mono ?_
  rintro e w2 ⟨r2, rfl, o2, b2⟩
  have O2 := Lib.hid o2
  have B2 := Lib.hid b2
  clear o2 b2
  go_wp2_with fail
  refine (F22.out _ _ _ O2.out).mono ?_
  rintro e w3 ⟨rfl, h3⟩
  rw [h3]
  clear h3 w3
  go_wp2_with fail
  refine (F25.out _ _ _ O2.out).mono ?_
  rintro e w4 ⟨r4, rfl, o4, b4⟩
  have O4 := Lib.hid o4
  have B4 := Lib.hid (B2.out.trans (b4.mono B2.out.size))
  clear o4 b4
  go_wp2_with fail
  refine (F24.out _ _ _ B4.out O4.out).mono ?_
  rintro e w5 ⟨g5, c5, rfl, o5, b5⟩
  have O5 := Lib.hid o5
  have B5 := Lib.hid (B4.out.trans (b5.mono B4.out.size))
  clear o5 b5
  go_wp2_with fail
  refine (F26.out _ B5.out).mono ?_
  rintro e w6 ⟨g6, s6, rfl, q6, hg6, b6⟩
  have Q6 := Lib.hid q6
  have O56 := Lib.hid (own_below O5.out b6)
  have B6 := Lib.hid (B5.out.trans (b6.mono B5.out.size))
  clear q6 b6
  go_wp2_with fail
  refine (F27.out _ _ _ Q6.out).mono ?_
  rintro e w7 ⟨r7, rfl, o7, b7⟩
  have O57 := Lib.hid (own_below O56.out b7)
  have B7 := Lib.hid (B6.out.trans (b7.mono B6.out.size))
  have hs7 : w6.heap.size ≤ w7.heap.size := b7.size
  have hown := o7
  clear o7 b7
  go_wp2_with (at_builtin; refine wpList_append_own _ rfl (.tmp 46) (.tmp 47) 24 rfl w6.heap.size 5 i0 (.int .u8 0) 1 1 Tryd.underlying24 hi hz0 hz1 hz2 rfl (by decide) _ 11 _ rfl hown ⟨g5, 0, none⟩ Q c5 (u8s ps) rfl (by rw [HU8.out.2.2]; omega) ?c1 ?c2 ?c3 ?c4 ?c5 ?_)
  case c1 => intro j u hj; exact O57.out.cells rfl j u hj
  case c2 => exact HONE.out
  case c3 => unfold maxLen; omega
  case c4 => omega
  case c5 => omega
  intro v' w8 hown' hgrow _
  have b8 := Lib.hid (Below.grown (Below.refl w6.heap.size w7) hgrow hs7 (fun r hr => (hown.lt r hr).1))
  clear hgrow
  have hO8 := Lib.hid hown'
  clear hown'
  go_wp2_with fail
  go_ret2
  refine .inl ⟨HO.out, _, rfl, ?_, B7.out.trans (b8.out.mono B6.out.size)⟩
  rw [HB.out, HU8.out.2.1, HU8.out.1]
  exact Go.Joins.ownsRow_le hO8.out B6.out.size

theorem encode10 (w : World) (v : Value) (T : List Int) (hI : Ii w v T) (hTb : Tab w) : Calls Tryd.prog 10 #[v] w fun e w' => Encoded w T e w' := by
  have hv : ∃ a c, v = .slice a T.length c := by
    obtain ⟨_, ⟨a, c, rfl, rfl⟩ | ⟨b, off, c, rfl, _⟩⟩ := hI
    · exact ⟨a, c, rfl⟩
    · exact ⟨_, _, rfl⟩
  by_cases h0 : T.length = 0 ∨ 1000 < T.length
  · exact enc_none w v T hv h0
  · by_cases hU : Up T
    · by_cases h1 : T.length = 1
      · exact enc_one w v T hI h1 hU
      · by_cases hA : OneFar T
        · exact enc_even w v T hI (by omega) (by omega) hU hA
        · by_cases hS : Small (chgs T)
          · exact enc_pack w v T hI hTb (by omega) (by omega) hU hA hS
          · exact enc_whole w v T hI hTb (by omega) (by omega) hU hA hS
    · exact enc_down w v T hI (by omega) (by omega) hU
end En
end Go.Proofs.YtidbpoigbfpocaaDoor
