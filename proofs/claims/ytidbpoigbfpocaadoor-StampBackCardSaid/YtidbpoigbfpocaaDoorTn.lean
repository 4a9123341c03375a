/- The program's side: Encode. -/
import Derived.Test.YtidbpoigbfpocaaDoorTl
import Derived.Test.YtidbpoigbfpocaaDoorLu
namespace Go.Proofs.YtidbpoigbfpocaaDoor
open Go.RowKit
namespace En
open Bm Mt Wr Pk Rp Cv Rd Rx Sz Tm Ti Th La

/-- What Encode answers. -/
def Encoded (w : World) (T : List Int) (e : Ending) (w' : World) : Prop :=
  (Ok T ∧ ∃ r, e = .returned (.tuple #[r, .int .i64 0]) ∧ w'.ownsRow w.heap.size 5 1 r (bytesOf T).length (u8s (bytesOf T)) ∧ Below w.heap.size w w') ∨
  (¬ Ok T ∧ e = .returned (.tuple #[.slice none 0 0, .int .i64 1]) ∧ Below w.heap.size w w')
theorem Encoded.ok {w w' : World} {T : List Int} {e : Ending} (h : Encoded w T e w') (hO : Ok T) : ∃ r, e = .returned (.tuple #[r, .int .i64 0]) ∧ w'.ownsRow w.heap.size 5 1 r (bytesOf T).length (u8s (bytesOf T)) ∧ Below w.heap.size w w' := by
  rcases h with ⟨_, h⟩ | ⟨h, _⟩
  · exact h
  · exact absurd hO h
theorem Encoded.bad {w w' : World} {T : List Int} {e : Ending} (h : Encoded w T e w') (hO : ¬ Ok T) : e = .returned (.tuple #[.slice none 0 0, .int .i64 1]) ∧ Below w.heap.size w w' := by
  rcases h with ⟨h, _⟩ | ⟨_, h⟩
  · exact absurd h hO
  · exact h

theorem ok_len {T : List Int} (h : T.length = 0 ∨ 1000 < T.length) : ¬ Ok T := fun h' => by obtain ⟨h1, h2, _⟩ := h'; omega
theorem bytes_even {T : List Int} (h1 : 2 ≤ T.length) (h : OneFar T) : bytesOf T = head 1 T ++ eight (dist T 0) := if_pos ⟨h1, h⟩
theorem bytes_pack {T : List Int} (h1 : 2 ≤ T.length) (h : ¬ OneFar T) (hS : Small (chgs T)) : bytesOf T = head 2 T ++ packs (chgs T) := by
  unfold bytesOf
  rw [if_neg (fun h' => h h'.2), if_pos ⟨h1, hS⟩]
theorem bytes_whole {T : List Int} (h : T.length < 2 ∨ (¬ OneFar T ∧ ¬ Small (chgs T))) : bytesOf T = head 0 T ++ flat (others T) := by
  unfold bytesOf
  rw [if_neg (fun h' => by rcases h with h | h; omega; exact h.1 h'.2), if_neg (fun h' => by rcases h with h | h; omega; exact h.2 h'.2)]
theorem packs_pos {l : List Nat} (h : 0 < l.length) : 0 < (packs l).length := by
  rw [packs_len, words_cons h]
  simp

set_option maxRecDepth 100000 in
theorem enc_none (w : World) (v : Value) (T : List Int) (hv : ∃ a c, v = .slice a T.length c) (h : T.length = 0 ∨ 1000 < T.length) : Calls Tryd.prog 10 #[v] w fun e w' => Encoded w T e w' := by
  obtain ⟨a, c, rfl⟩ := hv
  have HO := Lib.hid (ok_len h)
  obtain ⟨n, hn⟩ : ∃ n, n = T.length := ⟨_, rfl⟩
  rw [← hn] at h ⊢
  clear hn
  rcases h with rfl | h
  · go_enter Tryd.func10, Tryd.ntmps10
    go_wp2_with fail
    go_ret2
    exact .inr ⟨HO.out, rfl, Below.refl _ _⟩
  · have hn0 : ((n : Int) == 0) = false := by simp; omega
    go_enter Tryd.func10, Tryd.ntmps10
    go_wp2_with fail
    go_ret2
    exact .inr ⟨HO.out, rfl, Below.refl _ _⟩

set_option maxRecDepth 100000 in
theorem enc_down (w : World) (v : Value) (T : List Int) (hI : Ii w v T) (h1 : 1 ≤ T.length) (hl : T.length ≤ 1000) (hU : ¬ Up T) : Calls Tryd.prog 10 #[v] w fun e w' => Encoded w T e w' := by
  have F19 := Lib.hid (rise19 w v T hI h1 hl)
  rw [decide_eq_false hU] at F19
  have HO : Hid (¬ Ok T) := Lib.hid fun h => hU h.2.2
  obtain ⟨b, off, c, rfl, -⟩ := ii_open hI h1
  obtain ⟨n, hn⟩ : ∃ n, n = T.length := ⟨_, rfl⟩
  rw [← hn] at h1 hl F19 ⊢
  have hn0 : ((n : Int) == 0) = false := by simp; omega
  clear hn hI hU
  go_enter Tryd.func10, Tryd.ntmps10
  go_wp2_with (go_at_call 19; refine F19.out.mono ?_; rintro e w1 ⟨rfl, rfl⟩)
  go_ret2
  exact .inr ⟨HO.out, rfl, Below.refl _ _⟩

set_option maxRecDepth 100000 in
theorem enc_one (w : World) (v : Value) (T : List Int) (hI : Ii w v T) (h1 : T.length = 1) (hU : Up T) : Calls Tryd.prog 10 #[v] w fun e w' => Encoded w T e w' := by
  have F19 := Lib.hid (rise19 w v T hI (by omega) (by omega))
  rw [decide_eq_true hU] at F19
  have F20 := Lib.hid (whole20 w v T hI (by omega) (by omega))
  rw [← bytes_whole (.inl (by omega))] at F20
  have HO : Hid (Ok T) := Lib.hid ⟨by omega, by omega, hU⟩
  obtain ⟨b, off, c, rfl, -⟩ := ii_open hI (by omega)
  rw [h1] at F19 F20 ⊢
  clear hI hU h1
  go_enter Tryd.func10, Tryd.ntmps10
  go_wp2_with (first
    | (go_at_call 19; refine F19.out.mono ?_; rintro e w1 ⟨rfl, rfl⟩)
    | (go_at_call 20; refine F20.out.mono ?_; rintro e w2 ⟨r, rfl, o2, b2⟩; have O2 := Lib.hid o2; have B2 := Lib.hid b2; clear o2 b2))
  go_ret2
  exact .inl ⟨HO.out, r, rfl, O2.out, B2.out⟩

set_option maxRecDepth 100000 in
set_option maxHeartbeats 1000000 in
theorem enc_even (w : World) (v : Value) (T : List Int) (hI : Ii w v T) (h1 : 2 ≤ T.length) (hl : T.length ≤ 1000) (hU : Up T) (hA : OneFar T) : Calls Tryd.prog 10 #[v] w fun e w' => Encoded w T e w' := by
  have F19 := Lib.hid (rise19 w v T hI (by omega) hl)
  rw [decide_eq_true hU] at F19
  have F21 := Lib.hid (dists21 w v T hI h1 hl)
  have F22 : Hid (∀ x B u, World.ownsRow x B 35 1 u (dists T).length (u64s (dists T)) → Calls Tryd.prog 22 #[u] x fun e w' => e = .returned (.bool true) ∧ w' = x) := Lib.hid fun x B u ho => by
    have := alike22 x u T (dists_iu ho) h1 hl
    rwa [decide_eq_true hA] at this
  have F23 : Hid (∀ x, Below w.heap.size w x → Calls Tryd.prog 23 #[v, .int .u64 (dist T 0 : Nat)] x fun e w' => ∃ r, e = .returned r ∧ w'.ownsRow x.heap.size 5 1 r (bytesOf T).length (u8s (bytesOf T)) ∧ Below x.heap.size x w') := Lib.hid fun x b => by
    rw [bytes_even h1 hA]
    exact even23 x v T _ (dist_lt T 0) (hI.below b) (by omega) hl
  have FD : Hid (∀ x B u, World.ownsRow x B 35 1 u (dists T).length (u64s (dists T)) → ∃ b off c, u = .slice (some ⟨b, off, none⟩) (T.length - 1) c ∧ x.cell? ⟨b, off, none⟩ = some (.int .u64 (dist T 0 : Nat))) := Lib.hid fun x B u ho => by
    obtain ⟨b, off, c, rfl, _, _, h⟩ := dists_open (dists_iu ho) h1
    exact ⟨b, off, c, rfl, h 0 (by omega)⟩
  have HO : Hid (Ok T) := Lib.hid ⟨by omega, hl, hU⟩
  obtain ⟨b, off, c, rfl, -⟩ := ii_open hI (by omega)
  obtain ⟨n, hn⟩ : ∃ n, n = T.length := ⟨_, rfl⟩
  obtain ⟨D, hD⟩ : ∃ D, D = dist T 0 := ⟨_, rfl⟩
  rw [← hn] at h1 hl F19 F21 F23 FD ⊢
  rw [← hD] at F23 FD
  have hn0 : ((n : Int) == 0) = false := by simp; omega
  have hn1 : ((n : Int) == 1) = false := by simp; omega
  clear hn hI hU hA hD
  go_enter Tryd.func10, Tryd.ntmps10
  go_wp2_with (go_at_call 19; refine F19.out.mono ?_; rintro e w1 ⟨rfl, rfl⟩)
  refine F21.out.mono ?_
  rintro e w2 ⟨r2, rfl, o2, b2⟩
  have O2 := Lib.hid o2
  have B2 := Lib.hid b2
  obtain ⟨gb, go, gc, rfl, e0⟩ := FD.out _ _ _ o2
  clear o2 b2
  go_wp2_with fail
  refine (F22.out _ _ _ O2.out).mono ?_
  rintro e w3 ⟨rfl, h3⟩
  rw [h3]
  clear h3 w3
  go_wp2_with fail
  refine (F23.out _ B2.out).mono ?_
  rintro e w4 ⟨r4, rfl, o4, b4⟩
  have O4 := Lib.hid o4
  have B4 := Lib.hid b4
  clear o4 b4
  go_wp2_with fail
  go_ret2
  exact .inl ⟨HO.out, r4, rfl, Go.Joins.ownsRow_le O4.out B2.out.size, B2.out.trans (B4.out.mono B2.out.size)⟩
end En
end Go.Proofs.YtidbpoigbfpocaaDoor
