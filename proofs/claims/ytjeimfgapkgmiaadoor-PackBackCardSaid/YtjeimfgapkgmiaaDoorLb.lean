/- The law PackBack. -/
import Derived.Test.YtjeimfgapkgmiaaDoorLu
namespace Go.Proofs.YtjeimfgapkgmiaaDoor
open Go.RowKit
namespace Lb
open Mt Wr Bm Pk Rp Cv Rd Rx Ry Ux Uy Uz La Lu

theorem own_pl {w : World} {B : Nat} {v : Value} {bs : List Nat} (h : w.ownsRow B 5 1 v bs.length (u8s bs)) : Pl w v bs ∧ (v = .slice none 0 0 ∨ ∃ ad c, v = .slice (some ad) bs.length c) := by
  refine ⟨?_, ?_⟩
  · by_cases h0 : 0 < bs.length
    · exact pl_own h h0
    · obtain ⟨a, c, e⟩ := slice_of' h
      have : bs.length = 0 := by omega
      exact .inl ⟨List.length_eq_zero_iff.1 this, a, c, by rw [e, this]⟩
  · rcases Go.Joins.ownsRow_forms h with ⟨rfl, _⟩ | ⟨g, c, rfl⟩
    · exact .inl rfl
    · exact .inr ⟨_, _, rfl⟩
theorem packs_bound {L : List Nat} (hl : L.length ≤ 17592186043904) : (packs L).length ≤ 140737488353272 := by
  rw [packs_len]
  have := words_len L
  omega
theorem goods {L : List Nat} (hS : Small L) (hl : L.length ≤ 17592186043904) (x : World) (B : Nat) (r : Value) (ho : x.ownsRow B 5 1 r (packs L).length (u8s (packs L))) (hT : Tab x) : Lu.Good 11 x r (L.length : Int) L := by
  obtain ⟨hP, hx⟩ := own_pl ho
  rcases both x r (packs L) (L.length : Int) hP hx (flat_lt _) hT (packs_bound hl) (by simp; omega) (by omega) (by omega) with ⟨l, hu, _, _, _, g⟩ | ⟨hu, _⟩
  · rw [unpacks_packs hS] at hu
    cases hu
    exact g
  · rw [unpacks_packs hS] at hu
    cases hu
theorem goods2 {L l : List Nat} {k : Nat} (hk : k < 256) (hl : L.length ≤ 17592186043904) (hu : unpacks (packs L) ((L.length : Int) + (k : Int)) = some l) (x : World) (B : Nat) (r : Value) (ho : x.ownsRow B 5 1 r (packs L).length (u8s (packs L))) (hT : Tab x) :
    Lu.Good 10 x r ((L.length : Int) + (k : Int)) l ∧ Lu.Good 11 x r ((L.length : Int) + (k : Int)) l := by
  obtain ⟨hP, hx⟩ := own_pl ho
  rcases both x r (packs L) ((L.length : Int) + (k : Int)) hP hx (flat_lt _) hT (packs_bound hl) (by omega) (by omega) (by omega) with ⟨l', hu', _, _, g1, g2⟩ | ⟨hu', _⟩
  · rw [hu] at hu'
    cases hu'
    exact ⟨g1, g2⟩
  · rw [hu] at hu'
    cases hu'
theorem evils2 {L : List Nat} {k : Nat} (hk : k < 256) (hl : L.length ≤ 17592186043904) (hu : unpacks (packs L) ((L.length : Int) + (k : Int)) = none) (x : World) (B : Nat) (r : Value) (ho : x.ownsRow B 5 1 r (packs L).length (u8s (packs L))) (hT : Tab x) :
    Lu.Evil 10 x r ((L.length : Int) + (k : Int)) ∧ Lu.Evil 11 x r ((L.length : Int) + (k : Int)) := by
  obtain ⟨hP, hx⟩ := own_pl ho
  rcases both x r (packs L) ((L.length : Int) + (k : Int)) hP hx (flat_lt _) hT (packs_bound hl) (by omega) (by omega) (by omega) with ⟨l', hu', _⟩ | ⟨_, g1, g2⟩
  · rw [hu] at hu'
    cases hu'
  · exact ⟨g1, g2⟩
theorem small_len {L l : List Nat} {k : Nat} (hk : k < 256) (hl : L.length ≤ 17592186043904) (hu : unpacks (packs L) ((L.length : Int) + (k : Int)) = some l) : Small l ∧ l.length ≤ 17592186044159 := by
  unfold unpacks at hu
  split at hu
  · cases hr : reads ((L.length : Int) + (k : Int)).toNat [] (wordsOf (packs L) ((packs L).length / 8)) with
    | none => rw [hr] at hu; cases hu
    | some l' =>
      rw [hr] at hu
      simp only [Option.bind_some] at hu
      split at hu
      · rename_i h
        cases hu
        exact ⟨reads_small hr small_nil, by omega⟩
      · cases hu
  · cases hu

set_option maxRecDepth 100000 in
set_option maxHeartbeats 1000000 in
theorem back5 (w : World) (v : Value) (L : List Nat) (k : Nat) (hI : Iu w v L) (hT : Tab w) (hl : L.length ≤ 17592186043904) (hk : k < 256) :
    Calls Tryd.prog 5 #[v, .int .u8 (k : Nat)] w fun e w' => e = .returned (.bool true) ∧ Below w.heap.size w w' := by
  have F7 := Lib.hid (awake7 w hT)
  have FI : Hid (∀ x, Below w.heap.size w x → Iu x v L ∧ Tab x) := Lib.hid fun x b => ⟨hI.below b, hT.below b hT.1⟩
  have hv : ∃ a c, v = .slice a L.length c := by
    rcases hI.cases with ⟨a, c, rfl, rfl⟩ | ⟨_, b, off, c, rfl, _⟩
    · exact ⟨_, _, rfl⟩
    · exact ⟨_, _, rfl⟩
  obtain ⟨av, cv, rfl⟩ := hv
  by_cases hS : Small L
  · have F9 : Hid (∀ x, Below w.heap.size w x → Calls Tryd.prog 9 #[.slice av L.length cv] x fun e w' => ∃ r, e = .returned (.tuple #[r, .int .i64 0]) ∧ w'.ownsRow x.heap.size 5 1 r (packs L).length (u8s (packs L)) ∧ Below x.heap.size x w') :=
      Lib.hid fun x b => (pack9 x _ L (FI.out x b).1 (FI.out x b).2 (by omega)).mono fun e w' h => Packed.ok h hS
    have F12 : Hid (∀ x B u, Below w.heap.size w x → World.ownsRow x B 34 1 u L.length (u64s L) → Calls Tryd.prog 12 #[u, .slice av L.length cv] x fun e w' => e = .returned (.bool true) ∧ ∃ m, w' = x.drewN m) :=
      Lib.hid fun x B u b ho => same12 x u _ L (iu_own ho (small64 hS)) (FI.out x b).1 (by omega)
    have FG := Lib.hid (@goods L hS hl)
    have FTab : Hid (∀ x, Below w.heap.size w x → Tab x) := Lib.hid fun x b => (FI.out x b).2
    unfold Lu.Good at FG
    cases hu : unpacks (packs L) ((L.length : Int) + (k : Int)) with
    | some l =>
      have FG2 := Lib.hid (@goods2 L l k hk hl hu)
      unfold Lu.Good at FG2
      have hsl := small_len hk hl hu
      have F12b : Hid (∀ x B B' u v, World.ownsRow x B 34 1 u l.length (u64s l) → World.ownsRow x B' 34 1 v l.length (u64s l) → Calls Tryd.prog 12 #[u, v] x fun e w' => e = .returned (.bool true) ∧ ∃ m, w' = x.drewN m) := Lib.hid fun x B B' u v h1 h2 => same_own h1 h2 hsl.1 hsl.2
      obtain ⟨m, hm⟩ : ∃ m, m = L.length := ⟨_, rfl⟩
      rw [← hm] at F9 F12 FG FG2 hl ⊢
      clear hI hT hS hu hsl FI hm
      go_enter Tryd.func5, Tryd.ntmps5
      go_wp2_with (go_at_call 7; refine F7.out.mono ?_; rintro e w1 ⟨rfl, b1⟩; have B1 := Lib.hid b1; clear b1)
      refine (F9.out _ B1.out).mono ?_
      rintro e w2 ⟨r2, rfl, o2, b2⟩
      have B2 := Lib.hid (B1.out.trans (b2.mono B1.out.size))
      have T2 := FTab.out _ B2.out
      have H11 := Lib.hid (FG.out _ _ _ o2 T2)
      have H10b := Lib.hid (FG2.out _ _ _ o2 T2).1
      have H11b := Lib.hid (FG2.out _ _ _ o2 T2).2
      clear o2 b2 T2
      go_wp2_with fail
      refine (H11.out _ (Below.refl _ _)).mono ?_
      rintro e w3 ⟨r3, rfl, o3, b3⟩
      have O3 := Lib.hid o3
      have B3 := Lib.hid b3
      clear o3 b3
      go_wp2_with fail
      refine (H11b.out _ B3.out).mono ?_
      rintro e w4 ⟨r4, rfl, o4, b4⟩
      have O34 := Lib.hid (own_below O3.out b4)
      have O4 := Lib.hid o4
      have B4 := Lib.hid (B3.out.trans (b4.mono B3.out.size))
      clear o4 b4
      go_wp2_with fail
      refine (H10b.out _ B4.out).mono ?_
      rintro e w5 ⟨r5, rfl, o5, b5⟩
      have O35 := Lib.hid (own_below O34.out b5)
      have O45 := Lib.hid (own_below O4.out b5)
      have O5 := Lib.hid o5
      have B5 := Lib.hid (B2.out.trans ((B4.out.trans (b5.mono B4.out.size)).mono B2.out.size))
      clear o5 b5
      go_wp2_with fail
      refine (F12.out _ _ _ B5.out O35.out).mono ?_
      rintro e w6 ⟨rfl, hm⟩
      have O46 : Hid (w6.ownsRow w3.heap.size 34 1 r4 l.length (u64s l)) := by obtain ⟨m, rfl⟩ := hm; exact O45
      have O56 : Hid (w6.ownsRow w4.heap.size 34 1 r5 l.length (u64s l)) := by obtain ⟨m, rfl⟩ := hm; exact O5
      have B6 : Hid (Below w.heap.size w w6) := by obtain ⟨m, rfl⟩ := hm; exact Lib.hid (Below.drewN' B5.out m)
      clear hm
      go_wp2_with fail
      refine (F12b.out _ _ _ _ _ O46.out O56.out).mono ?_
      rintro e w7 ⟨rfl, hm⟩
      go_wp2_with fail
      go_ret
      obtain ⟨m, rfl⟩ := hm
      exact ⟨rfl, Below.drewN' B6.out m⟩
    | none =>
      have FG2 := Lib.hid (@evils2 L k hk hl hu)
      unfold Lu.Evil at FG2
      have F12b : Hid (∀ x, Calls Tryd.prog 12 #[.slice none 0 0, .slice none 0 0] x fun e w' => e = .returned (.bool true) ∧ ∃ m, w' = x.drewN m) := Lib.hid fun x => same12 x _ _ [] ⟨by simp, .inl ⟨_, _, rfl, rfl⟩⟩ ⟨by simp, .inl ⟨_, _, rfl, rfl⟩⟩ (by simp)
      obtain ⟨m, hm⟩ : ∃ m, m = L.length := ⟨_, rfl⟩
      rw [← hm] at F9 F12 FG FG2 hl ⊢
      clear hI hT hS hu FI hm
      go_enter Tryd.func5, Tryd.ntmps5
      go_wp2_with (go_at_call 7; refine F7.out.mono ?_; rintro e w1 ⟨rfl, b1⟩; have B1 := Lib.hid b1; clear b1)
      refine (F9.out _ B1.out).mono ?_
      rintro e w2 ⟨r2, rfl, o2, b2⟩
      have B2 := Lib.hid (B1.out.trans (b2.mono B1.out.size))
      have T2 := FTab.out _ B2.out
      have H11 := Lib.hid (FG.out _ _ _ o2 T2)
      have H10b := Lib.hid (FG2.out _ _ _ o2 T2).1
      have H11b := Lib.hid (FG2.out _ _ _ o2 T2).2
      clear o2 b2 T2
      go_wp2_with fail
      refine (H11.out _ (Below.refl _ _)).mono ?_
      rintro e w3 ⟨r3, rfl, o3, b3⟩
      have O3 := Lib.hid o3
      have B3 := Lib.hid b3
      clear o3 b3
      go_wp2_with fail
      refine (H11b.out _ B3.out).mono ?_
      rintro e w4 ⟨rfl, b4⟩
      have O34 := Lib.hid (own_below O3.out b4)
      have B4 := Lib.hid (B3.out.trans (b4.mono B3.out.size))
      clear b4
      go_wp2_with fail
      refine (H10b.out _ B4.out).mono ?_
      rintro e w5 ⟨rfl, b5⟩
      have O35 := Lib.hid (own_below O34.out b5)
      have B5 := Lib.hid (B2.out.trans ((B4.out.trans (b5.mono B4.out.size)).mono B2.out.size))
      clear b5
      go_wp2_with fail
      refine (F12.out _ _ _ B5.out O35.out).mono ?_
      rintro e w6 ⟨rfl, hm⟩
      have B6 : Hid (Below w.heap.size w w6) := by obtain ⟨m, rfl⟩ := hm; exact Lib.hid (Below.drewN' B5.out m)
      clear hm
      go_wp2_with fail
      refine (F12b.out _).mono ?_
      rintro e w7 ⟨rfl, hm⟩
      go_wp2_with fail
      go_ret
      obtain ⟨m, rfl⟩ := hm
      exact ⟨rfl, Below.drewN' B6.out m⟩
  · have F9 : Hid (∀ x, Below w.heap.size w x → Calls Tryd.prog 9 #[.slice av L.length cv] x fun e w' => e = .returned (.tuple #[.slice none 0 0, .int .i64 3]) ∧ Below x.heap.size x w') :=
      Lib.hid fun x b => (pack9 x _ L (FI.out x b).1 (FI.out x b).2 (by omega)).mono fun e w' h => Packed.bad h hS
    clear hI hT hS FI
    go_enter Tryd.func5, Tryd.ntmps5
    go_wp2_with (first
      | (go_at_call 7; refine F7.out.mono ?_; rintro e w1 ⟨rfl, b1⟩; have B1 := Lib.hid b1; clear b1)
      | (go_at_call 9; refine (F9.out _ B1.out).mono ?_; rintro e w2 ⟨rfl, b2⟩; have B2 := Lib.hid (B1.out.trans (b2.mono B1.out.size)); clear b2))
    go_ret
    exact ⟨rfl, B2.out⟩
end Lb
end Go.Proofs.YtjeimfgapkgmiaaDoor
