/- The law PackUnpacks. -/
import Derived.Test.YtjeimfgapkgmiaaDoorUz
namespace Go.Proofs.YtjeimfgapkgmiaaDoor
open Go.RowKit
namespace Lu
open Mt Wr Bm Pk Rp Cv Rd Rx Ry Ux Uy Uz La

theorem refunpack10 (w : World) (v : Value) (bs : List Nat) (n : Int) (hP : Pl w v bs) (hX : ∀ x ∈ bs, x < 256) (hb : bs.length ≤ 140737488353272) (hbd : min n.toNat (60 * (bs.length / 8)) ≤ 17592186044159) (n1 : -9223372036854775808 ≤ n) (n2 : n ≤ 9223372036854775807) :
    Calls Tryd.prog 10 #[v, .int .i64 n] w fun e w' => Unpacked w bs n e w' := by
  by_cases h : bs.length % 8 ≠ 0 ∨ n < 0 ∨ 60 * (bs.length : Int) < n
  · refine refwrong10 w v bs n ?_ hb n1 n2 h
    rcases hP with ⟨rfl, a, c, rfl⟩ | ⟨_, b, off, c, rfl, _⟩
    · exact ⟨a, c, rfl⟩
    · exact ⟨_, _, rfl⟩
  · obtain ⟨nn, rfl⟩ := Int.eq_ofNat_of_zero_le (show 0 ≤ n by omega)
    rcases hP with ⟨rfl, a, c, rfl⟩ | ⟨h0, b, off, c, rfl, hl, hc⟩
    · simp only [List.length_nil] at h
      obtain rfl : nn = 0 := by omega
      exact refempty10 w a c
    · exact refright10 w b off c bs nn h0 hl hc hX hb (by simpa using hbd) (by omega) (by omega)

theorem Unpacked.ok {w w' : World} {bs : List Nat} {n : Int} {e : Ending} {l : List Nat} (h : Unpacked w bs n e w') (hu : unpacks bs n = some l) : Small l ∧ (l.length : Int) = n ∧ ∃ r, e = .returned (.tuple #[r, .int .i64 0]) ∧ w'.ownsRow w.heap.size 34 1 r l.length (u64s l) ∧ Below w.heap.size w w' := by
  obtain ⟨h | h, bl⟩ := h
  · obtain ⟨l', r, h1, he, ho, hS, hn⟩ := h
    rw [hu] at h1
    cases h1
    exact ⟨hS, hn, r, he, ho, bl⟩
  · rw [hu] at h; cases h.1
theorem Unpacked.bad {w w' : World} {bs : List Nat} {n : Int} {e : Ending} (h : Unpacked w bs n e w') (hu : unpacks bs n = none) : e = .returned (.tuple #[.slice none 0 0, .int .i64 2]) ∧ Below w.heap.size w w' := by
  obtain ⟨h | h, bl⟩ := h
  · obtain ⟨l', r, h1, _⟩ := h
    rw [hu] at h1
    cases h1
  · exact ⟨h.2, bl⟩

/-- What both Unpacks answer for a list. -/
def Good (f : Nat) (w : World) (v : Value) (n : Int) (l : List Nat) : Prop :=
  ∀ x, Below w.heap.size w x → Calls Tryd.prog f #[v, .int .i64 n] x fun e w' => ∃ r, e = .returned (.tuple #[r, .int .i64 0]) ∧ w'.ownsRow x.heap.size 34 1 r l.length (u64s l) ∧ Below x.heap.size x w'
def Evil (f : Nat) (w : World) (v : Value) (n : Int) : Prop :=
  ∀ x, Below w.heap.size w x → Calls Tryd.prog f #[v, .int .i64 n] x fun e w' => e = .returned (.tuple #[.slice none 0 0, .int .i64 2]) ∧ Below x.heap.size x w'
theorem both (w : World) (v : Value) (bs : List Nat) (n : Int) (hP : Pl w v bs) (hx : v = .slice none 0 0 ∨ ∃ ad c, v = .slice (some ad) bs.length c) (hX : ∀ x ∈ bs, x < 256) (hT : Tab w) (hb : bs.length ≤ 140737488353272) (hbd : min n.toNat (60 * (bs.length / 8)) ≤ 17592186044159)
    (n1 : -9223372036854775808 ≤ n) (n2 : n ≤ 9223372036854775807) :
    (∃ l, unpacks bs n = some l ∧ Small l ∧ (l.length : Int) = n ∧ Good 10 w v n l ∧ Good 11 w v n l) ∨ (unpacks bs n = none ∧ Evil 10 w v n ∧ Evil 11 w v n) := by
  have r10 := fun x (b : Below w.heap.size w x) => refunpack10 x v bs n (hP.below b) hX hb hbd n1 n2
  have r11 := fun x (b : Below w.heap.size w x) => unpack11 x v bs n (hP.below b) (pl_is (hP.below b) hx) hX (hT.below b hT.1) hb hbd n1 n2
  cases hu : unpacks bs n with
  | none => exact .inr ⟨rfl, fun x b => (r10 x b).mono fun e w' h => Unpacked.bad h hu, fun x b => (r11 x b).mono fun e w' h => Unpacked.bad h hu⟩
  | some l =>
    have hsl : Small l ∧ (l.length : Int) = n := by
      unfold unpacks at hu
      split at hu
      · cases hr : reads n.toNat [] (wordsOf bs (bs.length / 8)) with
        | none => rw [hr] at hu; cases hu
        | some l' =>
          rw [hr] at hu
          simp only [Option.bind_some] at hu
          split at hu
          · rename_i h
            cases hu
            exact ⟨reads_small hr small_nil, h.1⟩
          · cases hu
      · cases hu
    exact .inl ⟨l, rfl, hsl.1, hsl.2, fun x b => (r10 x b).mono fun e w' h => (Unpacked.ok h hu).2.2, fun x b => (r11 x b).mono fun e w' h => (Unpacked.ok h hu).2.2⟩

theorem same_own {w : World} {B B' : Nat} {u v : Value} {l : List Nat} (hu : w.ownsRow B 34 1 u l.length (u64s l)) (hv : w.ownsRow B' 34 1 v l.length (u64s l)) (hS : Small l) (hl : l.length ≤ 17592186044159) :
    Calls Tryd.prog 12 #[u, v] w fun e w' => e = .returned (.bool true) ∧ ∃ m, w' = w.drewN m := same12 w u v l (iu_own hu (small64 hS)) (iu_own hv (small64 hS)) hl

set_option maxRecDepth 100000 in
set_option maxHeartbeats 1000000 in
theorem unpacks4 (w : World) (v : Value) (bs : List Nat) (n : Int) (hP : Pl w v bs) (hx : v = .slice none 0 0 ∨ ∃ ad c, v = .slice (some ad) bs.length c) (hX : ∀ x ∈ bs, x < 256) (n1 : -9223372036854775808 ≤ n) (n2 : n ≤ 9223372036854775807) (hT : Tab w) (hb : bs.length ≤ 1048576) :
    Calls Tryd.prog 4 #[v, .int .i64 n] w fun e w' => e = .returned (.bool true) ∧ Below w.heap.size w w' := by
  have F7 := Lib.hid (awake7 w hT)
  rcases both w v bs n hP hx hX hT (by omega) (by omega) n1 n2 with ⟨l, hu, hS, hln, g10, g11⟩ | ⟨hu, g10, g11⟩
  · have hll : l.length ≤ 17592186044159 := by
      unfold unpacks at hu
      split at hu
      · cases hr : reads n.toNat [] (wordsOf bs (bs.length / 8)) with
        | none => rw [hr] at hu; cases hu
        | some l' =>
          rw [hr] at hu
          simp only [Option.bind_some] at hu
          split at hu
          · cases hu
            have h2 := reads_len hr
            rw [wordsOf_len, List.length_nil] at h2
            omega
          · cases hu
      · cases hu
    have F12 : Hid (∀ x B B' u v, World.ownsRow x B 34 1 u l.length (u64s l) → World.ownsRow x B' 34 1 v l.length (u64s l) → Calls Tryd.prog 12 #[u, v] x fun e w' => e = .returned (.bool true) ∧ ∃ m, w' = x.drewN m) := Lib.hid fun x B B' u v h1 h2 => same_own h1 h2 hS hll
    have F10 := Lib.hid g10
    have F11 := Lib.hid g11
    unfold Good at F10 F11
    clear hP hx hX hT hu hS g10 g11 hll hln
    go_enter Tryd.func4, Tryd.ntmps4
    go_wp2_with (first
      | (go_at_call 7; refine F7.out.mono ?_; rintro e w1 ⟨rfl, b1⟩; have B1 := Lib.hid b1; clear b1)
      | (go_at_call 10; refine (F10.out _ B1.out).mono ?_; rintro e w2 ⟨r2, rfl, o2, b2⟩; have O2 := Lib.hid o2; have B2 := Lib.hid (B1.out.trans (b2.mono B1.out.size)); clear b2 o2)
      | (go_at_call 11; refine (F11.out _ B2.out).mono ?_; rintro e w3 ⟨r3, rfl, o3, b3⟩; have O3 := Lib.hid o3; have B3 := Lib.hid (B2.out.trans (b3.mono B2.out.size)); have O23 := Lib.hid (own_below O2.out b3); clear b3 o3)
      | (go_at_call 12; refine (F12.out _ _ _ _ _ O3.out O23.out).mono ?_; rintro e w4 ⟨rfl, hm⟩))
    go_ret
    obtain ⟨m, rfl⟩ := hm
    exact ⟨rfl, Below.drewN' B3.out m⟩
  · have F10 := Lib.hid g10
    have F11 := Lib.hid g11
    unfold Evil at F10 F11
    have F12 : Hid (∀ x, Calls Tryd.prog 12 #[.slice none 0 0, .slice none 0 0] x fun e w' => e = .returned (.bool true) ∧ ∃ m, w' = x.drewN m) := Lib.hid fun x => same12 x _ _ [] ⟨by simp, .inl ⟨_, _, rfl, rfl⟩⟩ ⟨by simp, .inl ⟨_, _, rfl, rfl⟩⟩ (by simp)
    clear hP hx hX hT hu g10 g11
    go_enter Tryd.func4, Tryd.ntmps4
    go_wp2_with (first
      | (go_at_call 7; refine F7.out.mono ?_; rintro e w1 ⟨rfl, b1⟩; have B1 := Lib.hid b1; clear b1)
      | (go_at_call 10; refine (F10.out _ B1.out).mono ?_; rintro e w2 ⟨rfl, b2⟩; have B2 := Lib.hid (B1.out.trans (b2.mono B1.out.size)); clear b2)
      | (go_at_call 11; refine (F11.out _ B2.out).mono ?_; rintro e w3 ⟨rfl, b3⟩; have B3 := Lib.hid (B2.out.trans (b3.mono B2.out.size)); clear b3)
      | (go_at_call 12; refine (F12.out _).mono ?_; rintro e w4 ⟨rfl, hm⟩))
    go_ret
    obtain ⟨m, rfl⟩ := hm
    exact ⟨rfl, Below.drewN' B3.out m⟩
end Lu
end Go.Proofs.YtjeimfgapkgmiaaDoor
