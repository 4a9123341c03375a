/- What both Packs and both Unpacks answer. -/
import Derived.Test.YtidbpoigbfpocaaDoorUz
namespace Go.Proofs.YtidbpoigbfpocaaDoor
open Go.RowKit
namespace Lu
open Mt Wr Bm Pk Rp Cv Rd Rx Ry Ux Uy Uz La

theorem refunpack10 (w : World) (v : Value) (bs : List Nat) (n : Int) (hP : Pl w v bs) (hX : ∀ x ∈ bs, x < 256) (hb : bs.length ≤ 140737488353272) (hbd : min n.toNat (60 * (bs.length / 8)) ≤ 17592186044159) (n1 : -9223372036854775808 ≤ n) (n2 : n ≤ 9223372036854775807) :
    Calls Tryd.prog 39 #[v, .int .i64 n] w fun e w' => Unpacked w bs n e w' := by
  by_cases h : bs.length % 8 ≠ 0 ∨ n < 0 ∨ 60 * (bs.length : Int) < n
  · refine refwrong10 w v bs n ?_ hb n1 n2 h
    rcases hP with ⟨rfl, a, c, rfl⟩ | ⟨_, b, off, c, rfl, _⟩
    · exact ⟨a, c, rfl⟩
    · exact ⟨_, _, rfl⟩
  · obtain ⟨nn, rfl⟩ := Int.eq_ofNat_of_zero_le (show 0 ≤ n by omega)
    rcases hP with ⟨rfl, a, c, rfl⟩ | ⟨h0, b, off, c, rfl, hl, hc⟩
    · simp only [List.length_nil] at h
      obtain rfl : nn = 0 := by omega
      exact refempty10 w a c
    · exact refright10 w b off c bs nn h0 hl hc hX hb (by simpa using hbd) (by omega) (by omega)

theorem Unpacked.ok {w w' : World} {bs : List Nat} {n : Int} {e : Ending} {l : List Nat} (h : Unpacked w bs n e w') (hu : unpacks bs n = some l) : Small l ∧ (l.length : Int) = n ∧ ∃ r, e = .returned (.tuple #[r, .int .i64 0]) ∧ w'.ownsRow w.heap.size 35 1 r l.length (u64s l) ∧ Below w.heap.size w w' := by
  obtain ⟨h | h, bl⟩ := h
  · obtain ⟨l', r, h1, he, ho, hS, hn⟩ := h
    rw [hu] at h1
    cases h1
    exact ⟨hS, hn, r, he, ho, bl⟩
  · rw [hu] at h; cases h.1
theorem Unpacked.bad {w w' : World} {bs : List Nat} {n : Int} {e : Ending} (h : Unpacked w bs n e w') (hu : unpacks bs n = none) : e = .returned (.tuple #[.slice none 0 0, .int .i64 2]) ∧ Below w.heap.size w w' := by
  obtain ⟨h | h, bl⟩ := h
  · obtain ⟨l', r, h1, _⟩ := h
    rw [hu] at h1
    cases h1
  · exact ⟨h.2, bl⟩

/-- What both Unpacks answer for a list. -/
def Good (f : Nat) (w : World) (v : Value) (n : Int) (l : List Nat) : Prop :=
  ∀ x, Below w.heap.size w x → Calls Tryd.prog f #[v, .int .i64 n] x fun e w' => ∃ r, e = .returned (.tuple #[r, .int .i64 0]) ∧ w'.ownsRow x.heap.size 35 1 r l.length (u64s l) ∧ Below x.heap.size x w'
def Evil (f : Nat) (w : World) (v : Value) (n : Int) : Prop :=
  ∀ x, Below w.heap.size w x → Calls Tryd.prog f #[v, .int .i64 n] x fun e w' => e = .returned (.tuple #[.slice none 0 0, .int .i64 2]) ∧ Below x.heap.size x w'
theorem both (w : World) (v : Value) (bs : List Nat) (n : Int) (hP : Pl w v bs) (hx : v = .slice none 0 0 ∨ ∃ ad c, v = .slice (some ad) bs.length c) (hX : ∀ x ∈ bs, x < 256) (hT : Tab w) (hb : bs.length ≤ 140737488353272) (hbd : min n.toNat (60 * (bs.length / 8)) ≤ 17592186044159)
    (n1 : -9223372036854775808 ≤ n) (n2 : n ≤ 9223372036854775807) :
    (∃ l, unpacks bs n = some l ∧ Small l ∧ (l.length : Int) = n ∧ Good 39 w v n l ∧ Good 51 w v n l) ∨ (unpacks bs n = none ∧ Evil 39 w v n ∧ Evil 51 w v n) := by
  have r10 := fun x (b : Below w.heap.size w x) => refunpack10 x v bs n (hP.below b) hX hb hbd n1 n2
  have r11 := fun x (b : Below w.heap.size w x) => unpack11 x v bs n (hP.below b) (pl_is (hP.below b) hx) hX (hT.below b hT.1) hb hbd n1 n2
  cases hu : unpacks bs n with
  | none => exact .inr ⟨rfl, fun x b => (r10 x b).mono fun e w' h => Unpacked.bad h hu, fun x b => (r11 x b).mono fun e w' h => Unpacked.bad h hu⟩
  | some l =>
    have hsl : Small l ∧ (l.length : Int) = n := by
      unfold unpacks at hu
      split at hu
      · cases hr : reads n.toNat [] (wordsOf bs (bs.length / 8)) with
        | none => rw [hr] at hu; cases hu
        | some l' =>
          rw [hr] at hu
          simp only [Option.bind_some] at hu
          split at hu
          · rename_i h
            cases hu
            exact ⟨reads_small hr small_nil, h.1⟩
          · cases hu
      · cases hu
    exact .inl ⟨l, rfl, hsl.1, hsl.2, fun x b => (r10 x b).mono fun e w' h => (Unpacked.ok h hu).2.2, fun x b => (r11 x b).mono fun e w' h => (Unpacked.ok h hu).2.2⟩

end Lu
end Go.Proofs.YtidbpoigbfpocaaDoor
