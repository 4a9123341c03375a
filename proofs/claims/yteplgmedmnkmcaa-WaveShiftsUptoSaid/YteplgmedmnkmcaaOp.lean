/- A slice of floats that came in, opened. -/
import Derived.Test.YteplgmedmnkmcaaSa
import Derived.Deep.Slices
namespace Go.Proofs.Yteplgmedmnkmcaa
open Go.Deep Go.ChangeShapes
namespace St
section
variable {H : Type} {enc : TypeId × Value → H} {P : Program} {w : World} {base : Nat} {spare : Nat → Bool} {held : Bool}
theorem trod_float {k : FloatKind} {t : TypeId} {fuel : Nat} {cs : List Value} {x : DataW H × List MemPlace} (ht : P.underlying t = some (.float k)) (h : DataW.trod enc P w base spare held fuel t cs = some x) :
    ∃ n, cs = [.float k n] ∧ x = (.lit (.float k n), []) ∧ (Lit.float k n).wf = true := by
  cases fuel with
  | zero => simp [DataW.trod] at h
  | succ n =>
    unfold DataW.trod at h
    rw [ht] at h
    split at h <;> simp_all
theorem cell_lt {w : World} {a : Addr} {v : Value} (h : w.cell? a = some v) : a.block < w.heap.size := by
  by_cases hlt : a.block < w.heap.size
  · exact hlt
  · unfold World.cell? at h
    rw [show w.heap[a.block]? = none from by simp; omega] at h
    simp at h
theorem open_isF {t e : TypeId} {fuel : Nat} {a : Option Addr} {len cap : Nat} {x : DataW H × List MemPlace} (ht : P.underlying t = some (.slice e)) (he : P.underlying e = some (.float .f64)) (hc : P.cellsOf e = 1)
    (h : DataW.trod enc P w base spare held fuel t [.slice a len cap] = some x) : ∃ V, IsF w a len cap V := by
  rcases open_slice1 ht hc h with ⟨h0, _⟩ | ⟨y, l, c, m, n, V, D, Pl, h0, _, hl, hm, hmm, _, hx⟩
  · simp at h0
    exact ⟨fun _ => 0, .inl h0.2.1⟩
  · simp at h0
    obtain ⟨rfl, rfl, rfl⟩ := h0
    by_cases hz : len = 0
    · exact ⟨fun _ => 0, .inl hz⟩
    · have hlm : len ≤ m := by rw [hmm]; split <;> omega
      obtain ⟨F, hF⟩ := choose_lt (α := Nat) (p := fun i v => w.cell? (y.add i) = some (.float .f64 v)) (n := len) (fun i hi => by
        obtain ⟨h1, h2⟩ := hx i (by omega)
        obtain ⟨b, hb, _⟩ := trod_float he h2
        simp at hb
        exact ⟨b, by rw [h1, hb]⟩)
      obtain ⟨b, off, spot⟩ := y
      have h0 := hF 0 (by omega)
      have hspot : spot = none := by simpa [Addr.add] using World.cell?_spot h0
      subst hspot
      exact ⟨F, .inr ⟨b, off, rfl, cell_lt h0, hl, hm, fun i hi => by
        have g := hF i hi
        by_cases hi0 : i = 0
        · subst hi0; simpa [Addr.add] using g
        · simpa [Addr.add, hi0] using g⟩⟩
end
end St
end Go.Proofs.Yteplgmedmnkmcaa
