/- The row's sum by the program and by the document. -/
import Derived.Test.YtofageoljphleaaGreatDoorSt
namespace Go.Proofs.YtofageoljphleaaGreatDoor
open Go.RowKit
namespace St

/-- What is told of a slice of floats. -/
def IsF (w : World) (a : Option Addr) (len cap : Nat) (V : Nat → Nat) : Prop :=
  len = 0 ∨
  ∃ b off, a = some ⟨b, off, none⟩ ∧ b < w.heap.size ∧ len ≤ cap ∧ cap ≤ maxLen ∧ ∀ i, i < len → w.cell? ⟨b, off + i, none⟩ = some (.float .f64 (V i))
theorem IsF.below {B : Nat} {w w' : World} {a : Option Addr} {len cap : Nat} {V : Nat → Nat} (h : IsF w a len cap V) (hb : Below B w w') (hB : w.heap.size ≤ B) : IsF w' a len cap V := by
  rcases h with h | ⟨b, off, rfl, hlt, hl, hm, hc⟩
  · exact .inl h
  · exact .inr ⟨b, off, rfl, by have := hb.size; omega, hl, hm, fun i hi => by rw [hb.cell (by show b < B; omega)]; exact hc i hi⟩

set_option maxRecDepth 100000 in
set_option maxHeartbeats 800000 in
theorem sum6 (a : Option Addr) (len cap : Nat) (V : Nat → Nat) (w : World) (h : IsF w a len cap V) :
    Calls Tryz.prog 6 #[.slice a len cap] w fun e w' => ∃ c d, e = .returned (.complex .f64 c d) ∧ Sr V len c d ∧ Below w.heap.size w w' := by
  rcases h with rfl | ⟨b, off, rfl, hlt, hl, hm, hcell⟩
  · go_enter Tryz.func6, Tryz.ntmps6
    go_wp2
    refine wp_loop_rounds 1 ?_
    rw [rounds_succ]
    go_wp2_with fail
    go_ret
    exact ⟨0, 0, rfl, ⟨rfl, rfl⟩, Below.refl _ _⟩
  · unfold maxLen at hm
    go_enter Tryz.func6, Tryz.ntmps6
    go_wp2
    go_loopw [3, 8] (fun s i w1 => ∃ k c d, k ≤ len ∧ i = .int .i64 (k : Nat) ∧ s = .complex .f64 c d ∧ Sr V k c d ∧ Below w.heap.size w w1) (fun _ i _ => len - (intOf i).toNat)
    case atStart => exact ⟨0, 0, 0, Nat.zero_le _, rfl, rfl, ⟨rfl, rfl⟩, Below.refl _ _⟩
    case round =>
      obtain ⟨k, c, d, hk, rfl, rfl, hs, hbl⟩ := hrel
      by_cases hlt2 : k < len
      · have g := hcell k hlt2
        have g' : wr.cell? ⟨b, off + k, none⟩ = some (.float .f64 (V k)) := by rw [hbl.cell hlt]; exact g
        have HS := Lib.hid hs
        clear hs hcell g
        go_wp2_with (go_at_call 11; refine (step11 _ _ _ _ (by omega) _).mono ?_; rintro e w' ⟨c', d', rfl, hst, hb2⟩)
        go_roundw
        case rel => exact ⟨k + 1, c', d', by omega, by go_num, rfl, ⟨c, d, HS.out, hst⟩, hbl.trans (hb2.mono hbl.size)⟩
        case measure => simp [intOf]; omega
      · obtain rfl : k = len := by omega
        clear hcell
        have HS := Lib.hid hs
        clear hs
        go_wp2_with fail
        go_ret
        exact ⟨c, d, rfl, HS.out, hbl⟩

set_option maxRecDepth 100000 in
set_option maxHeartbeats 800000 in
theorem sum7 (a : Option Addr) (len cap : Nat) (V : Nat → Nat) (w : World) (h : IsF w a len cap V) :
    Calls Tryz.prog 7 #[.slice a len cap] w fun e w' => ∃ c d, e = .returned (.complex .f64 c d) ∧ Sr V len c d ∧ Below w.heap.size w w' := by
  rcases h with rfl | ⟨b, off, rfl, hlt, hl, hm, hcell⟩
  · go_enter Tryz.func7, Tryz.ntmps7
    go_wp2
    refine wp_loop_rounds 1 ?_
    rw [rounds_succ]
    go_wp2_with fail
    go_ret
    exact ⟨0, 0, rfl, ⟨rfl, rfl⟩, Below.refl _ _⟩
  · unfold maxLen at hm
    go_enter Tryz.func7, Tryz.ntmps7
    go_wp2
    go_loopw [3, 7] (fun s i w1 => ∃ k c d, k ≤ len ∧ i = .int .i64 (k : Nat) ∧ s = .complex .f64 c d ∧ Sr V k c d ∧ Below w.heap.size w w1) (fun _ i _ => len - (intOf i).toNat)
    case atStart => exact ⟨0, 0, 0, Nat.zero_le _, rfl, rfl, ⟨rfl, rfl⟩, Below.refl _ _⟩
    case round =>
      obtain ⟨k, c, d, hk, rfl, rfl, hs, hbl⟩ := hrel
      by_cases hlt2 : k < len
      · have g := hcell k hlt2
        have g' : wr.cell? ⟨b, off + k, none⟩ = some (.float .f64 (V k)) := by rw [hbl.cell hlt]; exact g
        have HS := Lib.hid hs
        have h4 : Hid ((k : Int) % 4 = ((k % 4 : Nat) : Int)) := Lib.hid (by omega)
        clear hs hcell g
        go_wp2_with (go_at_call 12; rw [h4.out]; refine (step12 _ _ _ (k % 4) (by omega) _).mono ?_; rintro e w' ⟨c', d', rfl, hst, hb2⟩)
        go_roundw
        case rel => exact ⟨k + 1, c', d', by omega, by go_num, rfl, ⟨c, d, HS.out, hst⟩, hbl.trans (hb2.mono hbl.size)⟩
        case measure => simp [intOf]; omega
      · obtain rfl : k = len := by omega
        clear hcell
        have HS := Lib.hid hs
        clear hs
        go_wp2_with fail
        go_ret
        exact ⟨c, d, rfl, HS.out, hbl⟩
end St
end Go.Proofs.YtofageoljphleaaGreatDoor
