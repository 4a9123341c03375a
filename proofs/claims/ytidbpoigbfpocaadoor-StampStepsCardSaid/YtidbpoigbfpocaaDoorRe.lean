/- The document's side: widths, Eight, ReadAt. -/
import Derived.Test.YtidbpoigbfpocaaDoorPa
namespace Go.Proofs.YtidbpoigbfpocaaDoor
open Go.RowKit
namespace Rp
open Mt Wr Bm Pk

/-- The widths lie in block G. -/
def TabAt (w : World) (G : Nat) : Prop := G < w.heap.size ∧ ∀ s, s < 14 → w.cell? ⟨G, s, none⟩ = some (.int .i64 (W s : Nat))
theorem TabAt.below {w w' : World} {G B : Nat} (h : TabAt w G) (b : Below B w w') (hB : G < B) : TabAt w' G :=
  ⟨Nat.lt_of_lt_of_le h.1 b.size, fun s hs => (b.cell hB).trans (h.2 s hs)⟩

set_option maxRecDepth 100000 in
theorem widths13 (w : World) : Calls Tryd.prog 31 #[] w fun e w' => e = .returned (.slice (some ⟨w.heap.size, 0, none⟩) 14 14) ∧ TabAt w' w.heap.size ∧ Below w.heap.size w w' := by
  go_enter Tryd.func31, Tryd.ntmps31
  go_wp2_with fail
  go_ret
  refine ⟨rfl, ⟨by simp, fun s hs => ?_⟩, (Below.refl _ _).alloc (Nat.le_refl _) _⟩
  rw [cell_of_row _ _ _ _ _ _ (heap_alloc_new _ _)]
  have : ∀ s : Fin 14, (#[Value.int .i64 1, .int .i64 2, .int .i64 3, .int .i64 4, .int .i64 5, .int .i64 6, .int .i64 7, .int .i64 8, .int .i64 10, .int .i64 12, .int .i64 15, .int .i64 20, .int .i64 30, .int .i64 60] : Array Value)[s.1]? = some (.int .i64 (W s.1 : Nat)) := by
    intro s
    match s with
    | 0 => rfl | 1 => rfl | 2 => rfl | 3 => rfl | 4 => rfl | 5 => rfl | 6 => rfl | 7 => rfl | 8 => rfl | 9 => rfl | 10 => rfl | 11 => rfl | 12 => rfl | 13 => rfl
  exact this ⟨s, hs⟩

set_option maxRecDepth 100000 in
set_option maxHeartbeats 1000000 in
theorem eight14 (w : World) (x : Nat) :
    Calls Tryd.prog 17 #[.int .u64 (x : Nat)] w fun e w' => ∃ g c, e = .returned (.slice (some ⟨g, 0, none⟩) 8 c) ∧ w'.ownsRow w.heap.size 5 1 (.slice (some ⟨g, 0, none⟩) 8 c) 8 (u8s (eight x)) ∧ Below w.heap.size w w' := by
  obtain ⟨i0, hi, hz0, hz1, hz2⟩ := info_parts info5
  go_enter Tryd.func17, Tryd.ntmps17
  go_wp2_with fail
  go_loopw [5, 3] (fun i o wr => ∃ k, k ≤ 8 ∧ i = .int .i64 (k : Nat) ∧ wr.ownsRow w.heap.size 5 1 o k (u8s ((eight x).take k)) ∧ Below w.heap.size w wr) (fun i _ _ => 8 - (intOf i).toNat)
  case atStart => exact ⟨0, Nat.zero_le _, rfl, World.ownsRow_nil _ _ _ _, Below.refl _ _⟩
  case round =>
    obtain ⟨k, hk, rfl, ho, hb⟩ := hrel
    by_cases hk8 : k < 8
    · have hown := ho
      have hB := Lib.hid hb
      have hbs := hb.size
      have h0 : (0 : Int) ≤ 56 - 8 * (k : Int) := by omega
      have h1 : (56 - 8 * (k : Int)).toNat = 56 - 8 * k := by omega
      obtain ⟨y, hy⟩ : ∃ y, y = x / 2 ^ (56 - 8 * k) % 256 := ⟨_, rfl⟩
      have hyi : (x : Int) / 2 ^ (56 - 8 * k) % 256 = ((y : Nat) : Int) := by rw [hy]; push_cast; rfl
      have HY : Hid ((eight x).take (k + 1) = (eight x).take k ++ [y]) := Lib.hid (by
        have : k = 0 ∨ k = 1 ∨ k = 2 ∨ k = 3 ∨ k = 4 ∨ k = 5 ∨ k = 6 ∨ k = 7 := by omega
        rw [hy]
        rcases this with rfl | rfl | rfl | rfl | rfl | rfl | rfl | rfl <;> simp [eight])
      clear ho hb hy
      go_wp2_with (at_builtin; refine wpList_append_own _ rfl (.tmp 8) (.tmp 16) 24 rfl w.heap.size 5 i0 (.int .u8 0) 1 1 Tryd.underlying24 hi hz0 hz1 hz2 rfl (by decide) _ _ _ rfl (hown.alloc _) ⟨wr.heap.size, 0, none⟩ 1 1 [.int .u8 (y : Nat)] rfl rfl ?c1 ?c2 ?c3 ?c4 ?c5 ?_)
      case c1 => exact cell_one_new _ _ _
      case c2 => intro u hu; simp at hu; subst hu; rfl
      case c3 => unfold maxLen; omega
      case c4 => omega
      case c5 => simp; omega
      intro v' w2 hown' hgrow _
      have b2 := Lib.hid (Below.grown (hB.out.alloc (Nat.le_trans (Nat.le_refl _) hbs) _) hgrow (by simp; omega) (fun r hr => (hown.lt r hr).1))
      clear hgrow
      have hO2 := Lib.hid hown'
      clear hown'
      go_wp2_with fail
      go_roundw
      case rel => exact ⟨k + 1, by omega, by go_num, by rw [HY.out, u8s_snoc]; exact hO2.out, b2.out⟩
      case measure => simp [intOf]; omega
    · obtain rfl : k = 8 := by omega
      have hB := Lib.hid hb
      obtain ⟨g, c, rfl⟩ := Go.Joins.ownsRow_form ho (by omega)
      have hO := Lib.hid ho
      clear hb ho
      go_wp2_with fail
      go_ret
      exact ⟨g, c, rfl, hO.out, hB.out⟩
end Rp
end Go.Proofs.YtidbpoigbfpocaaDoor
