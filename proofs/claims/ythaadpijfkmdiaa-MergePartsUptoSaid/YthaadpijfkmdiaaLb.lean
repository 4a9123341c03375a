/- theirs: files copied. -/
import Derived.Test.YthaadpijfkmdiaaLa
import Derived.Deep.DeepCutAuto
import Derived.Deep.RegionHeldLaw
namespace Go.Proofs.Ythaadpijfkmdiaa
open Go.RowKit
namespace Lb
open Jb La

set_option maxRecDepth 100000
set_option maxHeartbeats 4000000 in
theorem theirs10 (w : World) (v : Value) (L : List Inf) (h : Fi w v L) (hn : L.length * 16 ≤ 140737488355328) :
    Calls Try.prog 10 #[v] w fun e w' => ∃ r, e = .returned r ∧ w'.ownsRow w.heap.size 37 2 r L.length (fcs L) ∧ Below w.heap.size w w' := by
  obtain ⟨i0, hi, hz0, hz1, hz2⟩ := info_parts info37
  obtain ⟨a, c, rfl, hg⟩ := h.get
  have HG := Lib.hid hg
  obtain ⟨n, hN⟩ : ∃ n, n = L.length := ⟨_, rfl⟩
  rw [← hN] at hn HG ⊢
  have HN := Lib.hid hN
  clear h hg hN
  go_enter Try.func10, Try.ntmps10
  go_wp2_with fail
  go_loopw [3, 7, 4] (fun o i u wr => ∃ k, k ≤ n ∧ i = .int .i64 (k : Nat) ∧ Hid (wr.ownsRow w.heap.size 37 2 o k (fcs (L.take k))) ∧ Hid (Below w.heap.size w wr)) (fun _ i _ _ => n - (intOf i).toNat)
  case atStart => exact ⟨0, Nat.zero_le _, rfl, Lib.hid (World.ownsRow_nil _ _ _ _), Lib.hid (Below.refl _ _)⟩
  case round =>
    obtain ⟨k, hk, rfl, HO, HB⟩ := hrel
    by_cases hkn : k < n
    case neg =>
      obtain rfl : k = n := by omega
      go_wp2_with fail
      go_ret
      refine ⟨_, rfl, ?_, HB.out⟩
      have := HO.out
      rwa [List.take_of_length_le (by rw [HN.out]; exact Nat.le_refl _)] at this
    obtain ⟨b, off, rfl, hnc, hb, hT⟩ := HG.out k hkn
    obtain ⟨wa, rfl⟩ : ∃ wa, wa = wr := ⟨_, rfl⟩
    obtain ⟨x0, x1⟩ := hT wa HB.out
    have HT := Lib.hid (show fcs (L.take (k + 1)) = fcs (L.take k) ++ fc (L.getD k n0) by rw [take_snoc L (by rw [← HN.out]; exact hkn), fcs_snoc])
    generalize L.getD k n0 = x at *
    obtain ⟨x4, x5⟩ := x
    simp only at x0 x1
    have zb := HB.out.size
    have hbz : b < wa.heap.size := by omega
    have k0 : wa.drew.cell? ⟨b, off + k * 2, none⟩ = some (.int .i64 x4) ∧ wa.drew.cell? ⟨b, off + k * 2 + 1, none⟩ = some (.bool x5) := ⟨x0, x1⟩
    have bA := (Below.refl wa.heap.size wa).drew.alloc (Nat.le_refl _) (.cells #[.int .i64 x4, .bool x5] 37)
    have k1 : (wa.drew.alloc (.cells #[.int .i64 x4, .bool x5] 37)).cell? ⟨b, off + k * 2, none⟩ = some (.int .i64 x4) ∧ (wa.drew.alloc (.cells #[.int .i64 x4, .bool x5] 37)).cell? ⟨b, off + k * 2 + 1, none⟩ = some (.bool x5) := ⟨(bA.cell hbz).trans x0, (bA.cell hbz).trans x1⟩
    have hown := HO.out
    have OWN : (wa.drew.alloc (.cells #[.int .i64 x4, .bool x5] 37)).ownsRow w.heap.size 37 2 u3 k (fcs (L.take k)) := hown.drew.alloc _
    obtain ⟨oa, on, oc, ho⟩ := La.own_formsN hown
    subst ho
    have NEWC : ∀ j u, (fc (x4, x5))[j]? = some u → (wa.drew.alloc (.cells #[.int .i64 x4, .bool x5] 37)).cell? ((⟨wa.heap.size, 0, none⟩ : Addr).add j) = some u := fun j u hj => by
      have hb := heap_alloc_new wa.drew (.cells #[.int .i64 x4, .bool x5] 37)
      match j, hj with
      | 0, hj => cases hj; exact cell_at hb 0
      | 1, hj => cases hj; exact cell_at hb 1
    have XB := Lib.hid (show ∀ v' w6, w6.ownsRow w.heap.size 37 2 v' (k + 1) (fcs (L.take k) ++ fc (x4, x5)) → (wa.drew.alloc (.cells #[.int .i64 x4, .bool x5] 37)).grownBy w6 (Value.slice oa on oc).ownBlock → Below w.heap.size w w6 ∧ w6.ownsRow w.heap.size 37 2 v' (k + 1) (fcs (L.take (k + 1))) from fun v' w6 ho hg => by
      refine ⟨(HB.out.drew.alloc (by simpa using zb) _).grown hg (by simp; omega) (fun j ej => (La.own_lt hown ej).1), by rw [HT.out]; exact ho⟩)
    have KY := Lib.hid (show ∀ w6, Below w.heap.size w w6 → w6.cell? ⟨b, off + k * 2, none⟩ = some (.int .i64 x4) ∧ w6.cell? ⟨b, off + k * 2 + 1, none⟩ = some (.bool x5) from fun w6 h6 => hT w6 h6)
    have hk9 : (k + 1) * 16 ≤ 140737488355328 := by omega
    clear hT HT HG bA hown HO
    go_upto_region 5 with (fail)
    go_region_held_law (fun y : World => y.cell? ⟨b, off + k * 2, none⟩ = some (.int .i64 x4) ∧ y.cell? ⟨b, off + k * 2 + 1, none⟩ = some (.bool x5))
      (first | exact k0 | exact k1 | exact kY)
      (first | (refine La.step_append_own rfl (.tmp 10) (.tmp 22) 32 rfl w.heap.size 37 i0 _ 2 16 Try.underlying32 hi hz0 hz1 hz2 rfl (by decide) (.slice oa on oc) k (fcs (L.take k)) (by simp [Act.eval]) OWN ⟨wa.heap.size, 0, none⟩ 1 1 (fc (x4, x5)) (by simp [Act.eval]) rfl NEWC (fc_one _) (by unfold maxLen; omega) hk9 (by simp; omega) ?_; intro v' w6 hown6 hgrow; have N6 := Lib.hid (XB.out v' w6 hown6 hgrow); have kY := KY.out w6 N6.out.1; clear hown6 hgrow))
    go_wp2_with fail
    go_roundw
    case rel => exact ⟨k + 1, by omega, by go_num, Lib.hid N6.out.2, Lib.hid N6.out.1⟩
    case measure => simp [intOf]; omega
end Lb
end Go.Proofs.Ythaadpijfkmdiaa
