import Derived.Test.YtjmddomkoholoaaGreatDoorG35
import Derived.Test.YtjmddomkoholoaaGreatDoorG19
import Derived.Lib.AppendZerosOnto
import Derived.Lib.SliceRun
import Derived.Lib.Walk

/- slices.Grow and slices.Concat of bytes. -/
namespace Go.Proofs.YtjmddomkoholoaaGreatDoor
open Go.RowKit
namespace Kg
open Wr Bm Cv Kd

theorem zsize (n : Nat) : (Builtin.zeroCells #[Value.int IntKind.u8 0] n).size = n := by
  simp [Builtin.zeroCells]

set_option maxRecDepth 100000 in
theorem grow0 (w : World) (n : Nat) (h1 : 1 ≤ n) (hn : n ≤ 70368744177664) :
    Calls Tryz.prog 75 #[.slice none 0 0, .int .i64 (n : Nat)] w fun e w' => ∃ r, e = .returned r ∧ w'.ownsRow w.heap.size 5 1 r 0 [] ∧ Below w.heap.size w w' := by
  obtain ⟨i0, hi, hz0, hz1, hz2⟩ := info_parts info5
  have hrz : ∀ ty, (Builtin.append_ #[22, 3] ty #[.slice none 0 0, .int .i64 (n : Nat)]).run Tryz.prog w =
      .ok (.slice (some ⟨w.heap.size, 0, none⟩) n (grownCap w n 0 5)) (w.drew.alloc (.cells (Builtin.zeroCells #[.int .u8 0] n ++ Builtin.zeroCells #[.int .u8 0] (grownCap w n 0 5 - n)) 5)) := fun ty => by
    have h := Lib.run_append_grow_zeros (P := Tryz.prog) w 22 3 ty 5 i0 (.int .u8 0) .i64 .i64 Tryz.underlying22 Tryz.underlying3 hi hz0 none 0 0 [] (run_firstCells_none w.drew i0.size 0 0 0) n (by omega) (by omega) (by omega) (by omega) (by rw [hz2]; omega)
      (growslice_fits (by omega) (by rw [hz2]; omega))
    have hzc : (Value.int .u8 0).cells = #[.int .u8 0] := rfl
    rw [hzc] at h
    simpa using h
  have hG := grownCap_le_maxLen w n 0 5 (by unfold maxLen; omega)
  have hGn := grownCap_ge w n 0 5
  have hO : Hid ((w.drew.alloc (.cells (Builtin.zeroCells #[.int .u8 0] n ++ Builtin.zeroCells #[.int .u8 0] (grownCap w n 0 5 - n)) 5)).ownsRow w.heap.size 5 1 (.slice (some ⟨w.heap.size, 0, none⟩) 0 (grownCap w n 0 5)) 0 [] ∧ Below w.heap.size w (w.drew.alloc (.cells (Builtin.zeroCells #[.int .u8 0] n ++ Builtin.zeroCells #[.int .u8 0] (grownCap w n 0 5 - n)) 5))) :=
    Lib.hid ⟨World.ownsRow_made w.drew _ _ (Nat.le_refl _) hG (by rw [Array.size_append, zsize, zsize]; omega), (Below.refl _ _).drew.alloc (Nat.le_refl _) _⟩
  obtain ⟨G, hGe⟩ : ∃ G, G = grownCap w n 0 5 := ⟨_, rfl⟩
  rw [← hGe] at hrz hG hGn hO
  have hG63 : G ≤ 9223372036854775807 := by unfold maxLen at hG; omega
  clear hGe hG
  go_enter Tryz.func75, Tryz.ntmps75
  go_wp2_with (at_builtin; refine Lib.wpList_append_run _ rfl _ _ _ _ rfl _ _ rfl rfl _ _ (hrz _) ?_)
  go_ret
  exact ⟨_, rfl, hO.out.1, hO.out.2⟩

/-- Slices in a block's cells, one behind the other, as Concat has them. -/
theorem take_sum (ps : List (List Nat)) (k : Nat) (hk : k < ps.length) : (ps.take (k + 1)).flatten.length = (ps.take k).flatten.length + (ps.getD k []).length := by
  rw [Rl.take_flat ps k hk, List.length_append]

set_option maxRecDepth 100000 in
set_option maxHeartbeats 1000000 in
theorem concat37 (w : World) (b : Nat) (K : Nat) (ps : List (List Nat)) (hK : K = ps.length) (hK9 : K ≤ 9) (h1 : 1 ≤ ps.flatten.length) (hl : ps.flatten.length ≤ 70368744177664) (hb : b < w.heap.size)
    (hc : ∀ i, i < K → ∃ s, w.cell? ⟨b, i, none⟩ = some s ∧ Rl.Pz w s (ps.getD i [])) :
    Calls Tryz.prog 48 #[.slice (some ⟨b, 0, none⟩) K K] w fun e w' => ∃ r, e = .returned r ∧ w'.ownsRow w.heap.size 5 1 r ps.flatten.length (u8s ps.flatten) ∧ Below w.heap.size w w' := by
  obtain ⟨i0, hi, hz0, hz1, hz2⟩ := info_parts info5
  have HALL : Hid (K = ps.length) := Lib.hid hK
  have HC := Lib.hid hc
  have HL := Lib.hid hl
  clear hc hl hK
  go_enter Tryz.func48, Tryz.ntmps48
  go_wp2_with fail
  go_loop [3, 5, 11] (fun z _ i => ∃ k, k ≤ K ∧ i = .int .i64 (k : Nat) ∧ z = .int .i64 ((ps.take k).flatten.length : Nat)) (fun _ _ i => K - (intOf i).toNat)
  case atStart => exact ⟨0, Nat.zero_le _, rfl, rfl⟩
  case round =>
    obtain ⟨k, hk, rfl, rfl⟩ := hrel
    by_cases hkn : k < K
    · obtain ⟨s, e1, g, c, rfl, hcell⟩ := HC.out k hkn
      have hf := Rl.flat_get ps k (by have := HALL.out; omega)
      have hs := take_sum ps k (by have := HALL.out; omega)
      have hll := HL.out
      obtain ⟨Q, hQ⟩ : ∃ Q, Q = (ps.getD k []).length := ⟨_, rfl⟩
      obtain ⟨R, hR⟩ : ∃ R, R = (ps.take k).flatten.length := ⟨_, rfl⟩
      rw [← hQ] at e1 hf hs
      rw [← hR] at hf hs ⊢
      have HS := Lib.hid hs
      have hb2 : R + Q ≤ 70368744177664 := by omega
      clear hcell hQ hR hs hf hll
      have hge : ¬ ((R : Int) + (Q : Int) < 0) := by omega
      go_wp2_with fail
      go_round
      case rel => exact ⟨k + 1, by omega, by go_num, by rw [HS.out]; go_num⟩
      case measure => simp [intOf]; omega
    · obtain rfl : k = K := by omega
      have htk : (ps.take k).flatten.length = ps.flatten.length := by rw [List.take_of_length_le (by have := HALL.out; omega)]
      rw [htk]
      have FG := Lib.hid (grow0 w ps.flatten.length h1 HL.out)
      obtain ⟨Z, hZ⟩ : ∃ Z, Z = ps.flatten.length := ⟨_, rfl⟩
      rw [← hZ] at FG h1 ⊢
      have HZ := Lib.hid hZ
      clear htk hZ
      go_wp2_with fail
      refine FG.out.mono ?_
      rintro e w2 ⟨r2, rfl, o2, b2⟩
      have O2 := Lib.hid o2
      have B2 := Lib.hid b2
      clear o2 b2
      go_wp2_with fail
      go_loopw [6, 8, 27] (fun o _ i wr => ∃ j, j ≤ k ∧ i = .int .i64 (j : Nat) ∧ wr.ownsRow w.heap.size 5 1 o (ps.take j).flatten.length (u8s (ps.take j).flatten) ∧ Below w.heap.size w wr) (fun _ _ i _ => k - (intOf i).toNat)
      case atStart => exact ⟨0, Nat.zero_le _, rfl, O2.out, B2.out⟩
      case round =>
        obtain ⟨j, hj, rfl, ho, hbl⟩ := hrel
        by_cases hjk : j < k
        · obtain ⟨s, hs, hP⟩ := HC.out j hjk
          obtain ⟨g, c, rfl, hcell⟩ := hP.below hbl
          have e1 := (hbl.cell hb).trans hs
          have hf := Rl.take_flat ps j (by have := HALL.out; omega)
          have hfl := Rl.flat_get ps j (by have := HALL.out; omega)
          have hll := HL.out
          obtain ⟨bs, hbs⟩ : ∃ bs, bs = ps.getD j [] := ⟨_, rfl⟩
          obtain ⟨pre, hpre⟩ : ∃ pre, pre = (ps.take j).flatten := ⟨_, rfl⟩
          rw [← hbs] at hcell hf hfl e1
          rw [← hpre] at hf hfl ho
          have hsum : pre.length + bs.length ≤ 70368744177664 := by omega
          have HF : Hid (u8s (ps.take (j + 1)).flatten = u8s pre ++ u8s bs ∧ (ps.take (j + 1)).flatten.length = pre.length + bs.length) := Lib.hid ⟨by rw [hf]; simp [u8s], by rw [hf, List.length_append]⟩
          have hul := u8s_len bs
          have HONE : Hid (∀ u ∈ u8s bs, u.oneCell' = true) := Lib.hid fun u hu => by simp [u8s] at hu; obtain ⟨x, _, rfl⟩ := hu; rfl
          obtain ⟨Q, hQ⟩ : ∃ Q, Q = bs.length := ⟨_, rfl⟩
          obtain ⟨R, hR⟩ : ∃ R, R = pre.length := ⟨_, rfl⟩
          rw [← hQ] at hsum HF hul e1
          rw [← hR] at ho HF hsum
          have HCL := Lib.hid hcell
          have HB := Lib.hid hbl
          have hbs2 := hbl.size
          have hown := ho
          clear ho hbl hcell hf hfl hbs hpre hll hP hs hQ hR
          go_wp2_with (at_builtin; refine wpList_append_own _ rfl (.tmp 31) (.tmp 32) 22 rfl w.heap.size 5 i0 (.int .u8 0) 1 1 Tryz.underlying22 hi hz0 hz1 hz2 rfl (by decide) _ R _ rfl hown ⟨g, 0, none⟩ Q c (u8s bs) rfl (by rw [hul]; omega) ?c1 ?c2 ?c3 ?c4 ?c5 ?_)
          case c1 => exact HCL.out
          case c2 => exact HONE.out
          case c3 => unfold maxLen; omega
          case c4 => omega
          case c5 => omega
          intro v' w3 hown' hgrow _
          have b3 := Lib.hid (Below.grown HB.out hgrow hbs2 (fun r hr => (hown.lt r hr).1))
          clear hgrow
          have hO3 := Lib.hid hown'
          clear hown'
          go_wp2_with fail
          go_roundw
          case rel => exact ⟨j + 1, by omega, by go_num, by rw [HF.out.1, HF.out.2]; exact hO3.out, b3.out⟩
          case measure => simp [intOf]; omega
        · obtain rfl : j = k := by omega
          have HB := Lib.hid hbl
          have HO := Lib.hid ho
          clear ho hbl
          go_wp2_with fail
          go_ret
          refine ⟨_, rfl, ?_, HB.out⟩
          have h1 := HO.out
          rw [List.take_of_length_le (by have := HALL.out; omega)] at h1
          exact h1

theorem pz_own {w : World} {B n : Nat} {s : Value} {bs : List Nat} (h : w.ownsRow B 5 1 s n (u8s bs)) (hn : n = bs.length) (h0 : 0 < n) : Rl.Pz w s bs := by
  obtain ⟨g, c, rfl⟩ := Go.Joins.ownsRow_form h h0
  exact ⟨g, c, by rw [hn], h.cells rfl⟩
theorem new_cell (w : World) (vs : Array Value) (t : TypeId) (i : Nat) (v : Value) (h : vs[i]? = some v) : (w.alloc (.cells vs t)).cell? ⟨w.heap.size, i, none⟩ = some v := by
  rw [cell_of_row _ _ _ _ _ _ (heap_alloc_new _ _)]; exact h
theorem concat3n (x : World) (bb : Nat) (hbb : x.heap.size = bb) (s1 s2 s3 : Value) (p1 p2 p3 : List Nat) (P1 : Rl.Pz x s1 p1) (P2 : Rl.Pz x s2 p2) (P3 : Rl.Pz x s3 p3) (l0 : 1 ≤ p1.length) (l1 : p1.length ≤ 1000000000) (l2 : p2.length ≤ 1000000000) (l3 : p3.length ≤ 1000000000) :
    Calls Tryz.prog 48 #[.slice (some ⟨bb, 0, none⟩) 3 3] (x.alloc (.cells #[s1, s2, s3] 22)) fun e w' => ∃ r, e = .returned r ∧ w'.ownsRow x.heap.size 5 1 r (p1 ++ (p2 ++ p3)).length (u8s (p1 ++ (p2 ++ p3))) ∧ Below x.heap.size x w' := by
  subst hbb
  have b := (Below.refl x.heap.size x).alloc (Nat.le_refl _) (.cells #[s1, s2, s3] 22)
  have h := concat37 (x.alloc (.cells #[s1, s2, s3] 22)) x.heap.size 3 [p1, p2, p3] rfl (by decide) (by simp; omega) (by simp; omega) (by simp) (fun i hi => by
    match i, hi with
    | 0, _ => exact ⟨s1, new_cell _ _ _ 0 _ rfl, P1.below b⟩
    | 1, _ => exact ⟨s2, new_cell _ _ _ 1 _ rfl, P2.below b⟩
    | 2, _ => exact ⟨s3, new_cell _ _ _ 2 _ rfl, P3.below b⟩)
  refine h.mono ?_
  rintro e w' ⟨r, rfl, ho, bl⟩
  refine ⟨r, rfl, ?_, b.trans (bl.mono b.size)⟩
  have := Go.Joins.ownsRow_le ho b.size
  simpa using this
end Kg
end Go.Proofs.YtjmddomkoholoaaGreatDoor
