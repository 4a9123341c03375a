/- slices.Grow, slices.Concat. -/
import Derived.Test.YthaadpijfkmdiaaNa
import Derived.Lib.Walk
import Derived.Lib.SliceRun
import Derived.Lib.AppendZerosOnto
import Derived.Deep.DeepCutAuto
namespace Go.Proofs.Ythaadpijfkmdiaa
open Go.RowKit
namespace Ngt
open Jb La Nm Na

theorem infoE : (Try.prog.info? 65).map (fun i => (i.zero, i.size, i.bytes)) = some (some (.agg #[.int .i64 0, .int .i64 0, .int .u64 0, .string ⟨#[]⟩]), 4, 40) := by kernel_rfl
theorem zc_size (n : Nat) : (Builtin.zeroCells (#[.int .i64 0, .int .i64 0, .int .u64 0, .string ⟨#[]⟩] : Array Value) n).size = n * 4 := by
  simp [Builtin.zeroCells]
set_option maxRecDepth 100000 in
theorem grow_0 (w : World) : Calls Try.prog 39 #[.slice none 0 0, .int .i64 0] w fun e w' => ∃ r, e = .returned r ∧ w'.ownsRow w.heap.size 65 4 r 0 [] ∧ Below w.heap.size w w' := by
  go_enter Try.func39, Try.ntmps39
  go_wp2_with fail
  go_ret
  exact ⟨_, rfl, World.ownsRow_nil _ _ _ _, Below.refl _ _⟩
set_option maxRecDepth 100000 in
theorem grow_1 (w : World) (n : Nat) (h1 : 1 ≤ n) (hn : n ≤ 1000000000) :
    Calls Try.prog 39 #[.slice none 0 0, .int .i64 (n : Nat)] w fun e w' => ∃ r, e = .returned r ∧ w'.ownsRow w.heap.size 65 4 r 0 [] ∧ Below w.heap.size w w' := by
  obtain ⟨i0, hi, hz0, hz1, hz2⟩ := info_parts infoE
  have hrz : ∀ ty, (Builtin.append_ #[40, 3] ty #[.slice none 0 0, .int .i64 (n : Nat)]).run Try.prog w =
      .ok (.slice (some ⟨w.heap.size, 0, none⟩) n (grownCap w n 0 65)) (w.drew.alloc (.cells (Builtin.zeroCells #[.int .i64 0, .int .i64 0, .int .u64 0, .string ⟨#[]⟩] n ++ Builtin.zeroCells #[.int .i64 0, .int .i64 0, .int .u64 0, .string ⟨#[]⟩] (grownCap w n 0 65 - n)) 65)) := fun ty => by
    have h := Lib.run_append_grow_zeros (P := Try.prog) w 40 3 ty 65 i0 _ .i64 .i64 Try.underlying40 Try.underlying3 hi hz0 none 0 0 [] (run_firstCells_none w.drew i0.size 0 0 0) n (by omega) (by omega) (by omega) (by omega) (by rw [hz2]; omega)
      (growslice_fits (by omega) (by rw [hz2]; omega))
    have hzc : (Value.agg #[.int .i64 0, .int .i64 0, .int .u64 0, .string ⟨#[]⟩]).cells = #[.int .i64 0, .int .i64 0, .int .u64 0, .string ⟨#[]⟩] := rfl
    rw [hzc] at h
    simpa using h
  have hG := grownCap_le_maxLen w n 0 65 (by unfold maxLen; omega)
  have hGn := grownCap_ge w n 0 65
  have hO : Hid ((w.drew.alloc (.cells (Builtin.zeroCells #[.int .i64 0, .int .i64 0, .int .u64 0, .string ⟨#[]⟩] n ++ Builtin.zeroCells #[.int .i64 0, .int .i64 0, .int .u64 0, .string ⟨#[]⟩] (grownCap w n 0 65 - n)) 65)).ownsRow w.heap.size 65 4 (.slice (some ⟨w.heap.size, 0, none⟩) 0 (grownCap w n 0 65)) 0 [] ∧ Below w.heap.size w (w.drew.alloc (.cells (Builtin.zeroCells #[.int .i64 0, .int .i64 0, .int .u64 0, .string ⟨#[]⟩] n ++ Builtin.zeroCells #[.int .i64 0, .int .i64 0, .int .u64 0, .string ⟨#[]⟩] (grownCap w n 0 65 - n)) 65))) :=
    Lib.hid ⟨World.ownsRow_made w.drew _ _ (Nat.le_refl _) hG (by rw [Array.size_append, zc_size, zc_size]; omega), (Below.refl _ _).drew.alloc (Nat.le_refl _) _⟩
  obtain ⟨G, hGe⟩ : ∃ G, G = grownCap w n 0 65 := ⟨_, rfl⟩
  rw [← hGe] at hrz hG hGn hO
  have hG63 : G ≤ 9223372036854775807 := by unfold maxLen at hG; omega
  clear hGe hG
  go_enter Try.func39, Try.ntmps39
  go_wp2_with (at_builtin; refine Lib.wpList_append_run _ rfl _ _ _ _ rfl _ _ rfl rfl _ _ (hrz _) ?_)
  go_ret
  exact ⟨_, rfl, hO.out.1, hO.out.2⟩
theorem grow39 (w : World) (n : Nat) (hn : n ≤ 1000000000) :
    Calls Try.prog 39 #[.slice none 0 0, .int .i64 (n : Nat)] w fun e w' => ∃ r, e = .returned r ∧ w'.ownsRow w.heap.size 65 4 r 0 [] ∧ Below w.heap.size w w' := by
  by_cases h : n = 0
  · subst h; exact grow_0 w
  · exact grow_1 w n (by omega) hn
theorem take_flat (ps : List (List V4)) (k : Nat) (hk : k < ps.length) : (ps.take (k + 1)).flatten = (ps.take k).flatten ++ ps.getD k [] := by
  rw [List.take_add_one, List.flatten_append, List.getElem?_eq_getElem hk, List.getD_eq_getElem?_getD, List.getElem?_eq_getElem hk]
  simp
theorem take_sum (ps : List (List V4)) (k : Nat) (hk : k < ps.length) : (ps.take (k + 1)).flatten.length = (ps.take k).flatten.length + (ps.getD k []).length := by
  rw [take_flat ps k hk, List.length_append]
theorem sum_le (ps : List (List V4)) (k : Nat) : (ps.take k).flatten.length ≤ ps.flatten.length := by
  conv => rhs; rw [← List.take_append_drop k ps, List.flatten_append, List.length_append]
  omega
set_option maxRecDepth 100000 in
set_option maxHeartbeats 4000000 in
theorem concat33 (w : World) (v : Value) (ps : List (List V4)) (h : Rr w v ps) (hK9 : ps.length ≤ 1000000000) (hl : ps.flatten.length ≤ 1000000000) (h1 : ∀ x ∈ ps.flatten, One x) :
    Calls Try.prog 33 #[v] w fun e w' => ∃ r, e = .returned r ∧ w'.ownsRow w.heap.size 65 4 r ps.flatten.length (c4s ps.flatten) ∧ Below w.heap.size w w' := by
  obtain ⟨i0, hi, hz0, hz1, hz2⟩ := info_parts infoE
  obtain ⟨a, c, rfl, hg⟩ := h
  obtain ⟨K, hK⟩ : ∃ K, K = ps.length := ⟨_, rfl⟩
  have HALL : Hid (K = ps.length) := Lib.hid hK
  rw [← hK] at hg hK9 ⊢
  have HC := Lib.hid hg
  have HL := Lib.hid hl
  have HO1 := Lib.hid h1
  clear hg hl hK h1
  go_enter Try.func33, Try.ntmps33
  go_wp2_with fail
  go_loop [3, 5, 11] (fun z _ i => ∃ k, k ≤ K ∧ i = .int .i64 (k : Nat) ∧ z = .int .i64 ((ps.take k).flatten.length : Nat)) (fun _ _ i => K - (intOf i).toNat)
  case atStart => exact ⟨0, Nat.zero_le _, rfl, rfl⟩
  case round =>
    obtain ⟨k, hk, rfl, rfl⟩ := hrel
    by_cases hkn : k < K
    · obtain ⟨b, off, s, rfl, hnc, hb, e1, hS⟩ := HC.out k hkn
      have hs := take_sum ps k (by have := HALL.out; omega)
      have hll := HL.out
      have hsl := sum_le ps (k + 1)
      obtain ⟨sa, sc, rfl⟩ := hS.forms
      obtain ⟨Q, hQ⟩ : ∃ Q, Q = (ps.getD k []).length := ⟨_, rfl⟩
      obtain ⟨R, hR⟩ : ∃ R, R = (ps.take k).flatten.length := ⟨_, rfl⟩
      rw [← hQ] at e1 hs
      rw [← hR] at hs ⊢
      have HS := Lib.hid hs
      have hb2 : R + Q ≤ 1000000000 := by omega
      clear hS hQ hR hs hll hsl
      have hge : ¬ ((R : Int) + (Q : Int) < 0) := by omega
      go_wp2_with fail
      go_round
      case rel => exact ⟨k + 1, by omega, by go_num, by rw [HS.out]; go_num⟩
      case measure => simp [intOf]; omega
    · obtain rfl : k = K := by omega
      have htk : (ps.take k).flatten.length = ps.flatten.length := by rw [List.take_of_length_le (by have := HALL.out; omega)]
      rw [htk]
      have FG := Lib.hid (grow39 w ps.flatten.length HL.out)
      obtain ⟨Z, hZ⟩ : ∃ Z, Z = ps.flatten.length := ⟨_, rfl⟩
      rw [← hZ] at FG ⊢
      have HZ := Lib.hid hZ
      clear htk hZ
      go_wp2_with fail
      refine FG.out.mono ?_
      rintro e w2 ⟨r2, rfl, o2, b2⟩
      have O2 := Lib.hid o2
      have B2 := Lib.hid b2
      clear o2 b2
      go_wp2_with fail
      go_loopw [6, 8, 27] (fun o _ i wr => ∃ j, j ≤ k ∧ i = .int .i64 (j : Nat) ∧ Hid (wr.ownsRow w.heap.size 65 4 o (ps.take j).flatten.length (c4s (ps.take j).flatten)) ∧ Hid (Below w.heap.size w wr)) (fun _ _ i _ => k - (intOf i).toNat)
      case atStart => exact ⟨0, Nat.zero_le _, rfl, O2, B2⟩
      case round =>
        obtain ⟨j, hj, rfl, ho, hbl⟩ := hrel
        obtain ⟨wa, rfl⟩ : ∃ wa, wa = wr := ⟨_, rfl⟩
        obtain ⟨oa, oc, he⟩ := own_forms ho.out
        subst he
        by_cases hjk : j < k
        · obtain ⟨b, off, s, rfl, hnc, hb, e1, hS⟩ := HC.out j hjk
          have e1 := (hbl.out.cell (p := ⟨b, off + j, none⟩) hb).trans e1
          have hbw : b < wa.heap.size := Nat.lt_of_lt_of_le hb hbl.out.size
          have SS := Lib.hid (hS.below hbl.out (Nat.le_refl _))
          have hf := take_flat ps j (by have := HALL.out; omega)
          have hs := take_sum ps j (by have := HALL.out; omega)
          have hsl := sum_le ps (j + 1)
          have hll := HL.out
          obtain ⟨sa, sc, rfl⟩ := hS.forms
          have H1 := Lib.hid (show ∀ x ∈ ps.getD j [], One x from fun x hx => HO1.out x (by
            have hj9 : j < ps.length := by have := HALL.out; omega
            rw [List.getD_eq_getElem?_getD, List.getElem?_eq_getElem hj9] at hx
            exact List.mem_flatten.2 ⟨_, List.getElem_mem hj9, hx⟩))
          have HF := Lib.hid (show c4s (ps.take (j + 1)).flatten = c4s (ps.take j).flatten ++ c4s (ps.getD j []) ∧ (ps.take (j + 1)).flatten.length = (ps.take j).flatten.length + (ps.getD j []).length from ⟨by rw [hf, c4s_app], hs⟩)
          have hb9 : (ps.take j).flatten.length + (ps.getD j []).length ≤ 1000000000 := by omega
          obtain ⟨q, hq⟩ : ∃ q, q = ps.getD j [] := ⟨_, rfl⟩
          obtain ⟨p, hp⟩ : ∃ p, p = (ps.take j).flatten := ⟨_, rfl⟩
          rw [← hq] at e1 SS H1 HF hb9
          rw [← hp] at ho HF hb9 ⊢
          have HO2 := ho
          have HB := hbl
          clear hS hf hs hsl hll hq hp ho hbl
          go_wp2_with (at_builtin; refine wpList_append_sl rfl (.tmp 31) (.tmp 32) 40 rfl w.heap.size 65 i0 _ 40 Try.underlying40 hi hz0 hz1 hz2 rfl (.slice oa p.length oc) p.length (c4s p) rfl HO2.out _ q rfl SS.out H1.out (by unfold maxLen; omega) (by omega) HB.out.size ?_)
          intro v6 w6 o6 g6
          have B6 := Lib.hid (HB.out.grown g6 HB.out.size (fun j ej => (La.own_lt HO2.out ej).1))
          have O6 := Lib.hid o6
          clear o6 g6
          go_wp2_with fail
          go_roundw
          case rel => exact ⟨j + 1, by omega, by go_num, Lib.hid (by rw [HF.out.1, HF.out.2]; exact O6.out), B6⟩
          case measure => simp [intOf]; omega
        · obtain rfl : j = k := by omega
          go_wp2_with fail
          go_ret
          have et : (ps.take j).flatten = ps.flatten := by rw [List.take_of_length_le (by have := HALL.out; omega)]
          refine ⟨_, rfl, ?_, hbl.out⟩
          show wa.ownsRow _ _ _ (.slice oa (ps.take j).flatten.length oc) _ _
          have h1 := ho.out
          rw [et] at h1 ⊢
          exact h1
end Ngt
end Go.Proofs.Ythaadpijfkmdiaa
