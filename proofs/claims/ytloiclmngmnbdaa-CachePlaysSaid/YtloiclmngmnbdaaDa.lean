/- slices.Grow and slices.Concat of points. -/
import Derived.Test.YtloiclmngmnbdaaLi
import Derived.Lib.Walk
import Derived.Lib.SliceRun
namespace Go.Proofs.Ytloiclmngmnbdaa
open Go.RowKit Go.Maps Go.ChangeMaps Go.MapKept
namespace Da
open Jb Ca Ck Ct Cd Ls Lb Lc Ld Li

theorem zc_size (n : Nat) : (Builtin.zeroCells (#[.int .i64 0, .int .i64 0, .int .u64 0, .string ⟨#[]⟩] : Array Value) n).size = n * 4 := by
  simp [Builtin.zeroCells]
set_option maxRecDepth 100000 in
theorem grow60_0 (w : World) : Calls Try.prog 60 #[.slice none 0 0, .int .i64 0] w fun e w' => ∃ r, e = .returned r ∧ w'.ownsRow w.heap.size 32 4 r 0 [] ∧ Below w.heap.size w w' := by
  go_enter Try.func60, Try.ntmps60
  go_wp2_with fail
  go_ret
  exact ⟨_, rfl, World.ownsRow_nil _ _ _ _, Below.refl _ _⟩
set_option maxRecDepth 100000 in
theorem grow60_1 (w : World) (n : Nat) (h1 : 1 ≤ n) (hn : n ≤ 1000000) :
    Calls Try.prog 60 #[.slice none 0 0, .int .i64 (n : Nat)] w fun e w' => ∃ r, e = .returned r ∧ w'.ownsRow w.heap.size 32 4 r 0 [] ∧ Below w.heap.size w w' := by
  obtain ⟨i0, hi, hz0, hz1, hz2⟩ := info_parts infoP
  have hrz : ∀ ty, (Builtin.append_ #[43, 3] ty #[.slice none 0 0, .int .i64 (n : Nat)]).run Try.prog w =
      .ok (.slice (some ⟨w.heap.size, 0, none⟩) n (grownCap w n 0 32)) (w.drew.alloc (.cells (Builtin.zeroCells #[.int .i64 0, .int .i64 0, .int .u64 0, .string ⟨#[]⟩] n ++ Builtin.zeroCells #[.int .i64 0, .int .i64 0, .int .u64 0, .string ⟨#[]⟩] (grownCap w n 0 32 - n)) 32)) := fun ty => by
    have h := Lib.run_append_grow_zeros (P := Try.prog) w 43 3 ty 32 i0 _ .i64 .i64 Try.underlying43 Try.underlying3 hi hz0 none 0 0 [] (run_firstCells_none w.drew i0.size 0 0 0) n (by omega) (by omega) (by omega) (by omega) (by rw [hz2]; omega)
      (growslice_fits (by omega) (by rw [hz2]; omega))
    have hzc : (Value.agg #[.int .i64 0, .int .i64 0, .int .u64 0, .string ⟨#[]⟩]).cells = #[.int .i64 0, .int .i64 0, .int .u64 0, .string ⟨#[]⟩] := rfl
    rw [hzc] at h
    simpa using h
  have hG := grownCap_le_maxLen w n 0 32 (by unfold maxLen; omega)
  have hGn := grownCap_ge w n 0 32
  have hO : Hid ((w.drew.alloc (.cells (Builtin.zeroCells #[.int .i64 0, .int .i64 0, .int .u64 0, .string ⟨#[]⟩] n ++ Builtin.zeroCells #[.int .i64 0, .int .i64 0, .int .u64 0, .string ⟨#[]⟩] (grownCap w n 0 32 - n)) 32)).ownsRow w.heap.size 32 4 (.slice (some ⟨w.heap.size, 0, none⟩) 0 (grownCap w n 0 32)) 0 [] ∧ Below w.heap.size w (w.drew.alloc (.cells (Builtin.zeroCells #[.int .i64 0, .int .i64 0, .int .u64 0, .string ⟨#[]⟩] n ++ Builtin.zeroCells #[.int .i64 0, .int .i64 0, .int .u64 0, .string ⟨#[]⟩] (grownCap w n 0 32 - n)) 32))) :=
    Lib.hid ⟨World.ownsRow_made w.drew _ _ (Nat.le_refl _) hG (by rw [Array.size_append, zc_size, zc_size]; omega), (Below.refl _ _).drew.alloc (Nat.le_refl _) _⟩
  obtain ⟨G, hGe⟩ : ∃ G, G = grownCap w n 0 32 := ⟨_, rfl⟩
  rw [← hGe] at hrz hG hGn hO
  have hG63 : G ≤ 9223372036854775807 := by unfold maxLen at hG; omega
  clear hGe hG
  go_enter Try.func60, Try.ntmps60
  go_wp2_with (at_builtin; refine Lib.wpList_append_run _ rfl _ _ _ _ rfl _ _ rfl rfl _ _ (hrz _) ?_)
  go_ret
  exact ⟨_, rfl, hO.out.1, hO.out.2⟩
theorem grow60 (w : World) (n : Nat) (hn : n ≤ 1000000) :
    Calls Try.prog 60 #[.slice none 0 0, .int .i64 (n : Nat)] w fun e w' => ∃ r, e = .returned r ∧ w'.ownsRow w.heap.size 32 4 r 0 [] ∧ Below w.heap.size w w' := by
  by_cases h : n = 0
  · subst h; exact grow60_0 w
  · exact grow60_1 w n (by omega) hn
/-- A slice of these points, for reading. -/
def Pz (w : World) (s : Value) (L : List Pnt) : Prop := ∃ g c, ∃ off : Nat, s = .slice (some ⟨g, off, none⟩) L.length c ∧ g < w.heap.size ∧ ∀ j u, (pcs L)[j]? = some u → w.cell? ⟨g, off + j, none⟩ = some u
theorem Pz.below {w w' : World} {s : Value} {L : List Pnt} {B : Nat} (h : Pz w s L) (b : Below B w w') (hB : w.heap.size ≤ B) : Pz w' s L := by
  obtain ⟨g, c, off, e, hg, hc⟩ := h
  exact ⟨g, c, off, e, Nat.lt_of_lt_of_le hg b.size, fun j u hj => (World.cell?_of_block (b.block g (by omega))).trans (hc j u hj)⟩
theorem take_flat (ps : List (List Pnt)) (k : Nat) (hk : k < ps.length) : (ps.take (k + 1)).flatten = (ps.take k).flatten ++ ps.getD k [] := by
  rw [List.take_add_one, List.flatten_append, List.getElem?_eq_getElem hk, List.getD_eq_getElem?_getD, List.getElem?_eq_getElem hk]
  simp
theorem take_sum (ps : List (List Pnt)) (k : Nat) (hk : k < ps.length) : (ps.take (k + 1)).flatten.length = (ps.take k).flatten.length + (ps.getD k []).length := by
  rw [take_flat ps k hk, List.length_append]
theorem sum_le (ps : List (List Pnt)) (k : Nat) : (ps.take k).flatten.length ≤ ps.flatten.length := by
  conv => rhs; rw [← List.take_append_drop k ps, List.flatten_append, List.length_append]
  omega
set_option maxRecDepth 100000 in
set_option maxHeartbeats 1000000 in
theorem concat44 (w : World) (b : Nat) (K c : Nat) (ps : List (List Pnt)) (hK : K = ps.length) (hK9 : K ≤ 9) (hl : ps.flatten.length ≤ 1000000) (hb : b < w.heap.size)
    (hc : ∀ i, i < K → ∃ s, w.cell? ⟨b, i, none⟩ = some s ∧ Pz w s (ps.getD i [])) :
    Calls Try.prog 44 #[.slice (some ⟨b, 0, none⟩) K c] w fun e w' => ∃ r, e = .returned r ∧ w'.ownsRow w.heap.size 32 4 r ps.flatten.length (pcs ps.flatten) ∧ Below w.heap.size w w' := by
  obtain ⟨i0, hi, hz0, hz1, hz2⟩ := info_parts infoP
  have HALL : Hid (K = ps.length) := Lib.hid hK
  have HC := Lib.hid hc
  have HL := Lib.hid hl
  clear hc hl hK
  go_enter Try.func44, Try.ntmps44
  go_wp2_with fail
  go_loop [3, 5, 11] (fun z _ i => ∃ k, k ≤ K ∧ i = .int .i64 (k : Nat) ∧ z = .int .i64 ((ps.take k).flatten.length : Nat)) (fun _ _ i => K - (intOf i).toNat)
  case atStart => exact ⟨0, Nat.zero_le _, rfl, rfl⟩
  case round =>
    obtain ⟨k, hk, rfl, rfl⟩ := hrel
    by_cases hkn : k < K
    · obtain ⟨s, e1, g, cc, off, rfl, hg, hcell⟩ := HC.out k hkn
      have hs := take_sum ps k (by have := HALL.out; omega)
      have hll := HL.out
      have hsl := sum_le ps (k + 1)
      obtain ⟨Q, hQ⟩ : ∃ Q, Q = (ps.getD k []).length := ⟨_, rfl⟩
      obtain ⟨R, hR⟩ : ∃ R, R = (ps.take k).flatten.length := ⟨_, rfl⟩
      rw [← hQ] at e1 hs
      rw [← hR] at hs ⊢
      have HS := Lib.hid hs
      have hb2 : R + Q ≤ 1000000 := by omega
      clear hcell hQ hR hs hll hsl
      have hge : ¬ ((R : Int) + (Q : Int) < 0) := by omega
      go_wp2_with fail
      go_round
      case rel => exact ⟨k + 1, by omega, by go_num, by rw [HS.out]; go_num⟩
      case measure => simp [intOf]; omega
    · obtain rfl : k = K := by omega
      have htk : (ps.take k).flatten.length = ps.flatten.length := by rw [List.take_of_length_le (by have := HALL.out; omega)]
      rw [htk]
      have FG := Lib.hid (grow60 w ps.flatten.length HL.out)
      obtain ⟨Z, hZ⟩ : ∃ Z, Z = ps.flatten.length := ⟨_, rfl⟩
      rw [← hZ] at FG ⊢
      have HZ := Lib.hid hZ
      clear htk hZ
      go_wp2_with fail
      refine FG.out.mono ?_
      rintro e w2 ⟨r2, rfl, o2, b2⟩
      have O2 := Lib.hid o2
      have B2 := Lib.hid b2
      clear o2 b2
      go_wp2_with fail
      go_loopw [6, 8, 27] (fun o _ i wr => ∃ j, j ≤ k ∧ i = .int .i64 (j : Nat) ∧ wr.ownsRow w.heap.size 32 4 o (ps.take j).flatten.length (pcs (ps.take j).flatten) ∧ Below w.heap.size w wr) (fun _ _ i _ => k - (intOf i).toNat)
      case atStart => exact ⟨0, Nat.zero_le _, rfl, O2.out, B2.out⟩
      case round =>
        obtain ⟨j, hj, rfl, ho, hbl⟩ := hrel
        by_cases hjk : j < k
        · obtain ⟨s, hs, hP⟩ := HC.out j hjk
          obtain ⟨g, cc, off, rfl, hg, hcell⟩ := hP.below hbl (Nat.le_refl _)
          have e1 := (hbl.cell (p := ⟨b, j, none⟩) hb).trans hs
          have hf := take_flat ps j (by have := HALL.out; omega)
          have hsl := sum_le ps (j + 1)
          have hll := HL.out
          obtain ⟨bs, hbs⟩ : ∃ bs, bs = ps.getD j [] := ⟨_, rfl⟩
          obtain ⟨pre, hpre⟩ : ∃ pre, pre = (ps.take j).flatten := ⟨_, rfl⟩
          rw [← hbs] at hcell hf e1
          rw [← hpre] at hf ho
          rw [hf, List.length_append] at hsl
          have hsum : pre.length + bs.length ≤ 1000000 := by omega
          have HF : Hid (pcs (ps.take (j + 1)).flatten = pcs pre ++ pcs bs ∧ (ps.take (j + 1)).flatten.length = pre.length + bs.length) := Lib.hid ⟨by rw [hf, pcs_app], by rw [hf, List.length_append]⟩
          have hul := pcs_len bs
          obtain ⟨Q, hQ⟩ : ∃ Q, Q = bs.length := ⟨_, rfl⟩
          obtain ⟨R, hR⟩ : ∃ R, R = pre.length := ⟨_, rfl⟩
          rw [← hQ] at hsum HF hul e1
          rw [← hR] at ho HF hsum
          have HCL : Hid (∀ j u, (pcs bs)[j]? = some u → wr.cell? (Addr.add ⟨g, off, none⟩ j) = some u) := Lib.hid fun j u hu => by rw [Addr.add_lit]; exact hcell j u hu
          have HB := Lib.hid hbl
          have hbs2 := hbl.size
          have hown := ho
          clear ho hbl hcell hf hbs hpre hll hP hs hQ hR hsl
          go_wp2_with (at_builtin; refine wpList_append_own _ rfl (.tmp 31) (.tmp 32) 43 rfl w.heap.size 32 i0 _ 4 40 Try.underlying43 hi hz0 hz1 hz2 rfl (by decide) _ R _ rfl hown ⟨g, off, none⟩ Q cc (pcs bs) rfl hul ?c1 ?c2 ?c3 ?c4 ?c5 ?_)
          case c1 => exact HCL.out
          case c2 => exact pcs_one bs
          case c3 => unfold maxLen; omega
          case c4 => omega
          case c5 => omega
          intro v' w3 hown' hgrow _
          have b3 := Lib.hid (Below.grown HB.out hgrow hbs2 (fun r hr => (hown.lt r hr).1))
          clear hgrow
          have hO3 := Lib.hid hown'
          clear hown'
          go_wp2_with fail
          go_roundw
          case rel => exact ⟨j + 1, by omega, by go_num, by rw [HF.out.1, HF.out.2]; exact hO3.out, b3.out⟩
          case measure => simp [intOf]; omega
        · obtain rfl : j = k := by omega
          have HB := Lib.hid hbl
          have HO := Lib.hid ho
          clear ho hbl
          go_wp2_with fail
          go_ret
          refine ⟨_, rfl, ?_, HB.out⟩
          have h1 := HO.out
          rw [List.take_of_length_le (by have := HALL.out; omega)] at h1
          exact h1
set_option maxRecDepth 100000 in
theorem concat44_nil (w : World) : Calls Try.prog 44 #[.slice none 0 0] w fun e w' => ∃ r, e = .returned r ∧ w'.ownsRow w.heap.size 32 4 r 0 [] ∧ Below w.heap.size w w' := by
  have FG := Lib.hid (grow60 w 0 (by omega))
  go_enter Try.func44, Try.ntmps44
  go_wp2_with fail
  refine wp_loop_rounds 1 ?_
  rw [rounds_succ]
  go_wp2_with fail
  refine FG.out.mono ?_
  rintro e w2 ⟨r2, rfl, o2, b2⟩
  have O2 := Lib.hid o2
  have B2 := Lib.hid b2
  clear o2 b2
  go_wp2_with fail
  refine wp_loop_rounds 1 ?_
  rw [rounds_succ]
  go_wp2_with fail
  go_ret
  exact ⟨_, rfl, O2.out, B2.out⟩
end Da
end Go.Proofs.Ytloiclmngmnbdaa
