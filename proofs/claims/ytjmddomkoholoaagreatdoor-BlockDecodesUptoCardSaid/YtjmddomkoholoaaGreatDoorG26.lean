import Derived.Test.YtjmddomkoholoaaGreatDoorG25
import Derived.Deep.RegionHeld3

/- The document's side: Two, Join. -/
namespace Go.Proofs.YtjmddomkoholoaaGreatDoor
open Go.RowKit
namespace Rj
open Bm Mt Wr Pk Rp Cv Rd Rx Sz Tm Ti Th La

/-- A slice of one or more bytes, laid from a block's first cell on. -/
def Pt (w : World) (s : Value) (bs : List Nat) : Prop :=
  0 < bs.length ∧ ∃ g c, s = .slice (some ⟨g, 0, none⟩) bs.length c ∧ ∀ j u, (u8s bs)[j]? = some u → w.cell? ((⟨g, 0, none⟩ : Addr).add j) = some u
theorem Pt.below {w w' : World} {s : Value} {bs : List Nat} (h : Pt w s bs) (b : Below w.heap.size w w') : Pt w' s bs := by
  obtain ⟨h0, g, c, h1, h2⟩ := h
  exact ⟨h0, g, c, h1, fun j u hj => (b.cell (cell_lt (h2 j u hj))).trans (h2 j u hj)⟩
theorem pt_own {w : World} {B : Nat} {s : Value} {bs : List Nat} (h : w.ownsRow B 5 1 s bs.length (u8s bs)) (h0 : 0 < bs.length) : Pt w s bs := by
  obtain ⟨g, c, rfl⟩ := Go.Joins.ownsRow_form h h0
  exact ⟨h0, g, c, rfl, h.cells rfl⟩
theorem pt_drewN {w : World} {s : Value} {bs : List Nat} (h : Pt w s bs) (n : Nat) : Pt (w.drewN n) s bs := h

theorem take_flat (ps : List (List Nat)) (k : Nat) (hk : k < ps.length) : (ps.take (k + 1)).flatten = (ps.take k).flatten ++ ps.getD k [] := by
  rw [List.take_add_one, List.flatten_append, List.getElem?_eq_getElem hk, List.getD_eq_getElem?_getD, List.getElem?_eq_getElem hk]
  simp
theorem flat_get (ps : List (List Nat)) (k : Nat) (hk : k < ps.length) : ((ps.take k).flatten).length + (ps.getD k []).length ≤ ps.flatten.length := by
  have h1 := take_flat ps k hk
  have h2 : ps.flatten = (ps.take (k + 1)).flatten ++ (ps.drop (k + 1)).flatten := by rw [← List.flatten_append, List.take_append_drop]
  rw [h2, h1]
  simp

set_option maxRecDepth 100000 in
set_option maxHeartbeats 1000000 in
theorem join15 (w : World) (b : Nat) (K : Nat) (ps : List (List Nat)) (hK : K = ps.length) (hK9 : K ≤ 9) (hl : ps.flatten.length ≤ 1000000) (hb : b < w.heap.size)
    (hc : ∀ i, i < K → ∃ s, w.cell? ⟨b, i, none⟩ = some s ∧ Pt w s (ps.getD i [])) :
    Calls Tryz.prog 34 #[.slice (some ⟨b, 0, none⟩) K K] w fun e w' => ∃ r, e = .returned r ∧ w'.ownsRow w.heap.size 5 1 r ps.flatten.length (u8s ps.flatten) ∧ Below w.heap.size w w' := by
  obtain ⟨i0, hi, hz0, hz1, hz2⟩ := info_parts info5
  have HALL : Hid (K = ps.length) := Lib.hid hK
  have HC := Lib.hid hc
  have HL := Lib.hid hl
  clear hc hl hK
  go_enter Tryz.func34, Tryz.ntmps34
  go_wp2_with fail
  go_loopw [4, 3, 7] (fun _ o i wr => ∃ k, k ≤ K ∧ i = .int .i64 (k : Nat) ∧ wr.ownsRow w.heap.size 5 1 o (ps.take k).flatten.length (u8s (ps.take k).flatten) ∧ Below w.heap.size w wr) (fun _ _ i _ => K - (intOf i).toNat)
  case atStart => exact ⟨0, Nat.zero_le _, rfl, World.ownsRow_nil _ _ _ _, Below.refl _ _⟩
  case round =>
    obtain ⟨k, hk, rfl, ho, hbl⟩ := hrel
    by_cases hkn : k < K
    · obtain ⟨s, hs, hP⟩ := HC.out k hkn
      obtain ⟨h0, g, c, rfl, hcell⟩ := hP.below hbl
      have e1 := (hbl.cell hb).trans hs
      have hf := take_flat ps k (by have := HALL.out; omega)
      have hfl := flat_get ps k (by have := HALL.out; omega)
      have hll := HL.out
      obtain ⟨bs, hbs⟩ : ∃ bs, bs = ps.getD k [] := ⟨_, rfl⟩
      obtain ⟨pre, hpre⟩ : ∃ pre, pre = (ps.take k).flatten := ⟨_, rfl⟩
      rw [← hbs] at h0 hcell hf hfl e1
      rw [← hpre] at hf hfl ho
      have hsum : pre.length + bs.length ≤ 1000000 := by omega
      have HF : Hid (u8s (ps.take (k + 1)).flatten = u8s pre ++ u8s bs ∧ (ps.take (k + 1)).flatten.length = pre.length + bs.length) := Lib.hid ⟨by rw [hf]; simp [u8s], by rw [hf, List.length_append]⟩
      have hul := u8s_len bs
      have HONE : Hid (∀ u ∈ u8s bs, u.oneCell' = true) := Lib.hid fun u hu => by simp [u8s] at hu; obtain ⟨x, _, rfl⟩ := hu; rfl
      obtain ⟨Q, hQ⟩ : ∃ Q, Q = bs.length := ⟨_, rfl⟩
      obtain ⟨R, hR⟩ : ∃ R, R = pre.length := ⟨_, rfl⟩
      rw [← hQ] at h0 hsum HF hul e1
      rw [← hR] at ho HF hsum
      have HCL := Lib.hid hcell
      have HB := Lib.hid hbl
      have hbs2 := hbl.size
      have hown := ho
      clear ho hbl hcell hf hfl hbs hpre hll hP hs hQ hR
      go_wp2_with (at_builtin; refine wpList_append_own _ rfl (.tmp 10) (.tmp 14) 22 rfl w.heap.size 5 i0 (.int .u8 0) 1 1 Tryz.underlying22 hi hz0 hz1 hz2 rfl (by decide) _ R _ rfl hown ⟨g, 0, none⟩ Q c (u8s bs) rfl (by rw [hul]; omega) ?c1 ?c2 ?c3 ?c4 ?c5 ?_)
      case c1 => exact HCL.out
      case c2 => exact HONE.out
      case c3 => unfold maxLen; omega
      case c4 => omega
      case c5 => omega
      intro v' w2 hown' hgrow _
      have b2 := Lib.hid (Below.grown HB.out hgrow hbs2 (fun r hr => (hown.lt r hr).1))
      clear hgrow
      have hO2 := Lib.hid hown'
      clear hown'
      go_wp2_with fail
      go_roundw
      case rel => exact ⟨k + 1, by omega, by go_num, by rw [HF.out.1, HF.out.2]; exact hO2.out, b2.out⟩
      case measure => simp [intOf]; omega
    · obtain rfl : k = K := by omega
      have HB := Lib.hid hbl
      have HO := Lib.hid ho
      clear ho hbl
      go_wp2_with fail
      go_ret
      refine ⟨_, rfl, ?_, HB.out⟩
      have h1 := HO.out
      rw [List.take_of_length_le (by have := HALL.out; omega)] at h1
      exact h1

set_option maxRecDepth 100000 in
theorem two16 (w : World) (n : Nat) :
    Calls Tryz.prog 61 #[.int .i64 (n : Nat)] w fun e w' => ∃ r, e = .returned r ∧ Pt w' r (two n) ∧ Below w.heap.size w w' := by
  have h1 : (n : Int) / 256 % 256 = ((n / 256 % 256 : Nat) : Int) := by omega
  have h2 : (n : Int) % 256 = ((n % 256 : Nat) : Int) := by omega
  have HT : Hid (u8s (two n) = [.int .u8 ((n / 256 % 256 : Nat) : Int), .int .u8 ((n % 256 : Nat) : Int)]) := Lib.hid rfl
  obtain ⟨A, hA⟩ : ∃ A, A = n / 256 % 256 := ⟨_, rfl⟩
  obtain ⟨B, hB⟩ : ∃ B, B = n % 256 := ⟨_, rfl⟩
  rw [← hA] at h1 HT
  rw [← hB] at h2 HT
  clear hA hB
  go_enter Tryz.func61, Tryz.ntmps61
  go_wp2_with fail
  go_ret
  refine ⟨_, rfl, ⟨by simp [two], w.heap.size, 2, rfl, fun j u hj => ?_⟩, (Below.refl _ _).alloc (Nat.le_refl _) _⟩
  rw [HT.out] at hj
  rw [show (⟨w.heap.size, 0, none⟩ : Addr).add j = ⟨w.heap.size, j, none⟩ from by unfold Addr.add; split <;> simp_all, cell_of_row _ _ _ _ _ _ (heap_alloc_new _ _)]
  match j, hj with
  | 0, hj => exact hj
  | 1, hj => exact hj
theorem join2 (w : World) (b : Nat) (s1 s2 : Value) (p1 p2 : List Nat) (hb : b < w.heap.size) (h1 : w.cell? ⟨b, 0, none⟩ = some s1) (h2 : w.cell? ⟨b, 1, none⟩ = some s2) (P1 : Pt w s1 p1) (P2 : Pt w s2 p2) (l1 : p1.length ≤ 10000) (l2 : p2.length ≤ 10000) :
    Calls Tryz.prog 34 #[.slice (some ⟨b, 0, none⟩) 2 2] w fun e w' => ∃ r, e = .returned r ∧ w'.ownsRow w.heap.size 5 1 r (p1 ++ p2).length (u8s (p1 ++ p2)) ∧ Below w.heap.size w w' := by
  have h := join15 w b 2 [p1, p2] rfl (by decide) (by simp; omega) hb (fun i hi => by
    match i, hi with
    | 0, _ => exact ⟨s1, h1, P1⟩
    | 1, _ => exact ⟨s2, h2, P2⟩)
  simpa using h
theorem join3 (w : World) (b : Nat) (s1 s2 s3 : Value) (p1 p2 p3 : List Nat) (hb : b < w.heap.size) (h1 : w.cell? ⟨b, 0, none⟩ = some s1) (h2 : w.cell? ⟨b, 1, none⟩ = some s2) (h3 : w.cell? ⟨b, 2, none⟩ = some s3) (P1 : Pt w s1 p1) (P2 : Pt w s2 p2) (P3 : Pt w s3 p3) (l1 : p1.length ≤ 10000) (l2 : p2.length ≤ 10000) (l3 : p3.length ≤ 10000) :
    Calls Tryz.prog 34 #[.slice (some ⟨b, 0, none⟩) 3 3] w fun e w' => ∃ r, e = .returned r ∧ w'.ownsRow w.heap.size 5 1 r (p1 ++ (p2 ++ p3)).length (u8s (p1 ++ (p2 ++ p3))) ∧ Below w.heap.size w w' := by
  have h := join15 w b 3 [p1, p2, p3] rfl (by decide) (by simp; omega) hb (fun i hi => by
    match i, hi with
    | 0, _ => exact ⟨s1, h1, P1⟩
    | 1, _ => exact ⟨s2, h2, P2⟩
    | 2, _ => exact ⟨s3, h3, P3⟩)
  simpa using h
theorem eight17 (w : World) (x : Nat) : Calls Tryz.prog 33 #[.int .u64 (x : Nat)] w fun e w' => ∃ r, e = .returned r ∧ Pt w' r (eight x) ∧ Below w.heap.size w w' := by
  refine (eight14 w x).mono ?_
  rintro e w' ⟨g, c, rfl, ho, bl⟩
  exact ⟨_, rfl, pt_own (bs := eight x) ho (by rw [eight_len]; omega), bl⟩
theorem two_ex (w : World) (n : Nat) : Calls Tryz.prog 61 #[.int .i64 (n : Nat)] w fun e w' => ∃ g c, e = .returned (.slice (some ⟨g, 0, none⟩) 2 c) ∧ Pt w' (.slice (some ⟨g, 0, none⟩) 2 c) (two n) ∧ Below w.heap.size w w' := by
  refine (two16 w n).mono ?_
  rintro e w' ⟨r, rfl, ⟨h0, g, c, rfl, h⟩, bl⟩
  exact ⟨g, c, rfl, ⟨h0, g, c, rfl, h⟩, bl⟩
theorem eight_ex (w : World) (x : Nat) : Calls Tryz.prog 33 #[.int .u64 (x : Nat)] w fun e w' => ∃ g c, e = .returned (.slice (some ⟨g, 0, none⟩) 8 c) ∧ Pt w' (.slice (some ⟨g, 0, none⟩) 8 c) (eight x) ∧ Below w.heap.size w w' := by
  refine (eight17 w x).mono ?_
  rintro e w' ⟨r, rfl, ⟨h0, g, c, rfl, h⟩, bl⟩
  exact ⟨g, c, rfl, ⟨h0, g, c, rfl, h⟩, bl⟩
/-- A block laid anew, by its cells. -/
theorem new_cell (w : World) (vs : Array Value) (t : TypeId) (i : Nat) (v : Value) (h : vs[i]? = some v) : (w.alloc (.cells vs t)).cell? ⟨w.heap.size, i, none⟩ = some v := by
  rw [cell_of_row _ _ _ _ _ _ (heap_alloc_new _ _)]; exact h
theorem headj (w : World) (n U g16 c16 g17 c17 : Nat) (P1 : Pt w (.slice (some ⟨g16, 0, none⟩) 2 c16) (two n)) (P2 : Pt w (.slice (some ⟨g17, 0, none⟩) 8 c17) (eight U)) :
    Calls Tryz.prog 34 #[.slice (some ⟨w.heap.size, 0, none⟩) 2 2] (w.alloc (.cells #[.slice (some ⟨g16, 0, none⟩) 2 c16, .slice (some ⟨g17, 0, none⟩) 8 c17] 22)) fun e w' =>
      ∃ g c, e = .returned (.slice (some ⟨g, 0, none⟩) 10 c) ∧ Pt w' (.slice (some ⟨g, 0, none⟩) 10 c) (two n ++ eight U) ∧ Below w.heap.size w w' := by
  have b := (Below.refl w.heap.size w).alloc (Nat.le_refl _) (.cells #[.slice (some ⟨g16, 0, none⟩) 2 c16, .slice (some ⟨g17, 0, none⟩) 8 c17] 22)
  refine (join2 _ _ (.slice (some ⟨g16, 0, none⟩) 2 c16) (.slice (some ⟨g17, 0, none⟩) 8 c17) (two n) (eight U) (by simp) (new_cell _ _ _ 0 _ rfl) (new_cell _ _ _ 1 _ rfl) (P1.below b) (P2.below b) (by simp [two]) (by rw [eight_len]; omega)).mono ?_
  rintro e w' ⟨r, rfl, ho, bl⟩
  obtain ⟨h0, g, c, rfl, h⟩ := pt_own (bs := two n ++ eight U) ho (by simp [two])
  exact ⟨g, c, rfl, ⟨h0, g, c, rfl, h⟩, b.trans (bl.mono b.size)⟩
theorem pt_one (w : World) (v : Value) (m : Nat) (h : v = .int .u8 (m : Nat)) : Pt (w.alloc (.cells #[v] 5)) (.slice (some ⟨w.heap.size, 0, none⟩) 1 1) [m] := by
  refine ⟨by simp, w.heap.size, 1, rfl, fun j u hj => ?_⟩
  rw [show (⟨w.heap.size, 0, none⟩ : Addr).add j = ⟨w.heap.size, j, none⟩ from by unfold Addr.add; split <;> simp_all]
  match j, hj with
  | 0, hj => simp [u8s] at hj; subst hj; exact new_cell _ _ _ 0 _ (by rw [h]; rfl)
theorem join3n (x : World) (bb : Nat) (hbb : x.heap.size = bb) (s1 s2 s3 : Value) (p1 p2 p3 : List Nat) (P1 : Pt x s1 p1) (P2 : Pt x s2 p2) (P3 : Pt x s3 p3) (l1 : p1.length ≤ 10000) (l2 : p2.length ≤ 10000) (l3 : p3.length ≤ 10000) :
    Calls Tryz.prog 34 #[.slice (some ⟨bb, 0, none⟩) 3 3] (x.alloc (.cells #[s1, s2, s3] 22)) fun e w' => ∃ r, e = .returned r ∧ w'.ownsRow x.heap.size 5 1 r (p1 ++ (p2 ++ p3)).length (u8s (p1 ++ (p2 ++ p3))) ∧ Below x.heap.size x w' := by
  subst hbb
  have b := (Below.refl x.heap.size x).alloc (Nat.le_refl _) (.cells #[s1, s2, s3] 22)
  refine (join3 _ _ s1 s2 s3 p1 p2 p3 (by simp) (new_cell _ _ _ 0 _ rfl) (new_cell _ _ _ 1 _ rfl) (new_cell _ _ _ 2 _ rfl) (P1.below b) (P2.below b) (P3.below b) l1 l2 l3).mono ?_
  rintro e w' ⟨r, rfl, ho, bl⟩
  exact ⟨r, rfl, Go.Joins.ownsRow_le ho b.size, b.trans (bl.mono b.size)⟩
theorem join2n (x : World) (bb : Nat) (hbb : x.heap.size = bb) (s1 s2 : Value) (p1 p2 : List Nat) (P1 : Pt x s1 p1) (P2 : Pt x s2 p2) (l1 : p1.length ≤ 10000) (l2 : p2.length ≤ 10000) :
    Calls Tryz.prog 34 #[.slice (some ⟨bb, 0, none⟩) 2 2] (x.alloc (.cells #[s1, s2] 22)) fun e w' => ∃ r, e = .returned r ∧ w'.ownsRow x.heap.size 5 1 r (p1 ++ p2).length (u8s (p1 ++ p2)) ∧ Below x.heap.size x w' := by
  subst hbb
  have b := (Below.refl x.heap.size x).alloc (Nat.le_refl _) (.cells #[s1, s2] 22)
  refine (join2 _ _ s1 s2 p1 p2 (by simp) (new_cell _ _ _ 0 _ rfl) (new_cell _ _ _ 1 _ rfl) (P1.below b) (P2.below b) l1 l2).mono ?_
  rintro e w' ⟨r, rfl, ho, bl⟩
  exact ⟨r, rfl, Go.Joins.ownsRow_le ho b.size, b.trans (bl.mono b.size)⟩
end Rj
end Go.Proofs.YtjmddomkoholoaaGreatDoor
