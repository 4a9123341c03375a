import Derived.Test.YtjmddomkoholoaaGreatDoorG40
import Derived.Test.YtjmddomkoholoaaGreatDoorG49
import Derived.Test.YtjmddomkoholoaaGreatDoorG46
import Derived.RegionTactic

/- The document's Decode of points. -/
namespace Go.Proofs.YtjmddomkoholoaaGreatDoor
open Go.RowKit
namespace Ka
open Cm Wr Bm Pk Zs Rd Vs Cv Kd Kp Ke Kx Ky

theorem part_num (bs : List Nat) (j : Nat) : Ry.part bs j 4 = num4 bs j := by simp [Ry.part, num4]
theorem getD_drop (bs : List Nat) (k i : Nat) : (bs.drop k).getD i 0 = bs.getD (k + i) 0 := by simp [List.getD_eq_getElem?_getD]
theorem getD_take (bs : List Nat) (k i : Nat) (h : i < k) : (bs.take k).getD i 0 = bs.getD i 0 := by simp [List.getD_eq_getElem?_getD, h]
/-- The sum that the bytes bear, as a number. -/
theorem sound_iff {bs : List Nat} (hX : ∀ x ∈ bs, x < 256) (h9 : 9 ≤ bs.length) (hs : size bs ≤ bs.length - 9) : Sound bs ↔ Kc.sum (bdy bs) = num4 bs (bs.length - 4) := by
  have hl := Kc.sum_lt (bdy bs)
  have hn : num4 (tl4 bs) 0 = num4 bs (bs.length - 4) := by unfold num4 tl4; simp only [getD_drop, Nat.add_zero, Nat.zero_add]
  have h4 : (tl4 bs).length = 4 := by unfold tl4; simp; omega
  have hX4 : ∀ x ∈ tl4 bs, x < 256 := fun x hx => hX x (List.mem_of_mem_drop hx)
  refine ⟨fun h => ?_, fun h => ⟨h9, ?_, hs⟩⟩
  · have : num4 (four (Kc.sum (bdy bs))) 0 = num4 (tl4 bs) 0 := by rw [h.2.1]
    rw [four_num hl, hn] at this
    exact this
  · rw [h, ← hn]
    match tl4 bs, h4, hX4 with
    | [p, q, r, s], _, hx =>
      have h1 := hx p (by simp)
      have h2 := hx q (by simp)
      have h3 := hx r (by simp)
      have h4 := hx s (by simp)
      simp [num4, four]
      omega

set_option maxRecDepth 100000 in
set_option maxHeartbeats 1000000 in
theorem rdecode5 (w : World) (v : Value) (bs : List Nat) (hP : Pl w v bs) (hX : ∀ x ∈ bs, x < 256) (hb : bs.length ≤ 10000000000) :
    Calls Tryz.prog 7 #[v] w fun e w' => Dec8 w bs e w' := by
  by_cases h9 : bs.length < 9
  · have HN : Hid (∀ P, ¬ Says bs P) := Lib.hid fun P h => by have := h.1.1; omega
    obtain ⟨a, c, hv⟩ : ∃ a c, v = .slice a bs.length c := by
      rcases hP with ⟨rfl, a, c, rfl⟩ | ⟨_, b, off, c, rfl, _⟩
      · exact ⟨a, c, rfl⟩
      · exact ⟨_, _, rfl⟩
    subst hv
    unfold Dec8
    obtain ⟨n, hn⟩ : ∃ n, n = bs.length := ⟨_, rfl⟩
    rw [← hn] at h9 ⊢
    clear hP hX hb hn
    go_enter Tryz.func7, Tryz.ntmps7
    go_wp2_with fail
    go_ret2
    exact ⟨.inr ⟨HN.out, rfl⟩, Below.refl _ _⟩
  rcases hP with ⟨rfl, _⟩ | ⟨_, b, off, c, rfl, hc, hcell⟩
  · simp at h9
  have FN := Lib.hid (fun (x : World) (hx : Below w.heap.size w x) => (show Calls Tryz.prog 20 #[.slice (some ⟨b, off, none⟩) bs.length c, .int .i64 1, .int .i64 4] x fun e w' => e = .returned (.int .u64 (size bs : Nat)) ∧ w' = x from by
    have := Ry.readat38 x b off bs.length c bs 1 4 (by decide) hX (by omega) (by omega) (fun i hi => (hx.cell (cell_lt (hcell i hi))).trans (hcell i hi))
    rw [part_num] at this
    exact this))
  have hs32 : size bs < 4294967296 := num4_lt hX 1
  by_cases hsz : bs.length - 9 < size bs
  · have HN : Hid (∀ P, ¬ Says bs P) := Lib.hid fun P h => by have := h.1.2.2; omega
    unfold Dec8
    have F1 := Lib.hid (FN.out w (Below.refl _ _))
    obtain ⟨n, hn⟩ : ∃ n, n = bs.length := ⟨_, rfl⟩
    obtain ⟨N, hN⟩ : ∃ N, N = size bs := ⟨_, rfl⟩
    rw [← hN] at F1 hs32 hsz
    rw [← hn] at h9 hsz hb F1 ⊢
    clear hcell hX hn hN hc FN
    go_enter Tryz.func7, Tryz.ntmps7
    go_wp2_with (go_at_call 20; refine F1.out.mono ?_; rintro e w2 ⟨rfl, rfl⟩)
    go_ret2
    exact ⟨.inr ⟨HN.out, rfl⟩, Below.refl _ _⟩
  have hN := hsz
  have htl : (tpart bs).length = size bs := by unfold tpart; rw [List.length_take, List.length_drop]; omega
  have hvl : (vpart bs).length = bs.length - 9 - size bs := by unfold vpart; rw [List.length_take, List.length_drop]; omega
  have htX : ∀ x ∈ tpart bs, x < 256 := fun x hx => hX x (List.mem_of_mem_drop (List.mem_of_mem_take hx))
  have hvX : ∀ x ∈ vpart bs, x < 256 := fun x hx => hX x (List.mem_of_mem_drop (List.mem_of_mem_take hx))
  have hX4 : ∀ x ∈ bdy bs, x < 256 := fun x hx => hX x (List.mem_of_mem_take hx)
  have hl4 : (bdy bs).length = bs.length - 4 := by unfold bdy; simp
  have HBW := Lib.hid (fun (x : World) (hx : Below w.heap.size w x) i (hi : i < bs.length) => (show x.cell? ⟨b, off + i, none⟩ = some (.int .u8 (bs.getD i 0 : Nat)) from (hx.cell (cell_lt (hcell i hi))).trans (hcell i hi)))
  have PT : Rw.By w (.slice (some ⟨b, off + 5, none⟩) (size bs) (c - 5)) (tpart bs) := Rw.by_cells htl.symm (by omega) (fun i hi => by
    rw [Nat.add_assoc, hcell (5 + i) (by omega)]
    unfold tpart
    rw [getD_take _ _ _ (by omega), getD_drop])
  have PV : Rw.By w (.slice (some ⟨b, off + (5 + size bs), none⟩) (bs.length - 4 - (5 + size bs)) (c - (5 + size bs))) (vpart bs) := Rw.by_cells (by rw [hvl]; omega) (by omega) (fun i hi => by
    rw [Nat.add_assoc, hcell (5 + size bs + i) (by omega)]
    unfold vpart
    rw [getD_take _ _ _ (by omega), getD_drop])
  have PB : Pl w (.slice (some ⟨b, off, none⟩) (bs.length - 4) c) (bdy bs) := .inr ⟨by omega, b, off, c, by rw [hl4], by omega, fun i hi => by
    rw [hcell i (by omega)]
    unfold bdy
    rw [getD_take _ _ _ (by omega)]⟩
  have G5 := Lib.hid (fun (x : World) (hx : Below w.heap.size w x) => Rr.rdecode11 x _ (tpart bs) (PT.2.below hx) htX (by omega))
  have G7 := Lib.hid (fun (x : World) (n : Int) (hx : Below w.heap.size w x) => Qr.refdecode11 x _ (vpart bs) (hd bs : Nat) n (PV.2.below hx) hvX (by omega))
  have GS := Lib.hid (fun (x : World) (hx : Below w.heap.size w x) => Ks.rsum20 x _ (bdy bs) (PB.below hx) hX4 (by omega))
  have GR := Lib.hid (fun (x : World) (hx : Below w.heap.size w x) => (show Calls Tryz.prog 20 #[.slice (some ⟨b, off, none⟩) bs.length c, .int .i64 ((bs.length - 4 : Nat) : Int), .int .i64 4] x fun e w' => e = .returned (.int .u64 (num4 bs (bs.length - 4) : Nat)) ∧ w' = x from by
    have := Ry.readat38 x b off bs.length c bs (bs.length - 4) 4 (by decide) hX (by omega) (by omega) (HBW.out x hx)
    rw [part_num] at this
    exact this))
  have HSI := Lib.hid (sound_iff hX (by omega) (by omega))
  have F1 := Lib.hid (FN.out w (Below.refl _ _))
  have hS32 := Kc.sum_lt (bdy bs)
  have hR32 := num4_lt hX (bs.length - 4)
  have HCK := Lib.hid (fun (x : World) (hx : Below w.heap.size w x) => (show x.cell? ⟨b, off, none⟩ = some (.int .u8 (hd bs : Nat)) from HBW.out x hx 0 (by omega)))
  have hk256 : hd bs < 256 := getD_lt hX 0
  unfold Dec8
  cases hdc : Tm.dec (tpart bs) with
  | none =>
    have HN : Hid (∀ P, ¬ Says bs P) := Lib.hid fun P h => by
      obtain ⟨_, T, V, h1, _⟩ := h
      rw [hdc] at h1
      cases h1
    have F5 := Lib.hid (fun (x : World) (hx : Below w.heap.size w x) => (G5.out x hx).mono fun e w' he => TDe.Decoded.bad he hdc)
    obtain ⟨n, hn⟩ : ∃ n, n = bs.length := ⟨_, rfl⟩
    obtain ⟨N, hN⟩ : ∃ N, N = size bs := ⟨_, rfl⟩
    rw [← hN] at F1 F5 hs32 hsz
    rw [← hn] at h9 hsz hb F1 hc ⊢
    clear hcell hX hn hN FN htl hvl htX hvX hX4 hl4 PT PV PB G5 G7 GS GR HSI hS32 hR32 HCK hk256 hdc HBW
    have hc5 : ¬ c = 5 := by omega
    go_enter Tryz.func7, Tryz.ntmps7
    go_wp2_with (go_at_call 20; refine F1.out.mono ?_; rintro e w2 ⟨rfl, rfl⟩)
    refine (F5.out _ (Below.refl _ _)).mono ?_
    rintro e w2 ⟨rfl, b2⟩
    have B2 := Lib.hid b2
    clear b2
    go_wp2_with fail
    go_ret2
    exact ⟨.inr ⟨HN.out, rfl⟩, B2.out⟩
  | some T =>
    obtain ⟨hTin, hTok, _⟩ := Tm.dec_some hdc
    have F5 := Lib.hid (fun (x : World) (hx : Below w.heap.size w x) => (G5.out x hx).mono fun e w' he => TDe.Decoded.ok he hdc)
    have HOK := Lib.hid (And.intro hTin hTok)
    have HSY := Lib.hid (fun (P : List Pnt) (h : Says bs P) => (show ∃ V, Of (hd bs : Nat) T.length (vpart bs) V ∧ P = T.zip V from by
      obtain ⟨_, T', V, h1, h2, h3⟩ := h
      rw [hdc] at h1
      cases h1
      exact ⟨V, h2, h3⟩))
    have HSZ := Lib.hid (fun (hs : Kc.sum (bdy bs) = num4 bs (bs.length - 4)) (V : List Vl) (h : Of (hd bs : Nat) T.length (vpart bs) V) => (show Says bs (T.zip V) from ⟨HSI.out.2 hs, T, V, hdc, h, rfl⟩))
    have HNS := Lib.hid (fun (hs : ¬ Kc.sum (bdy bs) = num4 bs (bs.length - 4)) (P : List Pnt) (h : Says bs P) => hs (HSI.out.1 h.1))
    by_cases hV : ∃ V, Of (hd bs : Nat) T.length (vpart bs) V
    case neg =>
      have HN : Hid (∀ P, ¬ Says bs P) := Lib.hid fun P h => by
        obtain ⟨V, h1, _⟩ := HSY.out P h
        exact hV ⟨V, h1⟩
      have F7 := Lib.hid (fun (x : World) (hx : Below w.heap.size w x) => (G7.out x (T.length : Nat) hx).mono fun e w' he => (show e = .returned (.tuple #[.slice none 0 0, .int .i64 2]) ∧ Below x.heap.size x w' from by
        obtain ⟨⟨V, _, _, _, hof, _⟩ | ⟨_, h⟩, bl⟩ := he
        · exact absurd ⟨V, hof⟩ hV
        · exact ⟨h, bl⟩))
      obtain ⟨n, hn⟩ : ∃ n, n = bs.length := ⟨_, rfl⟩
      obtain ⟨N, hN⟩ : ∃ N, N = size bs := ⟨_, rfl⟩
      obtain ⟨K, hK⟩ : ∃ K, K = hd bs := ⟨_, rfl⟩
      obtain ⟨TL, hTL⟩ : ∃ TL, TL = T.length := ⟨_, rfl⟩
      rw [← hN] at F1 F5 F7 hs32 hsz
      rw [← hn] at h9 hsz hb F1 F7 hc ⊢
      rw [← hK] at F7 HCK hk256
      rw [← hTL] at F5 F7
      have hTL1 : 1 ≤ TL := by rw [hTL]; exact hTok.1
      clear hcell hX hn hN FN htl hvl htX hvX hX4 hl4 PT PV PB G5 G7 GS GR HSI hS32 hR32 hdc HBW HSY HSZ HNS hTin hTok HOK hTL hK hV
      have hc5 : ¬ c = 5 := by omega
      obtain ⟨p, hp⟩ : ∃ p, p = 5 + N := ⟨_, rfl⟩
      rw [← hp] at F7
      have hcN : ¬ c = p := by omega
      have hw1 : IntKind.i64.wrap ((n : Int) - 4) = ((n - 4 : Nat) : Int) := by rw [IntWalk.i64_left]; unfold wrap64; omega
      have hw2 : IntKind.i64.wrap (5 + (N : Int)) = (p : Int) := by rw [IntWalk.i64_left]; unfold wrap64; omega
      have hn0 : 0 < n := by omega
      have hlo : p ≤ n - 4 := by omega
      have hhi : n - 4 ≤ c := by omega
      have HP := Lib.hid hp
      clear hp
      have hw3 : IntKind.i64.wrap (K : Int) = (K : Int) := by rw [IntWalk.i64_left]; unfold wrap64; omega
      have HW := Lib.hid (And.intro hw1 (And.intro hw2 hw3))
      clear hw1 hw2 hw3
      go_enter Tryz.func7, Tryz.ntmps7
      go_wp2_with (go_at_call 20; refine F1.out.mono ?_; rintro e w2 ⟨rfl, rfl⟩)
      refine (F5.out _ (Below.refl _ _)).mono ?_
      rintro e w2 ⟨r2, rfl, o2, b2⟩
      have B2 := Lib.hid b2
      obtain ⟨g2, c2, hr2⟩ := Go.Joins.ownsRow_form o2 hTL1
      subst hr2
      have e0 := HCK.out _ B2.out
      clear b2 o2
      have hw1 := HW.out.1
      have hw2 := HW.out.2.1
      have hw3 := HW.out.2.2
      go_upto_region 9 with (fail)
      go_region_held (fun y : World => y.cell? ⟨b, off, none⟩ = some (.int .u8 (K : Nat))) (first | exact e0 | exact e1)
        (first | (go_at_call 22; refine (F7.out _ (by exact B2.out.drew)).mono ?_; rintro e w7 ⟨rfl, b7⟩; have B7 := Lib.hid (B2.out.drew.trans (b7.mono B2.out.drew.size)); have e1 := HCK.out _ B7.out; clear b7))
      all_goals
        go_wp2_with fail
        go_ret2
        exact ⟨.inr ⟨HN.out, rfl⟩, B7.out⟩
    obtain ⟨V, hof⟩ := hV
    have F7 := Lib.hid (fun (x : World) (hx : Below w.heap.size w x) => (G7.out x (T.length : Nat) hx).mono fun e w' he => (show (∃ r, e = .returned (.tuple #[r, .int .i64 0]) ∧ w'.ownsRow x.heap.size 35 3 r V.length (vcs V) ∧ ∀ U, Of (hd bs : Nat) T.length (vpart bs) U → U = V) ∧ Below x.heap.size x w' from by
      obtain ⟨⟨V', r, he, ho, _, hu⟩ | ⟨hno, _⟩, bl⟩ := he
      · have := hu V hof
        subst this
        exact ⟨⟨r, he, ho, hu⟩, bl⟩
      · exact absurd hof (hno V)))
    have HOF := Lib.hid hof
    have hvl2 : V.length = T.length := hof.1
    obtain ⟨SU, hSU⟩ : ∃ SU, SU = Kc.sum (bdy bs) := ⟨_, rfl⟩
    obtain ⟨RD, hRD⟩ : ∃ RD, RD = num4 bs (bs.length - 4) := ⟨_, rfl⟩
    rw [← hSU] at GS HSZ HNS hS32
    rw [← hRD] at GR HSZ HNS hR32
    by_cases hS : SU = RD
    case neg =>
      have HN : Hid (∀ P, ¬ Says bs P) := Lib.hid fun P h => HNS.out hS P h
      have hne : ((SU : Int) != (RD : Int)) = true := by simp; omega
      obtain ⟨n, hn⟩ : ∃ n, n = bs.length := ⟨_, rfl⟩
      obtain ⟨N, hN⟩ : ∃ N, N = size bs := ⟨_, rfl⟩
      obtain ⟨K, hK⟩ : ∃ K, K = hd bs := ⟨_, rfl⟩
      obtain ⟨TL, hTL⟩ : ∃ TL, TL = T.length := ⟨_, rfl⟩
      rw [← hN] at F1 F5 F7 hs32 hsz
      rw [← hn] at h9 hsz hb F1 F7 hc GS GR ⊢
      rw [← hK] at F7 HCK hk256
      rw [← hTL] at F5 F7 hvl2
      have hTL1 : 1 ≤ TL := by rw [hTL]; exact hTok.1
      clear hcell hX hn hN FN htl hvl htX hvX hX4 hl4 PT PV PB G5 G7 HSI hdc HBW HSY HSZ HNS hTin hTok HOK hTL hK hof HOF hSU hRD hS
      have hc5 : ¬ c = 5 := by omega
      obtain ⟨p, hp⟩ : ∃ p, p = 5 + N := ⟨_, rfl⟩
      rw [← hp] at F7
      have hcN : ¬ c = p := by omega
      have hw1 : IntKind.i64.wrap ((n : Int) - 4) = ((n - 4 : Nat) : Int) := by rw [IntWalk.i64_left]; unfold wrap64; omega
      have hw2 : IntKind.i64.wrap (5 + (N : Int)) = (p : Int) := by rw [IntWalk.i64_left]; unfold wrap64; omega
      have hn0 : 0 < n := by omega
      have hlo : p ≤ n - 4 := by omega
      have hhi : n - 4 ≤ c := by omega
      have HP := Lib.hid hp
      clear hp
      have hw3 : IntKind.i64.wrap (K : Int) = (K : Int) := by rw [IntWalk.i64_left]; unfold wrap64; omega
      have HW := Lib.hid (And.intro hw1 (And.intro hw2 hw3))
      clear hw1 hw2 hw3
      go_enter Tryz.func7, Tryz.ntmps7
      go_wp2_with (go_at_call 20; refine F1.out.mono ?_; rintro e w2 ⟨rfl, rfl⟩)
      refine (F5.out _ (Below.refl _ _)).mono ?_
      rintro e w2 ⟨r2, rfl, o2, b2⟩
      have B2 := Lib.hid b2
      obtain ⟨g2, c2, hr2⟩ := Go.Joins.ownsRow_form o2 hTL1
      subst hr2
      have e0 := HCK.out _ B2.out
      clear b2 o2
      have hw1 := HW.out.1
      have hw2 := HW.out.2.1
      have hw3 := HW.out.2.2
      go_upto_region 9 with (fail)
      go_region_held (fun y : World => y.cell? ⟨b, off, none⟩ = some (.int .u8 (K : Nat))) (first | exact e0 | exact e1)
        (first | (go_at_call 22; refine (F7.out _ (by exact B2.out.drew)).mono ?_; rintro e w7 ⟨⟨r7, rfl, _, _⟩, b7⟩; have B7 := Lib.hid (B2.out.drew.trans (b7.mono B2.out.drew.size)); have e1 := HCK.out _ B7.out; clear b7))
      all_goals
        clear e0 e1 HCK F1 F5 F7
        go_wp2_with fail
        refine (GS.out _ B7.out).mono ?_
        rintro e w7 ⟨rfl, rfl⟩
        go_wp2_with fail
        refine (GR.out _ B7.out).mono ?_
        rintro e w7 ⟨rfl, rfl⟩
        go_wp2_with fail
        go_ret2
        exact ⟨.inr ⟨HN.out, rfl⟩, B7.out⟩
    have HS := Lib.hid (HSZ.out hS V hof)
    have heq : ((SU : Int) != (RD : Int)) = false := by simp; omega
    have hwv : ∀ y ∈ V, Wv y := fun y hy => (hof.2.1 y hy).2
    have HWV := Lib.hid hwv
    have hTL1 : 1 ≤ T.length := hTok.1
    have hTL9 : T.length ≤ 1000 := hTok.2.1
    have HJ := Lib.hid (fun k => Kt.jn_succ T V k)
    have HALL := Lib.hid (Kt.jn_all hvl2.symm)
    have HTI := Lib.hid hTin
    obtain ⟨i0, hi, hz0, hz1, hz2⟩ := info_parts infoP
    have HZ := Lib.hid (show (T.zip V).length = T.length from by rw [List.length_zip]; omega)
    have HZW := Lib.hid (zip_wp hTin hwv)
    obtain ⟨n, hn⟩ : ∃ n, n = bs.length := ⟨_, rfl⟩
    obtain ⟨N, hN⟩ : ∃ N, N = size bs := ⟨_, rfl⟩
    obtain ⟨K, hK⟩ : ∃ K, K = hd bs := ⟨_, rfl⟩
    obtain ⟨TL, hTL⟩ : ∃ TL, TL = T.length := ⟨_, rfl⟩
    rw [← hN] at F1 F5 F7 hs32 hsz
    rw [← hn] at h9 hsz hb F1 F7 hc GS GR ⊢
    rw [← hK] at F7 HCK hk256 HSY
    rw [← hTL] at F5 F7 hvl2 hTL1 hTL9 HSY HALL HZ
    rw [hvl2] at F7
    have HTL := Lib.hid hTL
    have HVL := Lib.hid hvl2
    clear hcell hX hn hN FN htl hvl htX hvX hX4 hl4 PT PV PB G5 G7 HSI hdc HBW HSZ HNS hTin hTok HOK hTL hK hof HOF hSU hRD hS hwv hvl2
    have hc5 : ¬ c = 5 := by omega
    obtain ⟨p, hp⟩ : ∃ p, p = 5 + N := ⟨_, rfl⟩
    rw [← hp] at F7
    have hcN : ¬ c = p := by omega
    have hw1 : IntKind.i64.wrap ((n : Int) - 4) = ((n - 4 : Nat) : Int) := by rw [IntWalk.i64_left]; unfold wrap64; omega
    have hw2 : IntKind.i64.wrap (5 + (N : Int)) = (p : Int) := by rw [IntWalk.i64_left]; unfold wrap64; omega
    have hn0 : 0 < n := by omega
    have hlo : p ≤ n - 4 := by omega
    have hhi : n - 4 ≤ c := by omega
    have HP := Lib.hid hp
    clear hp
    have hw3 : IntKind.i64.wrap (K : Int) = (K : Int) := by rw [IntWalk.i64_left]; unfold wrap64; omega
    have HW := Lib.hid (And.intro hw1 (And.intro hw2 hw3))
    clear hw1 hw2 hw3
    go_enter Tryz.func7, Tryz.ntmps7
    go_wp2_with (go_at_call 20; refine F1.out.mono ?_; rintro e w2 ⟨rfl, rfl⟩)
    refine (F5.out _ (Below.refl _ _)).mono ?_
    rintro e w2 ⟨r2, rfl, o2, b2⟩
    have B2 := Lib.hid b2
    obtain ⟨bt, ot, ct, hr2, hct, hbt, hcellt⟩ := Th.ii_open (Ti.ii_own (by rw [← HTL.out]; exact o2) HTI.out) (by rw [← HTL.out]; exact hTL1)
    rw [← HTL.out] at hr2 hct hcellt
    subst hr2
    have HC2 := Lib.hid hcellt
    have e0 := HCK.out _ B2.out
    clear b2 o2 hcellt
    have hw1 := HW.out.1
    have hw2 := HW.out.2.1
    have hw3 := HW.out.2.2
    go_upto_region 9 with (fail)
    go_region_held (fun y : World => y.cell? ⟨b, off, none⟩ = some (.int .u8 (K : Nat))) (first | exact e0 | exact e1)
      (first | (go_at_call 22; refine (F7.out _ (by exact B2.out.drew)).mono ?_; rintro e w7 ⟨⟨r7, rfl, o7, u7⟩, b7⟩; have B7 := Lib.hid (B2.out.drew.trans (b7.mono B2.out.drew.size)); have e1 := HCK.out _ B7.out; have B27 := Lib.hid ((Below.refl w2.heap.size w2).drew.trans b7); have O7 := Lib.hid o7; have U7 := Lib.hid u7; clear b7 o7 u7))
    all_goals
      clear e0 e1 HCK F1 F5 F7
      have HC := Lib.hid (fun j (hj : j < TL) => (B27.out.cell (p := ⟨bt, ot + j, none⟩) hbt).trans (HC2.out j hj))
      have hbt7 : bt < w7.heap.size := Nat.lt_of_lt_of_le hbt B27.out.size
      rcases (vi_own (by rw [HVL.out]; exact O7.out) HWV.out).cases with ⟨_, _, _, hnil⟩ | ⟨_, b', off', c', hr7, hc', hb', hcell'⟩
      · rw [← HVL.out, hnil] at hTL1; simp at hTL1
      rw [HVL.out] at hr7 hc' hcell'
      subst hr7
      have HD := Lib.hid hcell'
      clear hcell' HC2 B27 hbt O7
      go_wp2_with fail
      refine (GS.out _ B7.out).mono ?_
      rintro e w7 ⟨rfl, rfl⟩
      go_wp2_with fail
      refine (GR.out _ B7.out).mono ?_
      rintro e w7 ⟨rfl, rfl⟩
      go_wp2_with fail
      go_loopw [8, 9, 67] (fun o _ i wr => ∃ k, k ≤ TL ∧ i = .int .i64 (k : Nat) ∧ wr.ownsRow w7.heap.size 37 4 o k (pcs (Kt.jn T V k)) ∧ Below w7.heap.size w7 wr) (fun _ _ i _ => TL - (intOf i).toNat)
      case atStart => exact ⟨0, Nat.zero_le _, rfl, World.ownsRow_nil _ _ _ _, Below.refl _ _⟩
      case round =>
        obtain ⟨k, hk, rfl, ho, hbl⟩ := hrel
        by_cases hkn : k < TL
        · have e0 := (hbl.cell (p := ⟨bt, ot + k, none⟩) hbt7).trans (HC.out k hkn)
          obtain ⟨e1, e2, e3⟩ := (HD.out k hkn).of_block (hbl.block b' hb')
          have HTk := Lib.hid (HJ.out k)
          obtain ⟨t, ht⟩ : ∃ t, t = T.getD k 0 := ⟨_, rfl⟩
          obtain ⟨pp, hpp⟩ : ∃ pp, pp = V.getD k z0 := ⟨_, rfl⟩
          rw [← ht] at e0 HTk
          rw [← hpp] at e1 e2 e3 HTk
          clear hpp ht
          obtain ⟨q1, q2, q3⟩ := pp
          simp only at e1 e2 e3 HTk
          have HB := Lib.hid hbl
          have HO := Lib.hid ho
          have hbs := hbl.size
          have HOD := Lib.hid ((ho.alloc (.cells #[.int .i64 t, .int .i64 q1, .int .u64 (q2 : Nat), .string (str q3)] 37)).drew)
          have HWZ : Hid (w7.heap.size ≤ (wr.alloc (.cells #[.int .i64 t, .int .i64 q1, .int .u64 (q2 : Nat), .string (str q3)] 37)).drew.heap.size) := Lib.hid (by simp; omega)
          have HC1 : Hid (∀ j u, [Value.int .i64 t, Value.int .i64 q1, Value.int .u64 (q2 : Nat), Value.string (str q3)][j]? = some u → (wr.alloc (.cells #[.int .i64 t, .int .i64 q1, .int .u64 (q2 : Nat), .string (str q3)] 37)).drew.cell? ((⟨wr.heap.size, 0, none⟩ : Addr).add j) = some u) := Lib.hid (Kt.cells4_new wr _ _ _ _ _)
          have HONE : Hid (∀ u ∈ [Value.int .i64 t, Value.int .i64 q1, Value.int .u64 (q2 : Nat), Value.string (str q3)], u.oneCell' = true) := Lib.hid (by intro u hu; simp at hu; rcases hu with rfl | rfl | rfl | rfl <;> rfl)
          clear ho hbl
          go_upto_region 16 with (fail)
          go_region_law (refine Ry.step_append_own rfl (.tmp 70) (.tmp 80) 24 rfl w7.heap.size 37 i0 (.agg #[.int .i64 0, .int .i64 0, .int .u64 0, .string ⟨#[]⟩]) 4 40 Tryz.underlying24 hi hz0 hz1 hz2 rfl (by decide) _ k (pcs (Kt.jn T V k)) (by simp [Act.eval]) HOD.out ⟨wr.heap.size, 0, none⟩ 1 1 [.int .i64 t, .int .i64 q1, .int .u64 (q2 : Nat), .string (str q3)] (by simp [Act.eval]) rfl HC1.out HONE.out (by unfold maxLen; omega) (by omega) HWZ.out ?_; intro v9 w9 hown9 hgrow)
          all_goals
            have B9 := Lib.hid (Below.grown ((HB.out.alloc hbs _).drew) hgrow HWZ.out (fun r hr => (HO.out.lt r hr).1))
            have O9 := Lib.hid hown9
            clear hgrow hown9
            go_wp2_with fail
            go_roundw
            case rel => exact ⟨k + 1, by omega, by go_num, by rw [HTk.out, pcs_snoc]; exact O9.out, B9.out⟩
            case measure => simp [intOf]; omega
        · obtain rfl : k = TL := by omega
          have HB := Lib.hid (B7.out.trans (hbl.mono B7.out.size))
          have HO := Lib.hid ho
          clear ho hbl
          go_wp2_with fail
          go_ret2
          refine ⟨.inl ⟨T.zip V, _, HS.out, fun Q hQ => ?_, HZW.out, by rw [HZ.out]; exact hTL1, by rw [HZ.out]; exact hTL9, rfl, ?_⟩, HB.out⟩
          · obtain ⟨V', h1, h2⟩ := HSY.out Q hQ
            rw [h2, U7.out V' h1]
          · rw [HZ.out, ← HALL.out]
            exact Go.Joins.ownsRow_le HO.out B7.out.size
end Ka
end Go.Proofs.YtjmddomkoholoaaGreatDoor
