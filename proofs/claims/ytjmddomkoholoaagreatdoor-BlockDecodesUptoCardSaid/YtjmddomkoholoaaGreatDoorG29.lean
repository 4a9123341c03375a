import Derived.Test.YtjmddomkoholoaaGreatDoorG28
import Derived.Test.YtjmddomkoholoaaGreatDoorG25

/- The program's side: read. -/
namespace Go.Proofs.YtjmddomkoholoaaGreatDoor
open Go.RowKit
namespace Tg
open Bm Mt Wr Pk Rp Cv Rd Rx Ux Sz Tm Ti Lu

theorem num_eight {bs : List Nat} (h : ∀ b ∈ bs, b < 256) (j : Nat) : num (bb bs) (8 * j) 64 = num8 bs j := by
  have hb : ∀ t, num (bb bs) (8 * j + 8 * t) 8 = bs.getD (j + t) 0 := fun t => by
    rw [show 8 * j + 8 * t = 8 * (j + t) from by omega, num_byte h]
  have s : ∀ m t, m = 8 * t → num (bb bs) (8 * j) (m + 8) = num (bb bs) (8 * j) m * 256 + bs.getD (j + t) 0 := fun m t e => by
    rw [num_add, e, hb]
  rw [show (64 : Nat) = 56 + 8 from rfl, s 56 7 rfl, show (56 : Nat) = 48 + 8 from rfl, s 48 6 rfl, show (48 : Nat) = 40 + 8 from rfl, s 40 5 rfl, show (40 : Nat) = 32 + 8 from rfl, s 32 4 rfl,
    show (32 : Nat) = 24 + 8 from rfl, s 24 3 rfl, show (24 : Nat) = 16 + 8 from rfl, s 16 2 rfl, show (16 : Nat) = 8 + 8 from rfl, s 8 1 rfl]
  have s0 := hb 0
  rw [Nat.mul_zero, Nat.add_zero, Nat.add_zero] at s0
  rw [s0]
  rfl
theorem take_get (bs : List Nat) (i : Nat) (hi : i < 11) : (bs.take 11).getD i 0 = bs.getD i 0 := by
  simp [List.getD_eq_getElem?_getD, hi]
theorem take_lt {bs : List Nat} (h : ∀ b ∈ bs, b < 256) (n : Nat) : ∀ b ∈ bs.take n, b < 256 := fun b hb => h b (List.mem_of_mem_take hb)
theorem drop_lt {bs : List Nat} (h : ∀ b ∈ bs, b < 256) (n : Nat) : ∀ b ∈ bs.drop n, b < 256 := fun b hb => h b (List.mem_of_mem_drop hb)
theorem heads {bs : List Nat} (h : ∀ b ∈ bs, b < 256) : num (bb (bs.take 11)) 0 8 = bs.getD 0 0 ∧ num (bb (bs.take 11)) 8 16 = cnt bs ∧ num (bb (bs.take 11)) 24 64 = num8 bs 3 := by
  have h' := take_lt h 11
  have b0 := num_byte h' 0
  have b1 := num_byte h' 1
  have b2 := num_byte h' 2
  have b3 := num_eight h' 3
  refine ⟨b0.trans (take_get bs 0 (by decide)), ?_, b3.trans ?_⟩
  · rw [show (16 : Nat) = 8 + 8 from rfl, num_add]
    rw [show 8 * 1 = 8 from rfl] at b1
    rw [show 8 * 2 = 8 + 8 from rfl] at b2
    rw [b1, b2, take_get bs 1 (by decide), take_get bs 2 (by decide)]
    rfl
  · unfold num8
    rw [take_get bs _ (by decide), take_get bs _ (by decide), take_get bs _ (by decide), take_get bs _ (by decide), take_get bs _ (by decide), take_get bs _ (by decide), take_get bs _ (by decide), take_get bs _ (by decide)]
theorem rst_get (bs : List Nat) (i : Nat) : (rst bs).getD i 0 = bs.getD (11 + i) 0 := by simp [rst, List.getD_eq_getElem?_getD]
theorem rst_len (bs : List Nat) : (rst bs).length = bs.length - 11 := by simp [rst]
theorem readC_none {bs : List Nat} (h : bs.length < 11 ∨ cnt bs < 1 ∨ 1000 < cnt bs) : readC bs = [] := by unfold readC; rw [if_pos h]
theorem readC_0 {bs : List Nat} (h : ¬ (bs.length < 11 ∨ cnt bs < 1 ∨ 1000 < cnt bs)) (h0 : bs.getD 0 0 = 0) : readC bs = wholeT (fst bs) (rst bs) (cnt bs - 1) := by unfold readC; rw [if_neg h, if_pos h0]
theorem readC_1 {bs : List Nat} (h : ¬ (bs.length < 11 ∨ cnt bs < 1 ∨ 1000 < cnt bs)) (h0 : bs.getD 0 0 = 1) : readC bs = evenT (fst bs) (farOf (rst bs)) (cnt bs - 1) := by unfold readC; rw [if_neg h, if_neg (by omega), if_pos h0]
theorem readC_2 {bs : List Nat} (h : ¬ (bs.length < 11 ∨ cnt bs < 1 ∨ 1000 < cnt bs)) (h0 : bs.getD 0 0 = 2) : readC bs = unT (fst bs) (rst bs) (cnt bs - 1) := by unfold readC unT; rw [if_neg h, if_neg (by omega), if_neg (by omega), if_pos h0]; rfl
theorem readC_3 {bs : List Nat} (h0 : bs.getD 0 0 ≠ 0 ∧ bs.getD 0 0 ≠ 1 ∧ bs.getD 0 0 ≠ 2) : readC bs = [] := by
  unfold readC
  split
  · rfl
  · rw [if_neg h0.1, if_neg h0.2.1, if_neg h0.2.2]

/-- What read tells. -/
def Readed (w : World) (bs : List Nat) (e : Ending) (w' : World) : Prop :=
  ∃ r, e = .returned r ∧ w'.ownsRow w.heap.size 2 1 r (readC bs).length (i64s (readC bs)) ∧ Below w.heap.size w w'

set_option maxRecDepth 100000 in
theorem read_few (w : World) (a : Option Addr) (bs : List Nat) (c : Nat) (h : bs.length < 11) : Calls Tryz.prog 58 #[.slice a bs.length c] w fun e w' => Readed w bs e w' := by
  have HR := Lib.hid (readC_none (.inl h))
  obtain ⟨n, hn⟩ : ∃ n, n = bs.length := ⟨_, rfl⟩
  rw [← hn] at h ⊢
  clear hn
  go_enter Tryz.func58, Tryz.ntmps58
  go_wp2_with fail
  go_ret
  exact ⟨_, rfl, by rw [HR.out]; exact World.ownsRow_nil _ _ _ _, Below.refl _ _⟩

set_option maxRecDepth 100000 in
set_option maxHeartbeats 2000000 in
theorem read_more (w : World) (b off c : Nat) (bs : List Nat) (h11 : 11 ≤ bs.length) (hc : bs.length ≤ c) (hcell : ∀ i, i < bs.length → w.cell? ⟨b, off + i, none⟩ = some (.int .u8 (bs.getD i 0 : Nat))) (hX : ∀ x ∈ bs, x < 256) (hTb : Tab w) (hb : bs.length ≤ 140737488353272) :
    Calls Tryz.prog 58 #[.slice (some ⟨b, off, none⟩) bs.length c] w fun e w' => Readed w bs e w' := by
  have hX11 := take_lt hX 11
  have h11l : (bs.take 11).length = 11 := by simp; omega
  obtain ⟨q0, q1, q2⟩ := heads hX
  have F41 : Hid (Calls Tryz.prog 56 #[.slice (some ⟨b, off, none⟩) 11 c] w fun e w' => ∃ g v, e = .returned (.pointer (some ⟨g, 0, none⟩)) ∧ Rh w' g v (bs.take 11) 0 false ∧ w.heap.size ≤ g ∧ (∀ k, v.ownBlock = some k → w.heap.size ≤ k) ∧ Below w.heap.size w w') := Lib.hid (by
    refine new16 w _ (bs.take 11) (.inr ⟨⟨b, off, none⟩, c, by rw [h11l], fun j u hj => ?_⟩) (by rw [h11l]; omega)
    have hjl : j < 11 := by
      by_cases hjl : j < 11
      · exact hjl
      · rw [List.getElem?_eq_none (by rw [u8s_len, h11l]; omega)] at hj; cases hj
    rw [u8s_get _ j (by rw [h11l]; exact hjl)] at hj
    cases hj
    rw [show (⟨b, off, none⟩ : Addr).add j = ⟨b, off + j, none⟩ from by unfold Addr.add; split <;> simp_all, take_get bs j hjl]
    exact hcell j (by omega))
  have G1 : Hid (∀ x g s, Rh x g s (bs.take 11) 0 false → Calls Tryz.prog 57 #[.pointer (some ⟨g, 0, none⟩), .int .i64 8] x fun e w' => e = .returned (.int .u64 (bs.getD 0 0 : Nat)) ∧ Rh w' g s (bs.take 11) 8 false ∧ Only x w' g) := Lib.hid fun x g s h => by
    have := get_ok x g s (bs.take 11) 0 8 (bb (bs.take 11)) h (has_bb hX11) (by decide) (by decide) (by rw [h11l]; decide) (by rw [h11l]; decide)
    rw [q0] at this
    exact this
  have G2 : Hid (∀ x g s, Rh x g s (bs.take 11) 8 false → Calls Tryz.prog 57 #[.pointer (some ⟨g, 0, none⟩), .int .i64 16] x fun e w' => e = .returned (.int .u64 (cnt bs : Nat)) ∧ Rh w' g s (bs.take 11) 24 false ∧ Only x w' g) := Lib.hid fun x g s h => by
    have := get_ok x g s (bs.take 11) 8 16 (bb (bs.take 11)) h (has_bb hX11) (by decide) (by decide) (by rw [h11l]; decide) (by rw [h11l]; decide)
    rw [q1] at this
    exact this
  have G3 : Hid (∀ x g s, Rh x g s (bs.take 11) 24 false → Calls Tryz.prog 57 #[.pointer (some ⟨g, 0, none⟩), .int .i64 64] x fun e w' => e = .returned (.int .u64 (num8 bs 3 : Nat)) ∧ Only x w' g) := Lib.hid fun x g s h => by
    have := get_ok x g s (bs.take 11) 24 64 (bb (bs.take 11)) h (has_bb hX11) (by decide) (by decide) (by rw [h11l]; decide) (by rw [h11l]; decide)
    rw [q2] at this
    exact this.mono fun e w' h => ⟨h.1, h.2.2⟩
  have hXr := drop_lt hX 11
  have hrl := rst_len bs
  have hFi := fst_in bs
  have FK : Hid (∀ f, (f = 111 ∧ bs.getD 0 0 = 0 ∨ f = 112 ∧ bs.getD 0 0 = 1 ∨ f = 113 ∧ bs.getD 0 0 = 2) → ∀ x rv, Below w.heap.size w x → Is w rv (rst bs) → Pl w rv (rst bs) → 1 ≤ cnt bs → cnt bs ≤ 1000 → Calls Tryz.prog f #[rv, .int .i64 (fst bs), .int .i64 (cnt bs : Nat)] x fun e w' => ∃ r, e = .returned r ∧ w'.ownsRow x.heap.size 2 1 r (readC bs).length (i64s (readC bs)) ∧ Below x.heap.size x w') :=
    Lib.hid fun f hf x rv bl hi hp h1 h2 => by
      rcases hf with ⟨rfl, h0⟩ | ⟨rfl, h0⟩ | ⟨rfl, h0⟩
      · have := whole43 x rv (rst bs) (fst bs) (cnt bs) (Is.below hi bl) hXr (by omega) h1 h2
        have e := readC_0 (by omega) h0
        have el : (readC bs).length = cnt bs := by rw [e, wh_tab, tab_len]; omega
        rw [el, e]
        exact this
      · have := even44 x rv (rst bs) (fst bs) (cnt bs) (Is.below hi bl) hXr (by omega) hFi h1 h2
        have e := readC_1 (by omega) h0
        have el : (readC bs).length = cnt bs := by rw [e, ev_tab, tab_len]; omega
        rw [el, e]
        exact this
      · have := uneven45 x rv (rst bs) (fst bs) (cnt bs) (hp.below bl) (Is.below hi bl) hXr (hTb.below bl hTb.1) (by omega) hFi h1 h2
        rw [readC_2 (by omega) h0]
        exact this
  have HNO := Lib.hid (@readC_none bs)
  have HN3 := Lib.hid (@readC_3 bs)
  have hfst : wrap64 (num8 bs 3 : Nat) = fst bs := rfl
  have HI : Hid (¬ c = 11 → Is w (.slice (some ⟨b, off + 11, none⟩) (bs.length - 11) (c - 11)) (rst bs) ∧ Pl w (.slice (some ⟨b, off + 11, none⟩) (bs.length - 11) (c - 11)) (rst bs)) := Lib.hid fun _ => by
    have hP : Pl w (.slice (some ⟨b, off + 11, none⟩) (bs.length - 11) (c - 11)) (rst bs) := by
      by_cases h0 : bs.length = 11
      · exact .inl ⟨List.length_eq_zero_iff.1 (by omega), _, _, by rw [h0]⟩
      · refine .inr ⟨by omega, b, off + 11, c - 11, by rw [hrl], by omega, fun i hi => ?_⟩
        rw [rst_get, show off + 11 + i = off + (11 + i) from by omega]
        exact hcell _ (by omega)
    exact ⟨pl_is hP (.inr ⟨_, _, by rw [hrl]⟩), hP⟩
  have HI11 : Hid (bs.length = 11 → ∀ a cc, Is w (.slice (some a) 0 cc) (rst bs) ∧ Pl w (.slice (some a) 0 cc) (rst bs)) := Lib.hid fun h a cc => by
    have h0 : rst bs = [] := List.length_eq_zero_iff.1 (by omega)
    rw [h0]
    exact ⟨.inr ⟨a, cc, rfl, fun j u hj => by simp [u8s] at hj⟩, .inl ⟨rfl, _, _, rfl⟩⟩
  have hm0 : bs.getD 0 0 < 256 := getD_lt hX 0
  have hcn : cnt bs < 65536 := by
    have h1 := getD_lt hX 1
    have h2 := getD_lt hX 2
    unfold cnt
    omega
  have h8 := num8_lt hX 3
  obtain ⟨M, hM⟩ : ∃ M, M = bs.getD 0 0 := ⟨_, rfl⟩
  obtain ⟨N, hN⟩ : ∃ N, N = cnt bs := ⟨_, rfl⟩
  obtain ⟨V, hV⟩ : ∃ V, V = num8 bs 3 := ⟨_, rfl⟩
  obtain ⟨F, hF⟩ : ∃ F, F = fst bs := ⟨_, rfl⟩
  obtain ⟨l, hl⟩ : ∃ l, l = bs.length := ⟨_, rfl⟩
  rw [← hM] at G1 FK HN3 hm0
  rw [← hN] at G2 FK HNO hcn
  rw [← hV] at G3 hfst h8
  rw [← hF] at FK hfst
  rw [← hl] at h11 hc HI HI11 hb HNO ⊢
  clear hM hN hV hF hl hcell hX hTb hX11 h11l q0 q1 q2 hXr hrl hFi
  have HF := Lib.hid hfst
  clear hfst
  by_cases hc11 : c = 11
  · have hl11 : l = 11 := by omega
    have HJ := Lib.hid (HI11.out hl11)
    clear HI11 HI
    subst hl11
    subst hc11
    go_enter Tryz.func58, Tryz.ntmps58
    go_wp2_with fail
    refine F41.out.mono ?_
    rintro e w1 ⟨g, s, rfl, h1, hg, _, b1⟩
    have R1 := Lib.hid h1
    have B1 := Lib.hid b1
    clear h1 b1
    go_wp2_with fail
    refine (G1.out _ _ _ R1.out).mono ?_
    rintro e w2 ⟨rfl, h2, o2⟩
    have R2 := Lib.hid h2
    have B2 := Lib.hid (B1.out.trans (o2.below hg B1.out.size))
    clear h2 o2
    go_wp2_with fail
    refine (G2.out _ _ _ R2.out).mono ?_
    rintro e w3 ⟨rfl, h3, o3⟩
    have R3 := Lib.hid h3
    have B3 := Lib.hid (B2.out.trans (o3.below hg B2.out.size))
    clear h3 o3
    go_wp2_with fail
    refine (G3.out _ _ _ R3.out).mono ?_
    rintro e w4 ⟨rfl, o4⟩
    have B4 := Lib.hid (B3.out.trans (o4.below hg B3.out.size))
    clear o4
    go_upto_region 5 with (fail)
    rw [HF.out]
    clear F41 G1 G2 G3 R1 R2 R3 B1 B2 B3
    by_cases hbad : N < 1 ∨ 1000 < N
    · have HR := Lib.hid (HNO.out (.inr hbad))
      rcases hbad with h | h
      · go_wp2_with fail
        go_ret
        exact ⟨_, rfl, by rw [HR.out]; exact World.ownsRow_nil _ _ _ _, B4.out⟩
      · go_wp2_with fail
        go_ret
        exact ⟨_, rfl, by rw [HR.out]; exact World.ownsRow_nil _ _ _ _, B4.out⟩
    · have n1 : 1 ≤ N := by omega
      have n2 : N ≤ 1000 := by omega
      clear hbad
      by_cases hM0 : M = 0
      · have F5 := Lib.hid (FK.out 111 (.inl ⟨rfl, hM0⟩))
        have m0 : ((M : Int) == 0) = true := by simp; omega
        clear hM0
        go_wp2_with (go_at_call 111; refine (F5.out _ _ B4.out (HJ.out _ _).1 (HJ.out _ _).2 n1 n2).mono ?_; rintro e w5 ⟨r, rfl, o5, b5⟩; have O5 := Lib.hid o5; have B5 := Lib.hid b5; clear o5 b5)
        go_ret
        exact ⟨r, rfl, Go.Joins.ownsRow_le O5.out B4.out.size, B4.out.trans (B5.out.mono B4.out.size)⟩
      · have m0 : ((M : Int) == 0) = false := by simp; omega
        by_cases hM1 : M = 1
        · have F5 := Lib.hid (FK.out 112 (.inr (.inl ⟨rfl, hM1⟩)))
          have m1 : ((M : Int) == 1) = true := by simp; omega
          clear hM1 hM0
          go_wp2_with (go_at_call 112; refine (F5.out _ _ B4.out (HJ.out _ _).1 (HJ.out _ _).2 n1 n2).mono ?_; rintro e w5 ⟨r, rfl, o5, b5⟩; have O5 := Lib.hid o5; have B5 := Lib.hid b5; clear o5 b5)
          go_ret
          exact ⟨r, rfl, Go.Joins.ownsRow_le O5.out B4.out.size, B4.out.trans (B5.out.mono B4.out.size)⟩
        · have m1 : ((M : Int) == 1) = false := by simp; omega
          by_cases hM2 : M = 2
          · have F5 := Lib.hid (FK.out 113 (.inr (.inr ⟨rfl, hM2⟩)))
            have m2 : ((M : Int) == 2) = true := by simp; omega
            clear hM2 hM1 hM0
            go_wp2_with (go_at_call 113; refine (F5.out _ _ B4.out (HJ.out _ _).1 (HJ.out _ _).2 n1 n2).mono ?_; rintro e w5 ⟨r, rfl, o5, b5⟩; have O5 := Lib.hid o5; have B5 := Lib.hid b5; clear o5 b5)
            go_ret
            exact ⟨r, rfl, Go.Joins.ownsRow_le O5.out B4.out.size, B4.out.trans (B5.out.mono B4.out.size)⟩
          · have m2 : ((M : Int) == 2) = false := by simp; omega
            have HR := Lib.hid (HN3.out ⟨hM0, hM1, hM2⟩)
            clear hM2 hM1 hM0
            go_wp2_with fail
            go_ret
            exact ⟨_, rfl, by rw [HR.out]; exact World.ownsRow_nil _ _ _ _, B4.out⟩
  · have HJ := Lib.hid (HI.out hc11)
    clear HI11 HI
    go_enter Tryz.func58, Tryz.ntmps58
    go_wp2_with fail
    refine F41.out.mono ?_
    rintro e w1 ⟨g, s, rfl, h1, hg, _, b1⟩
    have R1 := Lib.hid h1
    have B1 := Lib.hid b1
    clear h1 b1
    go_wp2_with fail
    refine (G1.out _ _ _ R1.out).mono ?_
    rintro e w2 ⟨rfl, h2, o2⟩
    have R2 := Lib.hid h2
    have B2 := Lib.hid (B1.out.trans (o2.below hg B1.out.size))
    clear h2 o2
    go_wp2_with fail
    refine (G2.out _ _ _ R2.out).mono ?_
    rintro e w3 ⟨rfl, h3, o3⟩
    have R3 := Lib.hid h3
    have B3 := Lib.hid (B2.out.trans (o3.below hg B2.out.size))
    clear h3 o3
    go_wp2_with fail
    refine (G3.out _ _ _ R3.out).mono ?_
    rintro e w4 ⟨rfl, o4⟩
    have B4 := Lib.hid (B3.out.trans (o4.below hg B3.out.size))
    clear o4
    go_upto_region 5 with (fail)
    rw [HF.out]
    clear F41 G1 G2 G3 R1 R2 R3 B1 B2 B3
    by_cases hbad : N < 1 ∨ 1000 < N
    · have HR := Lib.hid (HNO.out (.inr hbad))
      rcases hbad with h | h
      · go_wp2_with fail
        go_ret
        exact ⟨_, rfl, by rw [HR.out]; exact World.ownsRow_nil _ _ _ _, B4.out⟩
      · go_wp2_with fail
        go_ret
        exact ⟨_, rfl, by rw [HR.out]; exact World.ownsRow_nil _ _ _ _, B4.out⟩
    · have n1 : 1 ≤ N := by omega
      have n2 : N ≤ 1000 := by omega
      clear hbad
      by_cases hM0 : M = 0
      · have F5 := Lib.hid (FK.out 111 (.inl ⟨rfl, hM0⟩))
        have m0 : ((M : Int) == 0) = true := by simp; omega
        clear hM0
        go_wp2_with (go_at_call 111; refine (F5.out _ _ B4.out HJ.out.1 HJ.out.2 n1 n2).mono ?_; rintro e w5 ⟨r, rfl, o5, b5⟩; have O5 := Lib.hid o5; have B5 := Lib.hid b5; clear o5 b5)
        go_ret
        exact ⟨r, rfl, Go.Joins.ownsRow_le O5.out B4.out.size, B4.out.trans (B5.out.mono B4.out.size)⟩
      · have m0 : ((M : Int) == 0) = false := by simp; omega
        by_cases hM1 : M = 1
        · have F5 := Lib.hid (FK.out 112 (.inr (.inl ⟨rfl, hM1⟩)))
          have m1 : ((M : Int) == 1) = true := by simp; omega
          clear hM1 hM0
          go_wp2_with (go_at_call 112; refine (F5.out _ _ B4.out HJ.out.1 HJ.out.2 n1 n2).mono ?_; rintro e w5 ⟨r, rfl, o5, b5⟩; have O5 := Lib.hid o5; have B5 := Lib.hid b5; clear o5 b5)
          go_ret
          exact ⟨r, rfl, Go.Joins.ownsRow_le O5.out B4.out.size, B4.out.trans (B5.out.mono B4.out.size)⟩
        · have m1 : ((M : Int) == 1) = false := by simp; omega
          by_cases hM2 : M = 2
          · have F5 := Lib.hid (FK.out 113 (.inr (.inr ⟨rfl, hM2⟩)))
            have m2 : ((M : Int) == 2) = true := by simp; omega
            clear hM2 hM1 hM0
            go_wp2_with (go_at_call 113; refine (F5.out _ _ B4.out HJ.out.1 HJ.out.2 n1 n2).mono ?_; rintro e w5 ⟨r, rfl, o5, b5⟩; have O5 := Lib.hid o5; have B5 := Lib.hid b5; clear o5 b5)
            go_ret
            exact ⟨r, rfl, Go.Joins.ownsRow_le O5.out B4.out.size, B4.out.trans (B5.out.mono B4.out.size)⟩
          · have m2 : ((M : Int) == 2) = false := by simp; omega
            have HR := Lib.hid (HN3.out ⟨hM0, hM1, hM2⟩)
            clear hM2 hM1 hM0
            go_wp2_with fail
            go_ret
            exact ⟨_, rfl, by rw [HR.out]; exact World.ownsRow_nil _ _ _ _, B4.out⟩

theorem read29 (w : World) (v : Value) (bs : List Nat) (hP : Pl w v bs) (hX : ∀ x ∈ bs, x < 256) (hTb : Tab w) (hb : bs.length ≤ 140737488353272) :
    Calls Tryz.prog 58 #[v] w fun e w' => Readed w bs e w' := by
  rcases hP with ⟨rfl, a, c, rfl⟩ | ⟨h0, b, off, c, rfl, hl, hc⟩
  · exact read_few w a [] c (by simp)
  · by_cases h : bs.length < 11
    · exact read_few w _ bs c h
    · exact read_more w b off c bs (by omega) hl hc hX hTb hb
end Tg
end Go.Proofs.YtjmddomkoholoaaGreatDoor

/- The program's side: Decode. -/
namespace Go.Proofs.YtjmddomkoholoaaGreatDoor
open Go.RowKit
namespace TDe
open Bm Mt Wr Pk Rp Cv Rd Rx Sz Tm Ti TEn Tg

/-- What Decode answers. -/
def Decoded (w : World) (bs : List Nat) (e : Ending) (w' : World) : Prop :=
  ((∃ T r, dec bs = some T ∧ e = .returned (.tuple #[r, .int .i64 0]) ∧ w'.ownsRow w.heap.size 2 1 r T.length (i64s T)) ∨
    (dec bs = none ∧ e = .returned (.tuple #[.slice none 0 0, .int .i64 2]))) ∧ Below w.heap.size w w'
theorem Decoded.ok {w w' : World} {bs : List Nat} {e : Ending} {T : List Int} (h : Decoded w bs e w') (hu : dec bs = some T) : ∃ r, e = .returned (.tuple #[r, .int .i64 0]) ∧ w'.ownsRow w.heap.size 2 1 r T.length (i64s T) ∧ Below w.heap.size w w' := by
  obtain ⟨⟨T', r, h1, he, ho⟩ | h, bl⟩ := h
  · rw [hu] at h1
    cases h1
    exact ⟨r, he, ho, bl⟩
  · rw [hu] at h; cases h.1
theorem Decoded.bad {w w' : World} {bs : List Nat} {e : Ending} (h : Decoded w bs e w') (hu : dec bs = none) : e = .returned (.tuple #[.slice none 0 0, .int .i64 2]) ∧ Below w.heap.size w w' := by
  obtain ⟨⟨T', r, h1, _⟩ | h, bl⟩ := h
  · rw [hu] at h1
    cases h1
  · exact ⟨h.2, bl⟩

set_option maxRecDepth 100000 in
set_option maxHeartbeats 1000000 in
theorem decode12 (w : World) (v : Value) (bs : List Nat) (hP : Pl w v bs) (hX : ∀ x ∈ bs, x < 256) (hTb : Tab w) (hb : bs.length ≤ 140737488353272) :
    Calls Tryz.prog 24 #[v] w fun e w' => Decoded w bs e w' := by
  have F29 := Lib.hid (read29 w v bs hP hX hTb hb)
  have hin := readC_in bs
  have hlt := bytes_lt (readC bs)
  have hdec : dec bs = if Ok (readC bs) ∧ bytesOf (readC bs) = bs then some (readC bs) else none := rfl
  unfold Readed at F29
  obtain ⟨T, hT⟩ : ∃ T, T = readC bs := ⟨_, rfl⟩
  rw [← hT] at F29 hin hlt hdec
  clear hT
  by_cases hO : Ok T
  · have F10 : Hid (∀ x r B, Below w.heap.size w x → World.ownsRow x B 2 1 r T.length (i64s T) → Calls Tryz.prog 44 #[r] x fun e w' => ∃ r', e = .returned (.tuple #[r', .int .i64 0]) ∧ (convert 22 9 r').run Tryz.prog w' = .ok (.string (str (bytesOf T))) w' ∧ (convert 22 9 v).run Tryz.prog w' = .ok (.string (str bs)) w' ∧ w'.ownsRow B 2 1 r T.length (i64s T) ∧ Below w.heap.size w w') :=
      Lib.hid fun x r B hb ho => (encode10 x r T (ii_own ho hin) (hTb.below hb hTb.1)).mono fun e w' h => by
        obtain ⟨r', he, ho', bl⟩ := Encoded.ok h hO
        exact ⟨r', he, conv_own ho', conv_pl (hP.below (hb.trans (bl.mono hb.size))), own_below ho bl, hb.trans (bl.mono hb.size)⟩
    by_cases h2 : bytesOf T = bs
    · have hu : Hid (dec bs = some T) := Lib.hid (by rw [hdec, if_pos ⟨hO, h2⟩])
      rw [h2] at F10
      obtain ⟨S, hS⟩ : ∃ S, S = str bs := ⟨_, rfl⟩
      rw [← hS] at F10
      have FE : Hid (∀ x u v, (convert 22 9 u).run Tryz.prog x = .ok (.string S) x → (convert 22 9 v).run Tryz.prog x = .ok (.string S) x → Calls Tryz.prog 55 #[u, v] x fun e w' => e = .returned (.bool true) ∧ w' = x) := Lib.hid fun x u v => equal_yes x u v S
      clear hP hX hTb hin hlt hdec hS h2 hO
      go_enter Tryz.func24, Tryz.ntmps24
      go_wp2_with fail
      refine F29.out.mono ?_
      rintro e w2 ⟨r2, rfl, o2, b2⟩
      have O2 := Lib.hid o2
      have B2 := Lib.hid b2
      clear o2 b2
      go_wp2_with fail
      refine (F10.out _ _ _ B2.out O2.out).mono ?_
      rintro e w3 ⟨r3, rfl, q1, q2, o3, b3⟩
      have O3 := Lib.hid o3
      have B3 := Lib.hid b3
      have F30 := Lib.hid (FE.out _ _ _ q1 q2)
      clear o3 b3 q1 q2
      go_wp2_with fail
      refine F30.out.mono ?_
      rintro e w4 ⟨rfl, h4⟩
      rw [h4]
      clear h4 w4
      go_wp2_with fail
      go_ret2
      exact ⟨.inl ⟨T, _, hu.out, rfl, O3.out⟩, B3.out⟩
    · have hu : Hid (dec bs = none) := Lib.hid (by rw [hdec, if_neg fun h => h2 h.2])
      have hst : ((str (bytesOf T)).toList == (str bs).toList) = false := toList_ne fun e => h2 (str_inj hlt hX e)
      obtain ⟨S, hS⟩ : ∃ S, S = str (bytesOf T) := ⟨_, rfl⟩
      obtain ⟨U, hU⟩ : ∃ U, U = str bs := ⟨_, rfl⟩
      rw [← hS, ← hU] at F10 hst
      have FE : Hid (∀ x u v, (convert 22 9 u).run Tryz.prog x = .ok (.string S) x → (convert 22 9 v).run Tryz.prog x = .ok (.string U) x → Calls Tryz.prog 55 #[u, v] x fun e w' => e = .returned (.bool false) ∧ w' = x) := Lib.hid fun x u v h3 h4 => equal_no x u v S U h3 h4 hst
      clear hP hX hTb hin hlt hdec hS hU h2 hO hst
      go_enter Tryz.func24, Tryz.ntmps24
      go_wp2_with fail
      refine F29.out.mono ?_
      rintro e w2 ⟨r2, rfl, o2, b2⟩
      have O2 := Lib.hid o2
      have B2 := Lib.hid b2
      clear o2 b2
      go_wp2_with fail
      refine (F10.out _ _ _ B2.out O2.out).mono ?_
      rintro e w3 ⟨r3, rfl, q1, q2, o3, b3⟩
      have B3 := Lib.hid b3
      have F30 := Lib.hid (FE.out _ _ _ q1 q2)
      clear o3 b3 q1 q2
      go_wp2_with fail
      refine F30.out.mono ?_
      rintro e w4 ⟨rfl, h4⟩
      rw [h4]
      clear h4 w4
      go_wp2_with fail
      go_ret2
      exact ⟨.inr ⟨hu.out, rfl⟩, B3.out⟩
  · have hu : Hid (dec bs = none) := Lib.hid (by rw [hdec, if_neg fun h => hO h.1])
    have F10 : Hid (∀ x r B, Below w.heap.size w x → World.ownsRow x B 2 1 r T.length (i64s T) → Calls Tryz.prog 44 #[r] x fun e w' => e = .returned (.tuple #[.slice none 0 0, .int .i64 1]) ∧ Below w.heap.size w w') :=
      Lib.hid fun x r B hb ho => (encode10 x r T (ii_own ho hin) (hTb.below hb hTb.1)).mono fun e w' h => by
        obtain ⟨he, bl⟩ := Encoded.bad h hO
        exact ⟨he, hb.trans (bl.mono hb.size)⟩
    clear hP hX hTb hin hlt hdec hO
    go_enter Tryz.func24, Tryz.ntmps24
    go_wp2_with fail
    refine F29.out.mono ?_
    rintro e w2 ⟨r2, rfl, o2, b2⟩
    have O2 := Lib.hid o2
    have B2 := Lib.hid b2
    clear o2 b2
    go_wp2_with fail
    refine (F10.out _ _ _ B2.out O2.out).mono ?_
    rintro e w3 ⟨rfl, b3⟩
    have B3 := Lib.hid b3
    clear b3
    go_wp2_with fail
    go_ret2
    exact ⟨.inr ⟨hu.out, rfl⟩, B3.out⟩
end TDe
end Go.Proofs.YtjmddomkoholoaaGreatDoor
