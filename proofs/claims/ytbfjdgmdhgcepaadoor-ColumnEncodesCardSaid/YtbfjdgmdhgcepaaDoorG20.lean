import Derived.Test.YtbfjdgmdhgcepaaDoorG19

/- Numbers as integers and as floats. -/
namespace Go.Proofs.YtbfjdgmdhgcepaaDoor
open Go.RowKit
namespace Ab
open Cm Wr Bm Pk Zs Vs Fo Cv Fl Ld En De Sa Lk Rw Ak

theorem mk_get0 (k : Int) (l : List Nat) (h : 0 < l.length) : (mk k l).getD 0 z0 = (k, l.getD 0 0, []) := by
  cases l with
  | nil => simp at h
  | cons x r => simp [mk]
theorem mk_one (k : Int) (l : List Nat) (h : 0 < l.length) : one (mk k l) = true := by
  unfold one; rw [mk_get0 k l h]; simp [mk]
theorem mk_ns (k : Int) (l : List Nat) : ns (mk k l) = l := by
  simp [mk, ns, Function.comp_def]
theorem mk_enc2 (l : List Nat) (h0 : 0 < l.length) (h1 : l.length ≤ 1000) : enc (mk 2 l) = (0, ibytes l) := by
  rw [enc_kind (by rw [mk_len]; omega) (by rw [mk_len]; exact h1) (by simp [mk, formed]) (mk_one 2 l h0), mk_get0 2 l h0, mk_ns]
  rfl
theorem mk_enc1 (l : List Nat) (h0 : 0 < l.length) (h1 : l.length ≤ 1000) (hf : ∀ x ∈ l, fin x = true) : enc (mk 1 l) = (0, pk (fbits l)) := by
  rw [enc_kind (by rw [mk_len]; omega) (by rw [mk_len]; exact h1) (by simp [mk, formed]; exact hf) (mk_one 1 l h0), mk_get0 1 l h0, mk_ns]
  rfl
theorem ibytes_le (l : List Nat) : (ibytes l).length ≤ 1 + 8 * l.length := by
  unfold ibytes
  have hs : ∀ (p : Nat) (l : List Nat), (sts p l).length = l.length := by
    intro p l
    induction l generalizing p with
    | nil => rfl
    | cons a r ih => simp [sts, ih]
  split
  · have := Ic.packs_le (sts 0 l); rw [hs] at this; simp; omega
  · simp [Mt.flat_len]; omega
theorem fbits_le (l : List Nat) (h : ∀ x ∈ l, x < 2 ^ 64) : (pk (fbits l)).length ≤ 20 + 10 * l.length := by
  rw [pk_len]
  cases l with
  | nil => simp [fbits]
  | cons x r =>
    have := fb_len r x (h x (by simp)) (fun y hy => h y (by simp [hy]))
    simp only [fbits, List.length_append, bv_len, List.length_cons]
    omega
def cl (x : Nat) : Nat := x &&& 13835058055282163711
theorem cl_lt {x : Nat} (h : x < 18446744073709551616) : cl x < 18446744073709551616 := Nat.lt_of_le_of_lt Nat.and_le_left h
/-- Two owned rows of unlike kinds share no block. -/
theorem apart {w : World} {B n m : Nat} {x y : Value} {a b : Int} {l r : List Nat} (hx : w.ownsRow B 35 3 x n (vcs (mk a l))) (hy : w.ownsRow B 35 3 y m (vcs (mk b r))) (hab : a ≠ b) (hn : n = l.length) (hm : m = r.length) (h0 : 0 < n)
    (h : 0 < m ∨ y = .slice none 0 0) : x.ownBlock = none ∨ x.ownBlock ≠ y.ownBlock := by
  right
  obtain ⟨g, c, rfl⟩ := Go.Joins.ownsRow_form hx h0
  rcases h with h | rfl
  · obtain ⟨g', c', rfl⟩ := Go.Joins.ownsRow_form hy h
    intro e
    obtain rfl : g = g' := by simpa [Value.ownBlock] using e
    have h1 := own_val hx 0 (.int .i64 a) (by cases l with | nil => simp at hn; omega | cons z r => rfl)
    have h2 := own_val hy 0 (.int .i64 b) (by cases r with | nil => simp at hm; omega | cons z r => rfl)
    rw [h1] at h2
    cases h2
    exact hab rfl
  · intro e; simp [Value.ownBlock] at e
theorem take_snoc {L : List Nat} {k : Nat} (h : k < L.length) : L.take (k + 1) = L.take k ++ [L.getD k 0] := by
  rw [List.take_add_one, List.getElem?_eq_getElem h, List.getD_eq_getElem?_getD, List.getElem?_eq_getElem h]; rfl

set_option maxRecDepth 100000 in
set_option maxHeartbeats 2000000 in
theorem bits6 (w : World) (v : Value) (L : List Nat) (h : Iu w v L) (hT : Tab w) (hD : Dt w) (hL : L.length ≤ 17592186044416) :
    Calls Tryd.prog 6 #[v] w fun e w' => e = .returned (.bool true) ∧ Below w.heap.size w w' := by
  have FA := Lib.hid (awake8 w hT hD)
  have HT := Lib.hid hT
  have HD := Lib.hid hD
  have HW := Lib.hid h.1
  have HI := Lib.hid h
  clear hT hD
  obtain ⟨i0, hi, hz0, hz1, hz2⟩ := info_parts info35
  obtain ⟨a, c, hv⟩ : ∃ a c, v = .slice a L.length c := by
    rcases h.2 with ⟨a, c, h1, h2⟩ | ⟨b, off, c, h1, _⟩
    · exact ⟨a, c, by rw [h1, h2]; rfl⟩
    · exact ⟨_, _, h1⟩
  have HC := Lib.hid (fun (k : Nat) (hk : k < L.length) => (show ∃ b off c', v = .slice (some ⟨b, off, none⟩) L.length c' ∧ L.length ≤ c' ∧ b < w.heap.size ∧ w.cell? ⟨b, off + k, none⟩ = some (.int .u64 (L.getD k 0 : Nat)) from by
    rcases h.2 with ⟨a, c, _, h2⟩ | ⟨b, off, c, h1, h2, h3, h4⟩
    · rw [h2] at hk; simp at hk
    · exact ⟨b, off, c, h1, h2, h3, h4 k hk⟩))
  have HV := Lib.hid hv
  subst hv
  obtain ⟨n, hn⟩ : ∃ n, n = L.length := ⟨_, rfl⟩
  have HN := Lib.hid hn
  rw [← hn] at HC HV hL ⊢
  clear h hn
  go_enter Tryd.func6, Tryd.ntmps6
  go_wp2_with fail
  refine FA.out.mono ?_
  rintro e w1 ⟨rfl, b1⟩
  have B1 := Lib.hid b1
  clear b1
  go_wp2_with fail
  go_loopw [3, 4, 18] (fun x y i wr => ∃ k j, k ≤ n ∧ i = .int .i64 (k : Nat) ∧ j = min k 1000 ∧ wr.ownsRow w1.heap.size 35 3 x j (vcs (mk 2 (L.take j))) ∧ wr.ownsRow w1.heap.size 35 3 y j (vcs (mk 1 ((L.take j).map cl))) ∧ (k = 0 → x = .slice none 0 0 ∧ y = .slice none 0 0) ∧ Below w1.heap.size w1 wr) (fun _ _ i _ => n - (intOf i).toNat)
  case atStart => exact ⟨0, 0, Nat.zero_le _, rfl, rfl, World.ownsRow_nil _ _ _ _, World.ownsRow_nil _ _ _ _, fun _ => ⟨rfl, rfl⟩, Below.refl _ _⟩
  case round =>
    obtain ⟨k, j, hk, rfl, hj, hox, hoy, hnil, hbl⟩ := hrel
    have HX := Lib.hid hox
    have HY := Lib.hid hoy
    have HBL := Lib.hid hbl
    have HNIL := Lib.hid hnil
    clear hox hoy hbl hnil
    by_cases hkn : k < n
    · by_cases hk1 : k < 1000
      · obtain rfl : k = j := by omega
        clear hj
        obtain ⟨b, off, c', hs, hc1, hc2, hc3⟩ := HC.out k hkn
        obtain ⟨rfl, rfl⟩ : a = some ⟨b, off, none⟩ ∧ c = c' := by cases hs; exact ⟨rfl, rfl⟩
        have e1 := (World.cell?_of_block ((B1.out.trans (HBL.out.mono B1.out.size)).block b hc2)).trans hc3
        obtain ⟨Z, hZ⟩ : ∃ Z, Z = L.getD k 0 := ⟨_, rfl⟩
        rw [← hZ] at e1
        have hZl : Z < 18446744073709551616 := by
          rw [hZ, List.getD_eq_getElem?_getD, List.getElem?_eq_getElem (by rw [← HN.out]; exact hkn), Option.getD_some]
          exact HW.out _ (List.getElem_mem _)
        have hcl := clear62' Z hZl
        obtain ⟨C, hC⟩ : ∃ C, C = Z &&& 13835058055282163711 := ⟨_, rfl⟩
        rw [← hC] at hcl
        have HZ := Lib.hid hZ
        have HCC := Lib.hid hC
        have HC3 := Lib.hid hc3
        clear hZ hC hs hc3
        have hbl : b < wr.heap.size := by have := HBL.out.size; have := B1.out.size; omega
        go_wp2_with (at_builtin; refine wpList_append_own _ rfl (.tmp 23) (.tmp 29) 22 rfl w1.heap.size 35 i0 (.agg #[.int .i64 0, .int .u64 0, .string ⟨#[]⟩]) 3 32 Tryd.underlying22 hi hz0 hz1 hz2 rfl (by decide) _ _ _ rfl (HX.out.alloc _) ⟨wr.heap.size, 0, none⟩ 1 1 [.int .i64 2, .int .u64 (Z : Nat), .string ⟨#[]⟩] rfl rfl (cells3_new _ _ _ _ _) ?c2 ?c3 ?c4 ?c5 ?_)
        case c2 => intro u hu; simp at hu; rcases hu with rfl | rfl | rfl <;> rfl
        case c3 => unfold maxLen; omega
        case c4 => omega
        case c5 => have := HBL.out.size; simp; omega
        intro v6 w6 h6 g6 _
        have hlk : (L.take k).length = k := by rw [List.length_take, ← HN.out]; omega
        have hsep : u4.ownBlock = none ∨ u4.ownBlock ≠ u3.ownBlock := by
          by_cases h0 : k = 0
          · left; rw [(HNIL.out h0).2]; rfl
          · exact apart HY.out HX.out (by decide) (by rw [List.length_map, hlk]) hlk.symm (by omega) (.inl (by omega))
        have HE := Lib.hid (show w6.ownsRow w1.heap.size 35 3 v6 (k + 1) (vcs (mk 2 (L.take (k + 1)))) ∧ w6.ownsRow w1.heap.size 35 3 u4 k (vcs (mk 1 ((L.take k).map cl))) ∧ Below w1.heap.size w1 w6 from ⟨by rw [take_snoc (by rw [← HN.out]; exact hkn), ← HZ.out, mk_snoc, vcs_snoc, vcs_one_cell]; exact h6,
          (HY.out.alloc _).kept g6 hsep, (HBL.out.alloc HBL.out.size _).grown g6 (by have := HBL.out.size; simp; omega) (fun r hr => (HX.out.lt r hr).1)⟩)
        have hsep2 : v6.ownBlock = none ∨ v6.ownBlock ≠ u4.ownBlock := apart HE.out.1 HE.out.2.1 (by decide) (by rw [List.length_take, ← HN.out]; omega) (by rw [List.length_map, hlk]) (by omega) (by
          by_cases h0 : k = 0
          · exact .inr (HNIL.out h0).2
          · exact .inl (by omega))
        have HS2 := Lib.hid hsep2
        have e6 := (World.cell?_of_block ((B1.out.trans (HE.out.2.2.mono B1.out.size)).block b hc2)).trans (show w.cell? ⟨b, off + k, none⟩ = some (.int .u64 (Z : Nat)) from by rw [HZ.out]; exact HC3.out)
        have hbl6 : b < w6.heap.size := by have := HE.out.2.2.size; have := B1.out.size; omega
        clear h6 g6 hsep hsep2 e1 hbl
        go_wp2_with (at_builtin; refine wpList_append_own _ rfl (.tmp 31) (.tmp 38) 22 rfl w1.heap.size 35 i0 (.agg #[.int .i64 0, .int .u64 0, .string ⟨#[]⟩]) 3 32 Tryd.underlying22 hi hz0 hz1 hz2 rfl (by decide) _ _ _ rfl (HE.out.2.1.alloc _) ⟨w6.heap.size, 0, none⟩ 1 1 [.int .i64 1, .int .u64 (C : Nat), .string ⟨#[]⟩] rfl rfl (cells3_new _ _ _ _ _) ?c2 ?c3 ?c4 ?c5 ?_)
        case c2 => intro u hu; simp at hu; rcases hu with rfl | rfl | rfl <;> rfl
        case c3 => unfold maxLen; omega
        case c4 => omega
        case c5 => have := HE.out.2.2.size; simp; omega
        intro v7 w7 h7 g7 _
        have HE7 := Lib.hid (show w7.ownsRow w1.heap.size 35 3 v6 (k + 1) (vcs (mk 2 (L.take (k + 1)))) ∧ w7.ownsRow w1.heap.size 35 3 v7 (k + 1) (vcs (mk 1 ((L.take (k + 1)).map cl))) ∧ Below w1.heap.size w1 w7 from ⟨(HE.out.1.alloc _).kept g7 HS2.out,
          by rw [take_snoc (by rw [← HN.out]; exact hkn), ← HZ.out, List.map_append, List.map_singleton, show cl Z = C from HCC.out.symm, mk_snoc, vcs_snoc, vcs_one_cell]; simpa only [List.map_take] using h7,
          (HE.out.2.2.alloc HE.out.2.2.size _).grown g7 (by have := HE.out.2.2.size; simp; omega) (fun r hr => (HE.out.2.1.lt r hr).1)⟩)
        clear h7 g7
        go_wp2_with fail
        go_roundw
        case rel => exact ⟨k + 1, k + 1, by omega, by go_num, by omega, HE7.out.1, HE7.out.2.1, fun h => by omega, HE7.out.2.2⟩
        case measure => simp [intOf]; omega
      · have HJ := Lib.hid hj
        clear hj
        go_wp2_with fail
        go_roundw
        case rel => exact ⟨k + 1, j, by omega, by go_num, by have := HJ.out; omega, HX.out, HY.out, fun h => by omega, HBL.out⟩
        case measure => simp [intOf]; omega
    · obtain rfl : n = k := by omega
      by_cases h0 : j = 0
      · subst h0
        obtain ⟨hx0, hy0⟩ := HNIL.out (by omega)
        subst hx0 hy0
        go_wp2_with fail
        go_ret
        exact ⟨rfl, B1.out.trans (HBL.out.mono B1.out.size)⟩
      · have hj1 : j ≤ 1000 := by omega
        have hjn : (L.take j).length = j := by rw [List.length_take, ← HN.out]; omega
        have hlt := Lib.hid (show ∀ x ∈ L.take j, x < 18446744073709551616 from fun x hx => HW.out x (List.mem_of_mem_take hx))
        obtain ⟨P, hP⟩ : ∃ P, P = L.take j := ⟨_, rfl⟩
        rw [← hP] at HX HY hlt hjn
        obtain ⟨R, hR⟩ : ∃ R, R = P.map cl := ⟨_, rfl⟩
        rw [← hR] at HY
        have hRl : R.length = j := by rw [hR, List.length_map, hjn]
        have hRt := Lib.hid (show ∀ x ∈ R, x < 18446744073709551616 from fun x hx => by
          rw [hR] at hx
          obtain ⟨z, hz, rfl⟩ := List.mem_map.1 hx
          exact cl_lt (hlt.out z hz))
        have hRf := Lib.hid (show ∀ x ∈ R, fin x = true from fun x hx => by
          rw [hR] at hx
          obtain ⟨z, hz, rfl⟩ := List.mem_map.1 hx
          exact clear62 z)
        have W2 := Lib.hid (mk_wv (k := 2) (.inr (.inl rfl)) hlt.out)
        have W1 := Lib.hid (mk_wv (k := 1) (.inl rfl) hRt.out)
        have E2 := Lib.hid (mk_enc2 P (by omega) (by omega))
        have E1 := Lib.hid (mk_enc1 R (by omega) (by omega) hRf.out)
        have N2 := ibytes_le P
        have N1 := fbits_le R hRt.out
        have V2 := Lib.hid (vi_own (T := mk 2 P) (by rw [mk_len, hjn]; exact HX.out) (fun x hx => (W2.out x hx).2))
        have V1 := Lib.hid (vi_own (T := mk 1 R) (by rw [mk_len, hRl]; exact HY.out) (fun x hx => (W1.out x hx).2))
        have L2 := Lib.hid (enc_lt (T := mk 2 P) (fun x hx => (W2.out x hx).2))
        have L1 := Lib.hid (enc_lt (T := mk 1 R) (fun x hx => (W1.out x hx).2))
        have O2 := Lib.hid (show Of 2 j (ibytes P) (mk 2 P) from ⟨by rw [mk_len, hjn], W2.out, E2.out⟩)
        have O1 := Lib.hid (show Of 1 j (pk (fbits R)) (mk 1 R) from ⟨by rw [mk_len, hRl], W1.out, E1.out⟩)
        rw [E2.out] at L2
        rw [E1.out] at L1
        obtain ⟨C2, hC2⟩ : ∃ b, b = ibytes P := ⟨_, rfl⟩
        obtain ⟨C1, hC1⟩ : ∃ b, b = pk (fbits R) := ⟨_, rfl⟩
        rw [← hC2] at E2 N2 L2 O2
        rw [← hC1] at E1 N1 L1 O1
        have M2 : C2.length ≤ 100000 := by omega
        have M1 : C1.length ≤ 100000 := by omega
        have BB := Lib.hid (B1.out.trans (HBL.out.mono B1.out.size))
        have F1 := Lib.hid (fun (y : World) (hb : Below w.heap.size w y) (vv : Value) (T : List Vl) (hv : Vi y vv T) => encode10 y vv T hv (HT.out.below hb HT.out.1) (HD.out.below hb (by have := HD.out.1; omega)))
        have F2 := Lib.hid (fun (y : World) (hb : Below w.heap.size w y) (vv : Value) (bs : List Nat) (kk nn : Int) (hB : By y vv bs) (hX : ∀ b ∈ bs, b < 256) (hl : bs.length ≤ 100000) => decode12 y vv bs kk nn hB hX (by omega) (HT.out.below hb HT.out.1) (HD.out.below hb (by have := HD.out.1; omega)))
        obtain ⟨gx, cx, rfl⟩ := Go.Joins.ownsRow_form HX.out (by omega)
        obtain ⟨gy, cy, rfl⟩ := Go.Joins.ownsRow_form HY.out (by omega)
        have hz0 : ((j : Int) == 0) = false := by rw [beq_eq_false_iff_ne]; omega
        clear HI HC HN hP hR hC1 hC2 HNIL hj N1 N2 hjn hRl hk hkn
        go_wp2_with fail
        refine (F1.out wr BB.out _ _ V2.out).mono ?_
        rintro e w4 ⟨r4, rfl, o4, b4⟩
        rw [E2.out] at o4 ⊢
        have Y4 := Lib.hid (by_own o4)
        have HB4 := Lib.hid b4
        have B4 := Lib.hid (BB.out.trans (b4.mono BB.out.size))
        clear o4 b4
        go_wp2_with fail
        refine (F2.out w4 B4.out _ C2 2 j Y4.out L2.out M2).mono ?_
        rintro e w5 ⟨⟨T, r5, rfl, o5, of5, un5⟩ | ⟨hno, _⟩, b5⟩
        case inr => exact absurd O2.out (hno _)
        obtain rfl : mk 2 P = T := un5 _ O2.out
        have V5 := Lib.hid (vi_own o5 (fun x hx => (W2.out x hx).2))
        have B5 := Lib.hid (B4.out.trans (b5.mono B4.out.size))
        have V25 := Lib.hid ((V2.out.below HB4.out).below b5)
        have V15 := Lib.hid ((V1.out.below HB4.out).below b5)
        clear o5 of5 un5 b5
        go_wp2_with fail
        refine (F1.out w5 B5.out _ _ V15.out).mono ?_
        rintro e w6 ⟨r6, rfl, o6, b6⟩
        rw [E1.out] at o6 ⊢
        have Y6 := Lib.hid (by_own o6)
        have HB6 := Lib.hid b6
        have B6 := Lib.hid (B5.out.trans (b6.mono B5.out.size))
        clear o6 b6
        go_wp2_with fail
        refine (F2.out w6 B6.out _ C1 1 j Y6.out L1.out M1).mono ?_
        rintro e w7 ⟨⟨T, r7, rfl, o7, of7, un7⟩ | ⟨hno, _⟩, b7⟩
        case inr => exact absurd O1.out (hno _)
        obtain rfl : mk 1 R = T := un7 _ O1.out
        have V7 := Lib.hid (vi_own o7 (fun x hx => (W1.out x hx).2))
        have B7 := Lib.hid (B6.out.trans (b7.mono B6.out.size))
        have V17 := Lib.hid ((V15.out.below HB6.out).below b7)
        have V27 := Lib.hid ((V25.out.below HB6.out).below b7)
        have V57 := Lib.hid ((V5.out.below HB6.out).below b7)
        clear o7 of7 un7 b7
        have G1 := Lib.hid (same_yes w7 _ _ _ V57.out V27.out (by have := O2.out.1; omega))
        have G2 := Lib.hid (fun (y : World) (hb : Below w7.heap.size w7 y) => same_yes y _ _ _ (V7.out.below hb) (V17.out.below hb) (by have := O1.out.1; omega))
        go_wp2_with fail
        refine G1.out.mono ?_
        rintro e w8 ⟨rfl, b8⟩
        have HB8 := Lib.hid b8
        clear b8
        go_wp2_with fail
        refine (G2.out w8 HB8.out).mono ?_
        rintro e w9 ⟨rfl, b9⟩
        have HB9 := Lib.hid (HB8.out.trans (b9.mono HB8.out.size))
        clear b9
        go_wp2_with fail
        go_ret
        exact ⟨rfl, B7.out.trans (HB9.out.mono B7.out.size)⟩
end Ab
end Go.Proofs.YtbfjdgmdhgcepaaDoor
