import Derived.Test.YtjmddomkoholoaaGreatDoorG48
import Derived.Test.YtjmddomkoholoaaGreatDoorG29
import Derived.Test.YtjmddomkoholoaaGreatDoorG27

/- The document's side: read and Decode. -/
namespace Go.Proofs.YtjmddomkoholoaaGreatDoor
open Go.RowKit
namespace Rr
open Bm Mt Wr Pk Rp Cv Rd Rx Ry Ux Sz Tm Ti Lu Tg TEn TDe

theorem rest_cell {w : World} {b off : Nat} {bs : List Nat} (hcell : ∀ i, i < bs.length → w.cell? ⟨b, off + i, none⟩ = some (.int .u8 (bs.getD i 0 : Nat))) (i : Nat) (hi : i < (rst bs).length) :
    w.cell? ⟨b, off + 11 + i, none⟩ = some (.int .u8 ((rst bs).getD i 0 : Nat)) := by
  rw [rst_len] at hi
  rw [rst_get, show off + 11 + i = off + (11 + i) from by omega]
  exact hcell _ (by omega)
theorem rest_pl {w : World} {b off c : Nat} {bs : List Nat} (h11 : 11 ≤ bs.length) (hc : bs.length ≤ c) (hcell : ∀ i, i < bs.length → w.cell? ⟨b, off + i, none⟩ = some (.int .u8 (bs.getD i 0 : Nat))) {rv : Value} (h : RV b off c (rst bs).length rv) : Pl w rv (rst bs) := by
  have hrl := rst_len bs
  rcases h with ⟨_, rfl⟩ | ⟨h, a, cc, rfl⟩
  · by_cases h0 : (rst bs).length = 0
    · exact .inl ⟨List.length_eq_zero_iff.1 h0, _, _, by rw [h0]⟩
    · exact .inr ⟨by omega, b, off + 11, c - 11, rfl, by omega, fun i hi => rest_cell hcell i hi⟩
  · exact .inl ⟨List.length_eq_zero_iff.1 (by omega), _, _, rfl⟩
theorem unpacks_get (rs : List Nat) (J : Nat) : ((unpacks rs (J : Int)).getD []).length ≤ J ∧ ∀ k, ((unpacks rs (J : Int)).getD []).getD k 0 < 18446744073709551616 := by
  cases hu : unpacks rs (J : Int) with
  | none => exact ⟨by simp, fun k => by simp⟩
  | some l =>
    refine ⟨by simp only [Option.getD_some]; rw [unpacks_len hu]; exact Nat.le_refl _, fun k => ?_⟩
    simp only [Option.getD_some]
    unfold unpacks at hu
    split at hu
    · cases hr : reads (J : Int).toNat [] (wordsOf rs (rs.length / 8)) with
      | none => rw [hr] at hu; cases hu
      | some l' =>
        rw [hr] at hu
        simp only [Option.bind_some] at hu
        split at hu
        · cases hu
          exact Nat.lt_trans ((reads_small hr small_nil).get k) (by decide)
        · cases hu
    · cases hu

theorem rread28 (w : World) (v : Value) (bs : List Nat) (hP : Pl w v bs) (hX : ∀ x ∈ bs, x < 256) (hb : bs.length ≤ 140737488353272) : Calls Tryz.prog 51 #[v] w fun e w' => Rreads w bs e w' := by
  rcases hP with ⟨rfl, a, c, rfl⟩ | ⟨h0, b, off, c, rfl, hl, hcell⟩
  · exact rr_few w a [] c (by simp)
  · by_cases h11 : bs.length < 11
    · exact rr_few w _ bs c h11
    · by_cases hN : cnt bs < 1 ∨ 1000 < cnt bs
      · exact rr_bad w b off c bs (by omega) hcell hX hb hN
      · have hgood : ¬ (bs.length < 11 ∨ cnt bs < 1 ∨ 1000 < cnt bs) := by omega
        have hFi := fst_in bs
        have hrl := rst_len bs
        have hXr := drop_lt hX 11
        have P : Pre w b off c bs.length bs (cnt bs) (num8 bs 3) (bs.getD 0 0) (fst bs) := {
          a1 := at12 w b off bs.length c bs hX hb (by omega) hcell
          a3 := at38 w b off bs.length c bs hX hb (by omega) hcell
          m0 := hcell 0 (by omega)
          hb := cell_lt (hcell 0 (by omega))
          l11 := by omega
          lc := hl
          n1 := by omega
          n2 := by omega
          f := rfl
          hF := hFi }
        have h38 : R38 w b off (c - 11) (rst bs).length (rst bs) := fun x k hx hk => readat17 x b (off + 11) (rst bs).length (c - 11) (rst bs) (8 * k) hXr (by omega) hk (fun i hi => (hx.cell (cell_lt (rest_cell hcell i hi))).trans (rest_cell hcell i hi))
        by_cases h0 : bs.getD 0 0 = 0
        · by_cases hc : c = 11
          · refine rr_eleven w b off c bs.length bs _ _ _ _ P (.inl h0) hc ?_
            rw [readR_0 hgood h0, show (rst bs).length = 0 from by omega]
            simp [tab, wh]
          · exact rr_zero w b off c bs.length (rst bs).length bs (rst bs) _ _ _ _ P h0 hc hrl rfl hb h38 (readR_0 hgood h0)
        · by_cases h1 : bs.getD 0 0 = 1
          · by_cases h8 : 8 ≤ (rst bs).length
            · refine rr_one w b off c bs.length (rst bs).length bs _ _ _ (num8 (rst bs) 0) _ P h1 (by omega) hrl h8 hb (fun x hx => ?_) (readR_1 hgood h1 h8)
              exact h38 x 0 hx (by omega)
            · by_cases hc : c = 11
              · exact rr_eleven w b off c bs.length bs _ _ _ _ P (.inr h1) hc (readR_1s hgood h1 h8)
              · exact rr_short w b off c bs.length (rst bs).length bs _ _ _ _ P h1 hc hrl (by omega) (readR_1s hgood h1 h8)
          · by_cases h2 : bs.getD 0 0 = 2
            · obtain ⟨u1, u2⟩ := unpacks_get (rst bs) (cnt bs - 1)
              refine rr_two w b off c bs.length (rst bs).length bs ((unpacks (rst bs) ((cnt bs - 1 : Nat) : Int)).getD []) _ _ _ (cnt bs - 1) _ P h2 hrl rfl u1 u2 (fun x rv hx hrv => ?_) (readR_2 hgood h2)
              refine (refunpack10 x rv (rst bs) ((cnt bs - 1 : Nat) : Int) ((rest_pl (by omega) hl hcell hrv).below hx) hXr (by omega) (by omega) (by omega) (by omega)).mono fun e w' h => ?_
              cases hu : unpacks (rst bs) ((cnt bs - 1 : Nat) : Int) with
              | none =>
                obtain ⟨he, bl⟩ := Unpacked.bad h hu
                exact ⟨_, _, he, ⟨by simp, .inl ⟨_, _, rfl, rfl⟩⟩, fun g hg => by simp [Value.ownBlock] at hg, bl⟩
              | some l =>
                obtain ⟨hS, _, r, he, ho, bl⟩ := Unpacked.ok h hu
                exact ⟨r, 0, he, iu_own ho (small64 hS), fun g hg => (ho.lt g hg).1, bl⟩
            · exact rr_other w b off c bs.length bs _ _ _ _ P ⟨h0, h1, h2⟩ (readR_3 hgood ⟨h0, h1, h2⟩)

set_option maxRecDepth 100000 in
set_option maxHeartbeats 1000000 in
theorem rdecode11 (w : World) (v : Value) (bs : List Nat) (hP : Pl w v bs) (hX : ∀ x ∈ bs, x < 256) (hb : bs.length ≤ 140737488353272) :
    Calls Tryz.prog 21 #[v] w fun e w' => Decoded w bs e w' := by
  have F28 := Lib.hid (rread28 w v bs hP hX hb)
  have hin := readR_in bs
  have hlt := bytes_lt (readR bs)
  have hdec := dec_R bs
  unfold Rreads at F28
  obtain ⟨T, hT⟩ : ∃ T, T = readR bs := ⟨_, rfl⟩
  rw [← hT] at F28 hin hlt hdec
  clear hT
  by_cases hO : Ok T
  · have F28t : Hid (Calls Tryz.prog 51 #[v] w fun e w' => ∃ r, e = .returned (.tuple #[r, .bool true]) ∧ w'.ownsRow w.heap.size 2 1 r T.length (i64s T) ∧ Below w.heap.size w w') := Lib.hid (F28.out.mono fun e w' ⟨r, q, he, ho, hq, bl⟩ => by
      cases q with
      | true => exact ⟨r, he, ho, bl⟩
      | false =>
        have := hq rfl
        rw [this] at hO
        exact absurd hO.1 (by decide))
    have F9 : Hid (∀ x r B, Below w.heap.size w x → World.ownsRow x B 2 1 r T.length (i64s T) → Calls Tryz.prog 52 #[r] x fun e w' => ∃ r', e = .returned (.tuple #[r', .int .i64 0]) ∧ (convert 22 9 r').run Tryz.prog w' = .ok (.string (str (bytesOf T))) w' ∧ (convert 22 9 v).run Tryz.prog w' = .ok (.string (str bs)) w' ∧ w'.ownsRow B 2 1 r T.length (i64s T) ∧ Below w.heap.size w w') :=
      Lib.hid fun x r B hb ho => (refencode9 x r T (ii_own ho hin)).mono fun e w' h => by
        obtain ⟨r', he, ho', bl⟩ := Encoded.ok h hO
        exact ⟨r', he, conv_own ho', conv_pl (hP.below (hb.trans (bl.mono hb.size))), own_below ho bl, hb.trans (bl.mono hb.size)⟩
    by_cases h2 : bytesOf T = bs
    · have hu : Hid (dec bs = some T) := Lib.hid (by rw [← hdec, if_pos ⟨hO, h2⟩])
      rw [h2] at F9
      obtain ⟨S, hS⟩ : ∃ S, S = str bs := ⟨_, rfl⟩
      rw [← hS] at F9
      clear hP hX hin hlt hdec hS h2 hO F28
      go_enter Tryz.func21, Tryz.ntmps21
      go_wp2_with fail
      refine F28t.out.mono ?_
      rintro e w2 ⟨r2, rfl, o2, b2⟩
      have O2 := Lib.hid o2
      have B2 := Lib.hid b2
      clear o2 b2
      go_wp2_with fail
      refine (F9.out _ _ _ B2.out O2.out).mono ?_
      rintro e w3 ⟨r3, rfl, q1, q2, o3, b3⟩
      have O3 := Lib.hid o3
      have B3 := Lib.hid b3
      clear o3 b3
      go_wp2_with fail
      go_ret2
      exact ⟨.inl ⟨T, _, hu.out, rfl, O3.out⟩, B3.out⟩
    · have hu : Hid (dec bs = none) := Lib.hid (by rw [← hdec, if_neg fun h => h2 h.2])
      have hst : ((str (bytesOf T)).toList == (str bs).toList) = false := toList_ne fun e => h2 (str_inj hlt hX e)
      obtain ⟨S, hS⟩ : ∃ S, S = str (bytesOf T) := ⟨_, rfl⟩
      obtain ⟨U, hU⟩ : ∃ U, U = str bs := ⟨_, rfl⟩
      rw [← hS, ← hU] at F9 hst
      clear hP hX hin hlt hdec hS hU h2 hO F28
      go_enter Tryz.func21, Tryz.ntmps21
      go_wp2_with fail
      refine F28t.out.mono ?_
      rintro e w2 ⟨r2, rfl, o2, b2⟩
      have O2 := Lib.hid o2
      have B2 := Lib.hid b2
      clear o2 b2
      go_wp2_with fail
      refine (F9.out _ _ _ B2.out O2.out).mono ?_
      rintro e w3 ⟨r3, rfl, q1, q2, o3, b3⟩
      have B3 := Lib.hid b3
      clear o3 b3
      go_wp2_with fail
      go_ret2
      exact ⟨.inr ⟨hu.out, rfl⟩, B3.out⟩
  · have hu : Hid (dec bs = none) := Lib.hid (by rw [← hdec, if_neg fun h => hO h.1])
    have F28t : Hid (Calls Tryz.prog 51 #[v] w fun e w' => ∃ r q, e = .returned (.tuple #[r, .bool q]) ∧ w'.ownsRow w.heap.size 2 1 r T.length (i64s T) ∧ Below w.heap.size w w') := Lib.hid (F28.out.mono fun e w' ⟨r, q, he, ho, _, bl⟩ => ⟨r, q, he, ho, bl⟩)
    have F9 : Hid (∀ x r B, Below w.heap.size w x → World.ownsRow x B 2 1 r T.length (i64s T) → Calls Tryz.prog 52 #[r] x fun e w' => e = .returned (.tuple #[.slice none 0 0, .int .i64 1]) ∧ Below w.heap.size w w') :=
      Lib.hid fun x r B hb ho => (refencode9 x r T (ii_own ho hin)).mono fun e w' h => by
        obtain ⟨he, bl⟩ := Encoded.bad h hO
        exact ⟨he, hb.trans (bl.mono hb.size)⟩
    clear hP hX hin hlt hdec hO F28
    go_enter Tryz.func21, Tryz.ntmps21
    go_wp2_with fail
    refine F28t.out.mono ?_
    rintro e w2 ⟨r2, q, rfl, o2, b2⟩
    have O2 := Lib.hid o2
    have B2 := Lib.hid b2
    clear o2 b2
    cases q with
    | true =>
      go_wp2_with fail
      refine (F9.out _ _ _ B2.out O2.out).mono ?_
      rintro e w3 ⟨rfl, b3⟩
      have B3 := Lib.hid b3
      clear b3
      go_wp2_with fail
      go_ret2
      exact ⟨.inr ⟨hu.out, rfl⟩, B3.out⟩
    | false =>
      go_wp2_with fail
      refine (F9.out _ _ _ B2.out O2.out).mono ?_
      rintro e w3 ⟨rfl, b3⟩
      have B3 := Lib.hid b3
      clear b3
      go_wp2_with fail
      go_ret2
      exact ⟨.inr ⟨hu.out, rfl⟩, B3.out⟩
end Rr
end Go.Proofs.YtjmddomkoholoaaGreatDoor
