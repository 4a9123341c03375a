import Derived.Test.YtjmddomkoholoaaGreatDoorG36
import Derived.Test.YtjmddomkoholoaaGreatDoorG17
import Derived.Test.YtjmddomkoholoaaGreatDoorG25
import Derived.Deep.RegionHeld3
import Derived.Deep.RegionHeldLaw

/- The program's Encode of points. -/
namespace Go.Proofs.YtjmddomkoholoaaGreatDoor
open Go.RowKit
namespace Ke
open Cm Wr Bm Pk Zs Vs Fo Cv Fl Ld En Kd Kp Kt Kh Kg

theorem fbits_len (U : List Nat) (hU : ∀ x ∈ U, x < 2 ^ 64) : (fbits U).length ≤ 64 + 77 * U.length := by
  cases U with
  | nil => simp [fbits]
  | cons x r =>
    simp only [fbits, List.length_append, bv_len, List.length_cons]
    have := fb_len r x (hU x (List.mem_cons_self ..)) (fun y hy => hU y (List.mem_cons_of_mem _ hy))
    omega
/-- A column's bytes: one at least, and not too many. -/
theorem enc_size {T : List Vl} (hw : ∀ v ∈ T, Wv v) (h : (enc T).1 = 0) : 1 ≤ (enc T).2.length ∧ (enc T).2.length ≤ 100000000 := by
  obtain ⟨h1, h2, h3, h4⟩ := enc_formed h
  have hns : (ns T).length = T.length := by simp [ns]
  have hn64 : ∀ x ∈ ns T, x < 2 ^ 64 := fun x hx => by
    simp only [ns, List.mem_map] at hx
    obtain ⟨v, hv, rfl⟩ := hx
    exact (hw v hv).2.2.1
  rw [enc_kind (by omega) h2 h3 h4] at h ⊢
  split
  · have h5 := fbits_len (ns T) hn64
    have h6 : 1 ≤ (fbits (ns T)).length := by
      cases hU : ns T with
      | nil => rw [hU] at hns; simp at hns; omega
      | cons x r => simp [fbits, bv_len]; omega
    simp only [pk_len]
    omega
  · split
    · show 1 ≤ (ibytes (ns T)).length ∧ (ibytes (ns T)).length ≤ 100000000
      unfold ibytes
      split
      · have h7 := Mt.packs_len (sts 0 (ns T))
        have h8 := Mt.words_len (sts 0 (ns T))
        rw [sts_len] at h8
        simp only [List.length_cons]
        omega
      · have h7 := Mt.flat_len (ns T)
        simp only [List.length_cons]
        omega
    · split
      · have h5 : (bbits (ns T)).length = (ns T).length := by simp [bbits]
        simp only [pk_len]
        omega
      · rename_i k1 k2 k3
        rw [if_neg k1, if_neg k2, if_neg k3] at h
        unfold senc at h ⊢
        split
        · rename_i h9; rw [if_pos h9] at h; cases h
        · rename_i h9
          show 1 ≤ (sbytes (laidT (ts T))).length ∧ (sbytes (laidT (ts T))).length ≤ 100000000
          unfold sbytes
          split <;> simp only [List.length_cons] <;> omega

/-- What Encode answers. -/
def BEnc (w : World) (P : List Pnt) (e : Ending) (w' : World) : Prop :=
  ∃ r, e = .returned (.tuple #[r, .int .i64 ((enc8 P).1 : Nat)]) ∧ w'.ownsRow w.heap.size 5 1 r (enc8 P).2.length (u8s (enc8 P).2) ∧ Below w.heap.size w w'
theorem BEnc.of {w w' : World} {P : List Pnt} {e : Ending} {c : Nat} {bs : List Nat} (he : enc8 P = (c, bs)) (h : ∃ r, e = .returned (.tuple #[r, .int .i64 (c : Nat)]) ∧ w'.ownsRow w.heap.size 5 1 r bs.length (u8s bs) ∧ Below w.heap.size w w') : BEnc w P e w' := by
  unfold BEnc
  rw [he]
  exact h
theorem enc8_bad {P : List Pnt} (h : ¬ Tm.Ok (tms P)) : enc8 P = (1, []) := if_neg h
theorem enc8_err {P : List Pnt} (h : Tm.Ok (tms P)) (h2 : (enc (vls P)).1 ≠ 0) : enc8 P = ((enc (vls P)).1, []) := by
  unfold enc8
  rw [if_pos h, if_neg h2]
theorem enc8_ok {P : List Pnt} (h : Tm.Ok (tms P)) (h2 : (enc (vls P)).1 = 0) : enc8 P = (0, lay (kd P) (Tm.bytesOf (tms P)) (enc (vls P)).2) := by
  unfold enc8
  rw [if_pos h, if_pos h2]

set_option maxRecDepth 100000 in
set_option maxHeartbeats 4000000 in
theorem encode16 (w : World) (v : Value) (P : List Pnt) (h : Pi w v P) (hl : P.length ≤ 3518437208781) (hT : Tab w) (hD : Dt w) : Calls Tryz.prog 19 #[v] w fun e w' => BEnc w P e w' := by
  have F1 := Lib.hid (times w v P h hl)
  have hin := tms_in h.1
  have hwv := vls_wv h.1
  by_cases hO : Tm.Ok (tms P)
  case neg =>
    have F2 : Hid (∀ x r B, Below w.heap.size w x → World.ownsRow x B 2 1 r P.length (Ti.i64s (tms P)) → Calls Tryz.prog 44 #[r] x fun e w' => e = .returned (.tuple #[.slice none 0 0, .int .i64 1]) ∧ Below w.heap.size w w') :=
      Lib.hid fun x r B hb ho => (TEn.encode10 x r (tms P) (Ti.ii_own (by rw [tms_len]; exact ho) hin) (hT.below hb hT.1)).mono fun e w' he => by
        obtain ⟨he, bl⟩ := TEn.Encoded.bad he hO
        exact ⟨he, hb.trans (bl.mono hb.size)⟩
    have HE := Lib.hid (enc8_bad hO)
    clear h hin hwv hO hT hD
    go_enter Tryz.func19, Tryz.ntmps19
    go_wp2_with fail
    refine F1.out.mono ?_
    rintro e w1 ⟨r1, rfl, o1, b1⟩
    have O1 := Lib.hid o1
    have B1 := Lib.hid b1
    clear o1 b1
    go_wp2_with fail
    refine (F2.out _ _ _ B1.out O1.out).mono ?_
    rintro e w2 ⟨rfl, b2⟩
    have B2 := Lib.hid b2
    clear b2
    go_wp2_with fail
    go_ret2
    exact BEnc.of HE.out ⟨_, rfl, World.ownsRow_nil _ _ _ _, B2.out⟩
  have F2 : Hid (∀ x r B, Below w.heap.size w x → World.ownsRow x B 2 1 r P.length (Ti.i64s (tms P)) → Calls Tryz.prog 44 #[r] x fun e w' => ∃ r', e = .returned (.tuple #[r', .int .i64 0]) ∧ w'.ownsRow x.heap.size 5 1 r' (Tm.bytesOf (tms P)).length (u8s (Tm.bytesOf (tms P))) ∧ Below x.heap.size x w') :=
    Lib.hid fun x r B hb ho => (TEn.encode10 x r (tms P) (Ti.ii_own (by rw [tms_len]; exact ho) hin) (hT.below hb hT.1)).mono fun e w' he => TEn.Encoded.ok he hO
  have F3 := Lib.hid (fun (x : World) (hb : Below w.heap.size w x) => values x v P (h.below hb) hl)
  have F4 : Hid (∀ x r B, Below w.heap.size w x → World.ownsRow x B 35 3 r P.length (vcs (vls P)) → Calls Tryz.prog 46 #[r] x fun e w' => Enc x (vls P) e w') :=
    Lib.hid fun x r B hb ho => encode10 x r (vls P) (vi_own (by rw [vls_len]; exact ho) hwv) (hT.below hb hT.1) (hD.below hb (by have := hD.1; omega))
  by_cases he0 : (enc (vls P)).1 = 0
  case neg =>
    have HE := Lib.hid (enc8_err hO he0)
    unfold Enc at F4
    obtain ⟨c, hc⟩ : ∃ c, c = (enc (vls P)).1 := ⟨_, rfl⟩
    rw [← hc] at F4 HE he0
    have hcz : ((c : Int) != 0) = true := by simp; omega
    clear h hin hwv hO hT hD hc
    go_enter Tryz.func19, Tryz.ntmps19
    go_wp2_with fail
    refine F1.out.mono ?_
    rintro e w1 ⟨r1, rfl, o1, b1⟩
    have O1 := Lib.hid o1
    have B1 := Lib.hid b1
    clear o1 b1
    go_wp2_with fail
    refine (F2.out _ _ _ B1.out O1.out).mono ?_
    rintro e w2 ⟨r2, rfl, o2, b2⟩
    have B2 := Lib.hid (B1.out.trans (b2.mono B1.out.size))
    clear b2 o2
    go_wp2_with fail
    refine (F3.out _ B2.out).mono ?_
    rintro e w3 ⟨r3, rfl, o3, b3⟩
    have O3 := Lib.hid o3
    have B3 := Lib.hid (B2.out.trans (b3.mono B2.out.size))
    clear o3 b3
    go_wp2_with fail
    refine (F4.out _ _ _ B3.out O3.out).mono ?_
    rintro e w4 ⟨r4, rfl, o4, b4⟩
    have B4 := Lib.hid (B3.out.trans (b4.mono B3.out.size))
    clear o4 b4
    go_wp2_with fail
    go_ret2
    exact BEnc.of HE.out ⟨_, rfl, World.ownsRow_nil _ _ _ _, B4.out⟩
  have HE := Lib.hid (enc8_ok hO he0)
  have hsz := enc_size hwv he0
  have hof := enc_of hwv he0
  have hkk : ((vls P).getD 0 z0).1 = ((kd P : Nat) : Int) ∧ kd P < 256 := by
    have := hof.parts.2.2.2.2
    unfold kd
    omega
  have hbl := Tm.bytes_len (tms P) hO.2.1
  have htl : ∀ b ∈ Tm.bytesOf (tms P), b < 256 := Tm.bytes_lt _
  have hvl : ∀ b ∈ (enc (vls P)).2, b < 256 := De.enc_lt hwv
  have hP1 : 0 < P.length := by have := hO.1; rw [tms_len] at this; omega
  rcases h.cases with ⟨_, _, _, rfl⟩ | ⟨_, b, off, cc, hv, hc1, hc2, hc3⟩
  · simp at hP1
  have hk0 := (hc3 0 hP1).2.1
  rw [Nat.zero_mul, Nat.add_zero, show (P.getD 0 p0).2.1 = ((kd P : Nat) : Int) from by rw [← hkk.1, vls_get]] at hk0
  have HK0 := Lib.hid (fun (y : World) (hb : Below w.heap.size w y) => (hb.cell (p := ⟨b, off + 1, none⟩) hc2).trans hk0)
  unfold Enc at F4
  rw [he0] at F4
  obtain ⟨tb, htb⟩ : ∃ tb, tb = Tm.bytesOf (tms P) := ⟨_, rfl⟩
  obtain ⟨vb, hvb⟩ : ∃ vb, vb = (enc (vls P)).2 := ⟨_, rfl⟩
  obtain ⟨k, hk⟩ : ∃ k, k = kd P := ⟨_, rfl⟩
  rw [← htb] at F2 HE hbl htl
  rw [← hvb] at F4 HE hsz hvl
  rw [← hk] at HE hkk HK0
  have hk256 := hkk.2
  have F5 := Lib.hid (fun (x : World) => head38 x k tb.length hk256 (by omega))
  subst hv
  obtain ⟨n, hn⟩ : ∃ n, n = P.length := ⟨_, rfl⟩
  rw [← hn] at F1 F2 F3 F4 hP1 hc1 ⊢
  have HB := Lib.hid (And.intro hbl hsz)
  have HX := Lib.hid (And.intro htl hvl)
  clear h hl hin hwv hO hT hD hn hk hvb htb hk0 hc3 hof he0 hkk hsz hbl htl hvl
  go_enter Tryz.func19, Tryz.ntmps19
  go_wp2_with fail
  refine F1.out.mono ?_
  rintro e w1 ⟨r1, rfl, o1, b1⟩
  have O1 := Lib.hid o1
  have B1 := Lib.hid b1
  clear o1 b1
  go_wp2_with fail
  refine (F2.out _ _ _ B1.out O1.out).mono ?_
  rintro e w2 ⟨r2, rfl, o2, b2⟩
  have O2 := Lib.hid o2
  have B2 := Lib.hid (B1.out.trans (b2.mono B1.out.size))
  clear b2 o2
  obtain ⟨g2, c2, hr2⟩ := Go.Joins.ownsRow_form O2.out (by have := HB.out; omega)
  subst hr2
  go_wp2_with fail
  refine (F3.out _ B2.out).mono ?_
  rintro e w3 ⟨r3, rfl, o3, b3⟩
  have O3 := Lib.hid o3
  have O2b := Lib.hid (Rp.own_below O2.out b3)
  have B3 := Lib.hid (B2.out.trans (b3.mono B2.out.size))
  clear o3 b3
  go_wp2_with fail
  refine (F4.out _ _ _ B3.out O3.out).mono ?_
  rintro e w4 ⟨r4, rfl, o4, b4⟩
  have O4 := Lib.hid o4
  have O2c := Lib.hid (Rp.own_below O2b.out b4)
  have B4 := Lib.hid (B3.out.trans (b4.mono B3.out.size))
  have e4 := HK0.out _ B4.out
  clear o4 b4
  obtain ⟨g4, c4, hr4⟩ := Go.Joins.ownsRow_form O4.out (by have := HB.out; omega)
  subst hr4
  go_wp2_with fail
  refine (F5.out _).mono ?_
  rintro e w5 ⟨r5, rfl, o5, b5⟩
  have B5 := Lib.hid (B4.out.trans (b5.mono B4.out.size))
  obtain ⟨g5, c5, hr5⟩ := Go.Joins.ownsRow_form o5 (by omega)
  subst hr5
  have F6 := Lib.hid (concat3n w5 w5.heap.size rfl _ _ _ _ _ _ (pz_own o5 (by simp [four]) (by omega)) (pz_own (Rp.own_below O2c.out b5) rfl (by have := HB.out; omega)) (pz_own (Rp.own_below O4.out b5) rfl (by have := HB.out; omega)) (by simp [four]) (by simp [four]) (by have := HB.out; omega) (by have := HB.out; omega))
  clear o5 b5
  go_wp2_with fail
  refine F6.out.mono ?_
  rintro e w6 ⟨r6, rfl, o6, b6⟩
  have B6 := Lib.hid (B5.out.trans (b6.mono B5.out.size))
  have ho6 : w6.ownsRow w.heap.size 5 1 r6 (body k tb vb).length (u8s (body k tb vb)) := Go.Joins.ownsRow_le o6 B5.out.size
  have hbdl := body_len k tb vb
  have hb6 : (body k tb vb).length ≤ 1000000000 := by have := HB.out; omega
  have hlay : lay k tb vb = body k tb vb ++ four (Kc.sum (body k tb vb)) := rfl
  have HLL := Lib.hid (lay_len k tb vb)
  have F7 := Lib.hid (laidSum39 w6 r6 (body k tb vb) (pl_own ho6 (by omega)) (body_lt hk256 HX.out.1 HX.out.2) (by omega))
  obtain ⟨S, hS⟩ : ∃ S, S = Kc.sum (body k tb vb) := ⟨_, rfl⟩
  obtain ⟨bd, hbd⟩ : ∃ bd, bd = body k tb vb := ⟨_, rfl⟩
  rw [← hS] at F7 hlay
  rw [← hbd] at hlay ho6 hb6 hbdl
  have HLY := Lib.hid hlay
  have O6 := Lib.hid ho6
  have HBD := Lib.hid hbdl
  clear o6 b6 ho6 hbdl hlay hS hbd
  obtain ⟨Z, hZ⟩ : ∃ Z, Z = bd.length := ⟨_, rfl⟩
  rw [← hZ] at O6 hb6 HBD
  have HZ := Lib.hid hZ
  clear hZ
  go_wp2_with fail
  refine F7.out.mono ?_
  rintro e w7 ⟨r7, rfl, o7, b7⟩
  have B7 := Lib.hid (B6.out.trans (b7.mono B6.out.size))
  have O6b := Lib.hid (Rp.own_below O6.out b7)
  obtain ⟨g7, c7, hr7⟩ := Go.Joins.ownsRow_form o7 (by omega)
  subst hr7
  have hc7 : ∀ j u, (u8s (four S))[j]? = some u → w7.cell? ((⟨g7, 0, none⟩ : Addr).add j) = some u := o7.cells rfl
  have HC7 := Lib.hid hc7
  clear o7 b7 hc7
  obtain ⟨i0, hi, hz0, hz1, hz2⟩ := info_parts info5
  go_wp2_with (at_builtin; refine wpList_append_own _ rfl _ _ 22 rfl w.heap.size 5 i0 (.int .u8 0) 1 1 Tryz.underlying22 hi hz0 hz1 hz2 rfl (by decide) _ Z (u8s bd) rfl O6b.out ⟨g7, 0, none⟩ 4 c7 (u8s (four S)) rfl rfl ?c1 ?c2 ?c3 ?c4 ?c5 ?_)
  case c1 => exact HC7.out
  case c2 => intro u hu; simp [u8s] at hu; obtain ⟨x, _, rfl⟩ := hu; rfl
  case c3 => unfold maxLen; omega
  case c4 => omega
  case c5 => exact B7.out.size
  intro v' w8 hown' hgrow _
  have b8 := Lib.hid (Below.grown B7.out hgrow B7.out.size (fun r hr => (O6b.out.lt r hr).1))
  have O8 := Lib.hid hown'
  clear hgrow hown'
  go_wp2_with fail
  go_ret2
  refine BEnc.of HE.out ⟨_, rfl, ?_, b8.out⟩
  have h8 := O8.out
  rw [HLY.out, List.length_append, four_len, ← HZ.out]
  have e8 : u8s (bd ++ four S) = u8s bd ++ u8s (four S) := by simp [u8s]
  rw [e8]
  exact h8
end Ke
end Go.Proofs.YtjmddomkoholoaaGreatDoor
