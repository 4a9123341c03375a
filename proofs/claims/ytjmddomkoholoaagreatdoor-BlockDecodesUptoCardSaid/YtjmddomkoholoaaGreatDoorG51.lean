import Derived.Test.YtjmddomkoholoaaGreatDoorG50
import Derived.Test.YtjmddomkoholoaaGreatDoorG38
import Derived.Test.YtjmddomkoholoaaGreatDoorG40

/- The program's Span; the law BlockDecodes. -/
namespace Go.Proofs.YtjmddomkoholoaaGreatDoor
open Go.RowKit
namespace Ko
open Cm Wr Bm Pk Zs Rd Vs Cv Kd Kp Ke Kx Ky Kw Kz

set_option maxRecDepth 100000 in
theorem span_bad (w : World) (v : Value) (F : Calls Tryz.prog 8 #[v] w fun e w' => e = .returned (.tuple #[.slice none 0 0, .int .i64 2]) ∧ Below w.heap.size w w') :
    Calls Tryz.prog 9 #[v] w fun e w' => e = .returned (.tuple #[.int .i64 0, .int .i64 0, .int .i64 0, .int .i64 2]) ∧ Below w.heap.size w w' := by
  have F1 := Lib.hid F
  clear F
  go_enter Tryz.func9, Tryz.ntmps9
  go_wp2_with fail
  refine F1.out.mono ?_
  rintro e w2 ⟨rfl, b2⟩
  have B2 := Lib.hid b2
  clear b2
  go_wp2_with fail
  exact bodyPost_ret (v := .tuple #[.int .i64 0, .int .i64 0, .int .i64 0, .int .i64 2]) (by simp [results, Tryz.results9, go_sem]) rfl ⟨rfl, B2.out⟩

set_option maxRecDepth 100000 in
set_option maxHeartbeats 1000000 in
theorem span_ok (w : World) (v : Value) (P : List Pnt) (h1 : 1 ≤ P.length) (h9 : P.length ≤ 1000) (hw : ∀ p ∈ P, Wp p)
    (F : Calls Tryz.prog 8 #[v] w fun e w' => ∃ r, e = .returned (.tuple #[r, .int .i64 0]) ∧ w'.ownsRow w.heap.size 37 4 r P.length (pcs P) ∧ Below w.heap.size w w') :
    Calls Tryz.prog 9 #[v] w fun e w' => e = .returned (.tuple #[.int .i64 (P.getD 0 p0).1, .int .i64 (P.getD (P.length - 1) p0).1, .int .i64 (P.length : Nat), .int .i64 0]) ∧ Below w.heap.size w w' := by
  have F0 : Calls Tryz.prog 8 #[v] w fun e w' => ∃ b off c, e = .returned (.tuple #[.slice (some ⟨b, off, none⟩) P.length c, .int .i64 0]) ∧ w'.cell? ⟨b, off, none⟩ = some (.int .i64 (P.getD 0 p0).1) ∧ w'.cell? ⟨b, off + (P.length - 1) * 4, none⟩ = some (.int .i64 (P.getD (P.length - 1) p0).1) ∧ Below w.heap.size w w' := F.mono fun e w' ⟨r, he, ho, bl⟩ => by
    rcases (pi_own ho hw).cases with ⟨_, _, _, hn⟩ | ⟨_, b, off, c, rfl, _, _, hc⟩
    · rw [hn] at h1; simp at h1
    · have c0 := (hc 0 (by omega)).1
      rw [show off + 0 * 4 = off from by omega] at c0
      exact ⟨b, off, c, he, c0, (hc (P.length - 1) (by omega)).1, bl⟩
  have F1 := Lib.hid F0
  obtain ⟨X, hX⟩ : ∃ X, X = (P.getD 0 p0).1 := ⟨_, rfl⟩
  obtain ⟨Y, hY⟩ : ∃ Y, Y = (P.getD (P.length - 1) p0).1 := ⟨_, rfl⟩
  rw [← hX, ← hY] at F1 ⊢
  clear hX hY F hw F0
  obtain ⟨m, hm⟩ : ∃ m, P.length = m + 1 := ⟨P.length - 1, by omega⟩
  rw [hm] at F1 ⊢
  rw [show m + 1 - 1 = m from by omega] at F1
  have hm9 : m ≤ 1000 := by omega
  clear hm h1 h9
  go_enter Tryz.func9, Tryz.ntmps9
  go_wp2_with fail
  refine F1.out.mono ?_
  rintro e w2 ⟨b, off, c, rfl, c0, c1, b2⟩
  have B2 := Lib.hid b2
  clear b2
  go_wp2_with fail
  go_quiet (fail)
  go_wp2_with fail
  refine bodyPost_ret (v := .tuple #[.int .i64 X, .int .i64 Y, .int .i64 ((m + 1 : Nat) : Int), .int .i64 0]) (by simp [results, Tryz.results9, go_sem]) rfl ⟨rfl, ?_⟩
  exact Fo.bdn B2.out _

set_option maxRecDepth 100000 in
set_option maxHeartbeats 1000000 in
theorem decodes3 (w : World) (v : Value) (bs : List Nat) (hP : Rw.By w v bs) (hX : ∀ x ∈ bs, x < 256) (hb : bs.length ≤ 10000000000) (hT : Tab w) (hD : Dt w) :
    Calls Tryz.prog 3 #[v] w fun e w' => e = .returned (.bool true) ∧ Below w.heap.size w w' := by
  have FA := Lib.hid (awake14 w hT hD)
  have HF : ∃ a c, v = .slice a bs.length c := by
    rcases hP.2 with ⟨rfl, a, c, rfl⟩ | ⟨_, b, off, c, rfl, _⟩
    · exact ⟨a, c, rfl⟩
    · exact ⟨_, _, rfl⟩
  have G5 := Lib.hid (fun (x : World) (hx : Below w.heap.size w x) => Ka.rdecode5 x v bs (hP.2.below hx) hX hb)
  have G6 := Lib.hid (fun (x : World) (hx : Below w.heap.size w x) => decode17 x v bs (hP.2.below hx) hX (by omega) (hT.below hx hT.1) (hD.below hx (by have := hD.1; omega)))
  have FS := Lib.hid (fun (x : World) (hx : Below w.heap.size w x) => Ks.sum19 x v bs (hP.2.below hx) hX (by omega))
  have FR := Lib.hid (fun (x : World) (hx : Below w.heap.size w x) => Ks.rsum20 x v bs (hP.2.below hx) hX (by omega))
  obtain ⟨S, hS⟩ : ∃ S, S = Kc.sum bs := ⟨_, rfl⟩
  rw [← hS] at FS FR
  by_cases hs : ∃ P, Says bs P
  · obtain ⟨P, hs⟩ := hs
    have ONE : ∀ (x : World) (e : Ending) (w' : World), Dec8 x bs e w' → ∃ r, e = .returned (.tuple #[r, .int .i64 0]) ∧ w'.ownsRow x.heap.size 37 4 r P.length (pcs P) ∧ Below x.heap.size x w' := by
      intro x e w' ⟨h, b⟩
      rcases h with ⟨Q, r, _, hu, _, _, _, h1, h2⟩ | ⟨hno, _⟩
      · rw [← hu P hs] at h2
        exact ⟨r, h1, h2, b⟩
      · exact absurd hs (hno P)
    have HPP : (∀ p ∈ P, Wp p) ∧ 1 ≤ P.length ∧ P.length ≤ 1000 := by
      obtain ⟨_, T, V, h1, h2, h3⟩ := hs
      obtain ⟨hTin, hTok, _⟩ := Tm.dec_some h1
      have hl : P.length = T.length := by rw [h3, List.length_zip, h2.1]; omega
      refine ⟨?_, by rw [hl]; exact hTok.1, by rw [hl]; exact hTok.2.1⟩
      rw [h3]
      exact zip_wp hTin (fun y hy => (h2.2.1 y hy).2)
    obtain ⟨hw, h1, h9⟩ := HPP
    have F5 := Lib.hid (fun (x : World) (hx : Below w.heap.size w x) => (G5.out x hx).mono (ONE x))
    have F6 := Lib.hid (fun (x : World) (hx : Below w.heap.size w x) => (G6.out x hx).mono (ONE x))
    have F7 := Lib.hid (fun (x : World) (hx : Below w.heap.size w x) => span_ok x v P h1 h9 hw (F6.out x hx))
    have F8 := Lib.hid (fun (x y z : World) (r5 r6 : Value) (o5 : y.ownsRow x.heap.size 37 4 r5 P.length (pcs P)) (b : Below y.heap.size y z) (B : Nat) (o6 : z.ownsRow B 37 4 r6 P.length (pcs P)) (q : World) (bq : Below z.heap.size z q) => (show Calls Tryz.prog 10 #[r6, r5] q fun e w' => e = .returned (.bool true) ∧ Below q.heap.size q w' from by
      have := same18 q r6 r5 P P ((pi_own o6 hw).below bq) (((pi_own o5 hw).below b).below bq) (by omega)
      rwa [decide_eq_true rfl] at this))
    have HC := Lib.hid (fun (y : World) (B : Nat) (r : Value) (o : y.ownsRow B 37 4 r P.length (pcs P)) => (show ∃ b off c, r = .slice (some ⟨b, off, none⟩) P.length c ∧ b < y.heap.size ∧ y.cell? ⟨b, off, none⟩ = some (.int .i64 (P.getD 0 p0).1) ∧ y.cell? ⟨b, off + (P.length - 1) * 4, none⟩ = some (.int .i64 (P.getD (P.length - 1) p0).1) from by
      rcases (pi_own o hw).cases with ⟨_, _, _, hn⟩ | ⟨_, b, off, c, h, _, hb, hc⟩
      · rw [hn] at h1; simp at h1
      · have c0 := (hc 0 (by omega)).1
        rw [show off + 0 * 4 = off from by omega] at c0
        exact ⟨b, off, c, h, hb, c0, (hc (P.length - 1) (by omega)).1⟩))
    obtain ⟨X, hX'⟩ : ∃ X, X = (P.getD 0 p0).1 := ⟨_, rfl⟩
    obtain ⟨Y, hY⟩ : ∃ Y, Y = (P.getD (P.length - 1) p0).1 := ⟨_, rfl⟩
    rw [← hX', ← hY] at F7 HC
    obtain ⟨m, hm⟩ : ∃ m, P.length = m + 1 := ⟨P.length - 1, by omega⟩
    rw [hm] at F5 F6 F7 F8 HC
    rw [show m + 1 - 1 = m from by omega] at HC
    have hm9 : m ≤ 1000 := by omega
    obtain ⟨cs, hcs⟩ : ∃ cs, cs = pcs P := ⟨_, rfl⟩
    rw [← hcs] at F5 F6 F8 HC
    obtain ⟨a, c, rfl⟩ := HF
    obtain ⟨n, hn⟩ : ∃ n, n = bs.length := ⟨_, rfl⟩
    rw [← hn] at F5 F6 F7 FS FR ⊢
    clear hX' hY hm h1 h9 hw hs ONE G5 G6 hP hX hb hT hD hcs hn hS
    go_enter Tryz.func3, Tryz.ntmps3
    go_wp2_with fail
    refine FA.out.mono ?_
    rintro e w1 ⟨rfl, b1⟩
    have B1 := Lib.hid b1
    clear b1
    go_wp2_with fail
    refine (F5.out _ B1.out).mono ?_
    rintro e w2 ⟨r5, rfl, o5, b2⟩
    have O5 := Lib.hid o5
    obtain ⟨b5, off5, c5, hr5, hb5, hc0, hc1⟩ := HC.out _ _ _ o5
    subst hr5
    have HH := Lib.hid (And.intro hb5 (And.intro hc0 hc1))
    have B2 := Lib.hid (B1.out.trans (b2.mono B1.out.size))
    clear b2 o5 hb5 hc0 hc1
    go_wp2_with fail
    refine (F6.out _ B2.out).mono ?_
    rintro e w3 ⟨r6, rfl, o6, b3⟩
    have O6 := Lib.hid o6
    have C3 := Lib.hid b3
    have B3 := Lib.hid (B2.out.trans (b3.mono B2.out.size))
    clear b3 o6
    go_wp2_with fail
    refine (F7.out _ B3.out).mono ?_
    rintro e w4 ⟨rfl, b4⟩
    have C4 := Lib.hid b4
    have B4 := Lib.hid (B3.out.trans (b4.mono B3.out.size))
    have G8 := Lib.hid (F8.out _ _ _ _ _ O5.out C3.out _ O6.out w4 b4)
    have c34 : Below w2.heap.size w2 w4 := C3.out.trans (b4.mono C3.out.size)
    have c24 := Lib.hid c34
    clear b4 c34
    go_wp2_with fail
    refine G8.out.mono ?_
    rintro e w6 ⟨rfl, b6⟩
    have B6 := Lib.hid (B4.out.trans (b6.mono B4.out.size))
    have c26 := c24.out.trans (b6.mono c24.out.size)
    have d0 := (c26.cell (p := ⟨b5, off5, none⟩) HH.out.1).trans HH.out.2.1
    have d1 := (c26.cell (p := ⟨b5, off5 + m * 4, none⟩) HH.out.1).trans HH.out.2.2
    clear b6 c26
    go_wp2_with fail
    refine (FS.out _ B6.out).mono ?_
    rintro e w7 ⟨rfl, b7⟩
    have B7 := Lib.hid (B6.out.trans (b7.mono B6.out.size))
    have d2 := (b7.cell (p := ⟨b5, off5, none⟩) (cell_lt d0)).trans d0
    have d3 := (b7.cell (p := ⟨b5, off5 + m * 4, none⟩) (cell_lt d1)).trans d1
    clear b7 d0 d1
    go_wp2_with fail
    refine (FR.out _ B7.out).mono ?_
    rintro e w7 ⟨rfl, rfl⟩
    go_wp2_with fail
    go_ret
    exact ⟨rfl, B7.out⟩
  · have ONE : ∀ (x : World) (e : Ending) (w' : World), Dec8 x bs e w' → e = .returned (.tuple #[.slice none 0 0, .int .i64 2]) ∧ Below x.heap.size x w' := by
      intro x e w' ⟨h, b⟩
      rcases h with ⟨Q, r, h, _⟩ | ⟨_, h⟩
      · exact absurd ⟨Q, h⟩ hs
      · exact ⟨h, b⟩
    have F5 := Lib.hid (fun (x : World) (hx : Below w.heap.size w x) => (G5.out x hx).mono (ONE x))
    have F6 := Lib.hid (fun (x : World) (hx : Below w.heap.size w x) => (G6.out x hx).mono (ONE x))
    have F7 := Lib.hid (fun (x : World) (hx : Below w.heap.size w x) => span_bad x v (F6.out x hx))
    have F8 := Lib.hid (fun (q : World) => (show Calls Tryz.prog 10 #[.slice none 0 0, .slice none 0 0] q fun e w' => e = .returned (.bool true) ∧ Below q.heap.size q w' from by
      have h : Pi q (.slice none 0 0) [] := ⟨by simp, .inl ⟨_, _, rfl, rfl⟩⟩
      have := same18 q _ _ [] [] h h (by simp)
      rwa [decide_eq_true rfl] at this))
    obtain ⟨a, c, rfl⟩ := HF
    obtain ⟨n, hn⟩ : ∃ n, n = bs.length := ⟨_, rfl⟩
    rw [← hn] at F5 F6 F7 FS FR ⊢
    clear hs ONE G5 G6 hP hX hb hT hD hn hS
    go_enter Tryz.func3, Tryz.ntmps3
    go_wp2_with fail
    refine FA.out.mono ?_
    rintro e w1 ⟨rfl, b1⟩
    have B1 := Lib.hid b1
    clear b1
    go_wp2_with fail
    refine (F5.out _ B1.out).mono ?_
    rintro e w2 ⟨rfl, b2⟩
    have B2 := Lib.hid (B1.out.trans (b2.mono B1.out.size))
    clear b2
    go_wp2_with fail
    refine (F6.out _ B2.out).mono ?_
    rintro e w3 ⟨rfl, b3⟩
    have B3 := Lib.hid (B2.out.trans (b3.mono B2.out.size))
    clear b3
    go_wp2_with fail
    refine (F7.out _ B3.out).mono ?_
    rintro e w4 ⟨rfl, b4⟩
    have B4 := Lib.hid (B3.out.trans (b4.mono B3.out.size))
    clear b4
    go_wp2_with fail
    refine (F8.out _).mono ?_
    rintro e w6 ⟨rfl, b6⟩
    have B6 := Lib.hid (B4.out.trans (b6.mono B4.out.size))
    clear b6
    go_wp2_with fail
    refine (FS.out _ B6.out).mono ?_
    rintro e w7 ⟨rfl, b7⟩
    have B7 := Lib.hid (B6.out.trans (b7.mono B6.out.size))
    clear b7
    go_wp2_with fail
    refine (FR.out _ B7.out).mono ?_
    rintro e w7 ⟨rfl, rfl⟩
    go_wp2_with fail
    go_ret
    exact ⟨rfl, B7.out⟩
end Ko
end Go.Proofs.YtjmddomkoholoaaGreatDoor
