/- Put, whatever comes of it. -/
import Derived.Test.YtloiclmngmnbdaaDf
namespace Go.Proofs.Ytloiclmngmnbdaa
open Go.RowKit Go.Maps Go.ChangeMaps Go.MapKept
namespace Dg
open Jb Ca Ck Ct Cd Ls Lb Lc Ld Li Lj Lk Lm Ln Lo Lp Cq Cr Da Db Dc Ce Cs De Df

set_option maxRecDepth 100000
theorem put19_re (w : World) (S : Nat → Prop) (g N : Nat) (d : St) (h : Dk w S g N d) (s : Ky) (hs : ok s) (p : Pnt) (hp : Wp p) (hf : formed p.2 = true) (ht : tk (pts (d.F s)) p.2.1 = true) (hl : (pts (d.F s)).length ≤ 511) (hh : has p.1 (pts (d.F s)) = true) (hN : N ≤ 140737488353000) : Calls Try.prog 19 #[.pointer (some ⟨g, 0, none⟩), .string s.1, .string s.2, pa p] w fun e w' => e = .returned (.int .i64 0) ∧ ∃ d', vw d' = { vw d with size := d.size, P := fun y => if y = s then ins p (pts (d.F s)) else (vw d).P y } ∧ Dk w' (New S w w') g (N + 1) d' ∧ Chg w w' S := by
  have FO := Lib.hid (fun w => Cf.formed40 w p.2 hp.2)
  rw [hf] at FO
  have FI := Lib.hid (show ∀ w1, Below w.heap.size w w1 → _ from fun w1 b1 => find25 w1 S g N d (h.below b1 (Nat.le_refl _)) s hs)
  have TK := Lib.hid (fun w1 b (hc : Ptr w1 b (d.F s)) => takes32 w1 b (d.F s) hc p.2.1)
  rw [ht] at TK
  have HA := Lib.hid (fun w1 b (hc : Ptr w1 b (d.F s)) => has33 w1 b (d.F s) hc p.1 (by omega))
  rw [hh] at HA
  have CL := Lib.hid (fun w1 => clone34 w1 (str p.2.2.2) (by have := form_len hf; have e := Ca.str_size p.2.2.2; omega))
  have CC := Lib.hid (show ∀ w1, Below w.heap.size w w1 → w1.cell? ⟨g, 0, none⟩ = some (.int .i64 (d.most : Nat)) ∧ w1.cell? ⟨g, 1, none⟩ = some (.int .i64 (d.size : Nat)) ∧ w1.frozen? ⟨g, 1, none⟩ = false from fun w1 b1 => by
    have k := h.cs.of_block (b1.block g (h.lt g h.sg))
    exact ⟨k.c0, k.c1, k.z 1⟩)
  have BXO := Lib.hid (fun w1 (b : Below (w.heap.size + 1) (w.alloc (.cells #[.int .i64 p.1, .int .i64 p.2.1, .int .u64 (p.2.2.1 : Nat), .string (str p.2.2.2)] 32)) w1) => box_of (w := w) (p := p) b)
  have hmb := h.cs.bm
  have gl := h.lt g h.sg
  have BZO := Lib.hid (show ∀ w1, Below (w.heap.size + 1) (w.alloc (.cells #[.int .i64 p.1, .int .i64 p.2.1, .int .u64 (p.2.2.1 : Nat), .string (str p.2.2.2)] 32)) w1 → w1.frozen? ⟨w.heap.size, 3, none⟩ = false from fun w1 b => frozen_of_row _ _ _ _ _ ((b.block w.heap.size (by omega)).trans (heap_alloc_new _ _)))
  have MI := Lib.hid (fun w4 w5 w6 c bx hz pt hc h45 hcs b6 => mid w S g N d h s hs p hp hl hN w4 w5 w6 d.size c h.cs.bs bx hz pt hc h45 hcs b6)
  have HCS := Lib.hid (show ∀ w4, Below w.heap.size w w4 → Cs w4 g { d with size := d.size } from fun w4 b4 => h.cs.of_block (b4.block g gl))
  obtain ⟨M, hM⟩ : ∃ M, M = d.most := ⟨_, rfl⟩
  obtain ⟨Z, hZ⟩ : ∃ Z, Z = d.size := ⟨_, rfl⟩
  rw [← hM, ← hZ] at CC
  rw [← hM] at hmb
  rw [← hZ]
  rw [← hZ] at MI
  have HCS2 := Lib.hid (show ∀ w4, Below w.heap.size w w4 → Cs w4 g { d with size := Z } from fun w4 b4 => by rw [hZ]; exact HCS.out w4 b4)
  obtain ⟨x0, x1, x2, x3⟩ := p
  unfold pa
  unfold va at FO
  unfold kv at FI
  unfold kv pa at MI
  simp only at FO TK BXO HA CL BZO MI ⊢
  have HH0 := Lib.hid h
  clear hp hf h ht hh hM hZ
  go_enter Try.func19, Try.ntmps19
  go_wp2_with fail
  refine (FO.out _).mono ?_
  rintro e w1 ⟨rfl, b1⟩
  have BX := Lib.hid (BXO.out w1 (by rw [World.size_alloc] at b1; exact b1))
  have Z1 := Lib.hid (BZO.out w1 (by rw [World.size_alloc] at b1; exact b1))
  clear b1
  go_wp2_with fail
  refine (FI.out w1 BX.out.bl).mono ?_
  rintro e w2 ⟨c, rfl, pt, b2, hc⟩
  have TT := Lib.hid (TK.out w2 c pt)
  have BX2 := Lib.hid (BX.out.below b2)
  obtain ⟨_, g0, g1, g2, g3, _⟩ := BX2.out
  have PT := Lib.hid pt
  have HC := Lib.hid (show d.F s = none → w.heap.size < c from fun e => by have := hc e; have := BX.out.lt; omega)
  have Z2 := Lib.hid ((World.frozen?_of_block (a := ⟨w.heap.size, 3, none⟩) (b2.block _ BX.out.lt)).trans Z1.out)
  clear b2 pt hc
  go_wp2_with fail
  refine TT.out.mono ?_
  rintro e w3 ⟨rfl, b3⟩
  have BX3 := Lib.hid (BX2.out.below b3)
  have PT3 := Lib.hid (PT.out.below b3 (Nat.le_refl _))
  have HH := Lib.hid (HA.out w3 c PT3.out)
  have Z3 := Lib.hid ((World.frozen?_of_block (a := ⟨w.heap.size, 3, none⟩) (b3.block _ BX2.out.lt)).trans Z2.out)
  obtain ⟨_, g0, g1, g2, g3, _⟩ := BX3.out
  clear b3
  go_wp2_with fail
  refine HH.out.mono ?_
  rintro e w4 ⟨rfl, b4⟩
  have BX4 := Lib.hid (BX3.out.below b4)
  have PT4 := Lib.hid (PT3.out.below b4 (Nat.le_refl _))
  obtain ⟨c0, c1, z1⟩ := CC.out w4 BX4.out.bl
  have Z4 := Lib.hid ((World.frozen?_of_block (a := ⟨w.heap.size, 3, none⟩) (b4.block _ BX3.out.lt)).trans Z3.out)
  obtain ⟨_, g0, g1, g2, g3, _⟩ := BX4.out
  clear b4
  go_wp2_with fail
  go_quiet (fail)
  have hgn : ¬ (g = w.heap.size) := by omega
  have hgn2 : ¬ (w.heap.size = g) := by omega
  have MI2 := Lib.hid (fun w6 (b6 : Below (w4.drewN nq).heap.size (w4.drewN nq) w6) => MI.out w4 _ w6 c BX4.out Z4.out PT4.out HC.out ((Chg.refl w4 (fun k => k = g)).drewN nq) (HCS2.out (w4.drewN nq) (bdn BX4.out.bl nq)) b6)
  go_wp2_with fail
  refine (CL.out _).mono ?_
  rintro e w6 ⟨rfl, b6⟩
  obtain ⟨k0, k1, k2, k3, kz, T6⟩ := MI2.out w6 b6
  have TT6 := Lib.hid T6
  clear b6 T6
  go_wp2_with fail
  refine TT6.out.mono ?_
  rintro e w7 ⟨rfl, T7⟩
  have TT7 := Lib.hid T7
  clear T7
  go_wp2_with fail
  refine TT7.out.mono ?_
  rintro e w8 ⟨rfl, T8⟩
  have TT8 := Lib.hid T8
  clear T8
  go_wp2_with fail
  go_ret
  exact ⟨rfl, TT8.out⟩
/-- Put: what is answered, and what is there then. -/
theorem put19 (w : World) (S : Nat → Prop) (g N : Nat) (d : St) (h : Dk w S g N d) (s : Ky) (hs : ok s) (p : Pnt) (hp : Wp p) (hl : (pts (d.F s)).length ≤ 511) (hN : N ≤ 140737488353000) : Calls Try.prog 19 #[.pointer (some ⟨g, 0, none⟩), .string s.1, .string s.2, pa p] w fun e w' => e = .returned (.int .i64 (putE (vw d) s p)) ∧ ∃ d', vw d' = putV (vw d) s p ∧ Dk w' (New S w w') g (N + 1) d' ∧ Chg w w' S := by
  have keep : ∀ (r : Int), r ≠ 0 → putE (vw d) s p = r → Calls Try.prog 19 #[.pointer (some ⟨g, 0, none⟩), .string s.1, .string s.2, pa p] w (fun e w' => e = .returned (.int .i64 r) ∧ Below w.heap.size w w') → Calls Try.prog 19 #[.pointer (some ⟨g, 0, none⟩), .string s.1, .string s.2, pa p] w fun e w' => e = .returned (.int .i64 (putE (vw d) s p)) ∧ ∃ d', vw d' = putV (vw d) s p ∧ Dk w' (New S w w') g (N + 1) d' ∧ Chg w w' S := fun r hr he H => by
    rw [he]
    refine H.mono ?_
    rintro e w' ⟨rfl, b⟩
    have sz := b.size
    refine ⟨rfl, d, by unfold putV; rw [if_neg (by rw [he]; exact hr)], (Dk.more (h.below b (Nat.le_refl _)) (Nat.le_succ N)).set (fun k hk => .inl hk) (fun k hk => ?_), Chg.of_below b (Nat.le_refl _) _⟩
    rcases hk with hk | hk
    · have := h.lt k hk; omega
    · exact hk.2
  by_cases hf : formed p.2 = true
  case neg =>
    have hf : formed p.2 = false := by simpa using hf
    exact keep 1 (by decide) (if_pos hf) (put19_form w g s p hp hf)
  have e1 : ¬ formed p.2 = false := by rw [hf]; decide
  by_cases ht : tk (pts (d.F s)) p.2.1 = true
  case neg =>
    have ht : tk (pts (d.F s)) p.2.1 = false := by simpa using ht
    exact keep 5 (by decide) (by unfold putE; rw [if_neg e1]; exact if_pos ht) (put19_type w S g N d h s hs p hp hf ht)
  have e2 : ¬ tk ((vw d).P s) p.2.1 = false := by show ¬ tk (pts (d.F s)) p.2.1 = false; rw [ht]; decide
  by_cases hh : has p.1 (pts (d.F s)) = true
  · have he : putE (vw d) s p = 0 := by unfold putE; rw [if_neg e1, if_neg e2]; exact if_neg (fun x => by have := x.1; simp only [vw] at this; rw [hh] at this; cases this)
    rw [he]
    refine (put19_re w S g N d h s hs p hp hf ht hl hh hN).mono ?_
    rintro e w' ⟨rfl, d', v, k⟩
    refine ⟨rfl, d', ?_, k⟩
    rw [v]
    unfold putV
    rw [if_pos he]
    have : has p.1 ((vw d).P s) = true := hh
    rw [this]
    rfl
  · have hh : has p.1 (pts (d.F s)) = false := by simpa using hh
    by_cases hm : d.most ≤ d.size
    · exact keep 7 (by decide) (by unfold putE; rw [if_neg e1, if_neg e2]; exact if_pos ⟨hh, hm⟩) (put19_full w S g N d h s hs p hp hf ht (by omega) hh hm)
    · have he : putE (vw d) s p = 0 := by unfold putE; rw [if_neg e1, if_neg e2]; exact if_neg (fun x => hm x.2)
      rw [he]
      refine (put19_ok w S g N d h s hs p hp hf ht hl hh (by omega) hN).mono ?_
      rintro e w' ⟨rfl, d', v, k⟩
      refine ⟨rfl, d', ?_, k⟩
      rw [v]
      unfold putV
      rw [if_pos he]
      have : has p.1 ((vw d).P s) = false := hh
      rw [this]
      rfl
end Dg
end Go.Proofs.Ytloiclmngmnbdaa
