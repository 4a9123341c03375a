/- Put, where nothing comes of it. -/
import Derived.Test.YtloiclmngmnbdaaCe
namespace Go.Proofs.Ytloiclmngmnbdaa
open Go.RowKit Go.Maps Go.ChangeMaps Go.MapKept
namespace Cs
open Jb Ca Ck Ct Cd Ls Lb Lc Ld Li Lj Lk Lm Ln Lo Lp Cq Cr Da Db Dc Ce

set_option maxRecDepth 100000
theorem put19_nil (w : World) (s : Ky) (p : Pnt) : Calls Try.prog 19 #[.pointer none, .string s.1, .string s.2, pa p] w fun e w' => e = .returned (.int .i64 1) ∧ Below w.heap.size w w' := by
  unfold pa
  go_enter Try.func19, Try.ntmps19
  go_wp2_with fail
  go_ret
  exact ⟨rfl, (Below.refl _ w).alloc (Nat.le_refl _) _⟩
theorem put19_form (w : World) (g : Nat) (s : Ky) (p : Pnt) (hp : Wp p) (hf : formed p.2 = false) : Calls Try.prog 19 #[.pointer (some ⟨g, 0, none⟩), .string s.1, .string s.2, pa p] w fun e w' => e = .returned (.int .i64 1) ∧ Below w.heap.size w w' := by
  have FO := Lib.hid (fun w => Cf.formed40 w p.2 hp.2)
  rw [hf] at FO
  unfold pa
  unfold va at FO
  clear hp hf
  go_enter Try.func19, Try.ntmps19
  go_wp2_with fail
  refine (FO.out _).mono ?_
  rintro e w1 ⟨rfl, b1⟩
  have B1 := Lib.hid (((Below.refl _ w).alloc (Nat.le_refl _) (.cells #[.int .i64 p.1, .int .i64 p.2.1, .int .u64 (p.2.2.1 : Nat), .string (str p.2.2.2)] 32)).trans (b1.mono (by simp)))
  clear b1
  go_wp2_with fail
  go_ret
  exact ⟨rfl, B1.out⟩
theorem put19_type (w : World) (S : Nat → Prop) (g N : Nat) (d : St) (h : Dk w S g N d) (s : Ky) (hs : ok s) (p : Pnt) (hp : Wp p) (hf : formed p.2 = true) (ht : tk (pts (d.F s)) p.2.1 = false) : Calls Try.prog 19 #[.pointer (some ⟨g, 0, none⟩), .string s.1, .string s.2, pa p] w fun e w' => e = .returned (.int .i64 5) ∧ Below w.heap.size w w' := by
  have FO := Lib.hid (fun w => Cf.formed40 w p.2 hp.2)
  rw [hf] at FO
  have FI := Lib.hid (show ∀ w1, Below w.heap.size w w1 → _ from fun w1 b1 => find25 w1 S g N d (h.below b1 (Nat.le_refl _)) s hs)
  have TK := Lib.hid (fun w1 b (hc : Ptr w1 b (d.F s)) => takes32 w1 b (d.F s) hc p.2.1)
  rw [ht] at TK
  have BXO := Lib.hid (fun w1 (b : Below (w.heap.size + 1) (w.alloc (.cells #[.int .i64 p.1, .int .i64 p.2.1, .int .u64 (p.2.2.1 : Nat), .string (str p.2.2.2)] 32)) w1) => box_of (w := w) (p := p) b)
  obtain ⟨x0, x1, x2, x3⟩ := p
  unfold pa
  unfold va at FO
  unfold kv at FI
  simp only at FO TK BXO ⊢
  clear hp hf h hs ht
  go_enter Try.func19, Try.ntmps19
  go_wp2_with fail
  refine (FO.out _).mono ?_
  rintro e w1 ⟨rfl, b1⟩
  have BX := Lib.hid (BXO.out w1 (by rw [World.size_alloc] at b1; exact b1))
  clear b1
  go_wp2_with fail
  refine (FI.out w1 BX.out.bl).mono ?_
  rintro e w2 ⟨c, rfl, pt, b2, _⟩
  have TT := Lib.hid (TK.out w2 c pt)
  have BX2 := Lib.hid (BX.out.below b2)
  obtain ⟨_, g0, g1, g2, g3, _⟩ := BX2.out
  clear b2 pt
  go_wp2_with fail
  refine TT.out.mono ?_
  rintro e w3 ⟨rfl, b3⟩
  have B3 := Lib.hid (BX2.out.bl.trans (b3.mono BX2.out.bl.size))
  clear b3
  go_wp2_with fail
  go_ret
  exact ⟨rfl, B3.out⟩
theorem put19_full (w : World) (S : Nat → Prop) (g N : Nat) (d : St) (h : Dk w S g N d) (s : Ky) (hs : ok s) (p : Pnt) (hp : Wp p) (hf : formed p.2 = true) (ht : tk (pts (d.F s)) p.2.1 = true) (hl : (pts (d.F s)).length ≤ 1000000000) (hh : has p.1 (pts (d.F s)) = false) (hm : d.most ≤ d.size) : Calls Try.prog 19 #[.pointer (some ⟨g, 0, none⟩), .string s.1, .string s.2, pa p] w fun e w' => e = .returned (.int .i64 7) ∧ Below w.heap.size w w' := by
  have FO := Lib.hid (fun w => Cf.formed40 w p.2 hp.2)
  rw [hf] at FO
  have FI := Lib.hid (show ∀ w1, Below w.heap.size w w1 → _ from fun w1 b1 => find25 w1 S g N d (h.below b1 (Nat.le_refl _)) s hs)
  have TK := Lib.hid (fun w1 b (hc : Ptr w1 b (d.F s)) => takes32 w1 b (d.F s) hc p.2.1)
  rw [ht] at TK
  have HA := Lib.hid (fun w1 b (hc : Ptr w1 b (d.F s)) => has33 w1 b (d.F s) hc p.1 hl)
  rw [hh] at HA
  have CC := Lib.hid (show ∀ w1, Below w.heap.size w w1 → w1.cell? ⟨g, 0, none⟩ = some (.int .i64 (d.most : Nat)) ∧ w1.cell? ⟨g, 1, none⟩ = some (.int .i64 (d.size : Nat)) from fun w1 b1 => by
    have k := h.cs.of_block (b1.block g (h.lt g h.sg))
    exact ⟨k.c0, k.c1⟩)
  have BXO := Lib.hid (fun w1 (b : Below (w.heap.size + 1) (w.alloc (.cells #[.int .i64 p.1, .int .i64 p.2.1, .int .u64 (p.2.2.1 : Nat), .string (str p.2.2.2)] 32)) w1) => box_of (w := w) (p := p) b)
  obtain ⟨M, hM⟩ : ∃ M, M = d.most := ⟨_, rfl⟩
  obtain ⟨Z, hZ⟩ : ∃ Z, Z = d.size := ⟨_, rfl⟩
  rw [← hM, ← hZ] at CC hm
  obtain ⟨x0, x1, x2, x3⟩ := p
  unfold pa
  unfold va at FO
  unfold kv at FI
  simp only at FO TK BXO HA ⊢
  clear hp hf h hs ht hl hh hM hZ
  go_enter Try.func19, Try.ntmps19
  go_wp2_with fail
  refine (FO.out _).mono ?_
  rintro e w1 ⟨rfl, b1⟩
  have BX := Lib.hid (BXO.out w1 (by rw [World.size_alloc] at b1; exact b1))
  clear b1
  go_wp2_with fail
  refine (FI.out w1 BX.out.bl).mono ?_
  rintro e w2 ⟨c, rfl, pt, b2, _⟩
  have TT := Lib.hid (TK.out w2 c pt)
  have BX2 := Lib.hid (BX.out.below b2)
  obtain ⟨_, g0, g1, g2, g3, _⟩ := BX2.out
  have PT := Lib.hid pt
  clear b2 pt
  go_wp2_with fail
  refine TT.out.mono ?_
  rintro e w3 ⟨rfl, b3⟩
  have BX3 := Lib.hid (BX2.out.below b3)
  have HH := Lib.hid (HA.out w3 c (PT.out.below b3 (Nat.le_refl _)))
  obtain ⟨_, g0, g1, g2, g3, _⟩ := BX3.out
  clear b3
  go_wp2_with fail
  refine HH.out.mono ?_
  rintro e w4 ⟨rfl, b4⟩
  have BX4 := Lib.hid (BX3.out.below b4)
  obtain ⟨c0, c1⟩ := CC.out w4 BX4.out.bl
  clear b4
  have hd : decide ((Z : Int) ≥ (M : Int)) = true := decide_eq_true (by omega)
  go_wp2_with fail
  go_quiet (fail)
  go_wp2_with fail
  go_ret
  exact ⟨rfl, bdn BX4.out.bl _⟩
end Cs
end Go.Proofs.Ytloiclmngmnbdaa
