/- Put, where it is done. -/
import Derived.Test.YtloiclmngmnbdaaDe
namespace Go.Proofs.Ytloiclmngmnbdaa
open Go.RowKit Go.Maps Go.ChangeMaps Go.MapKept
namespace Df
open Jb Ca Ck Ct Cd Ls Lb Lc Ld Li Lj Lk Lm Ln Lo Lp Cq Cr Da Db Dc Ce Cs De

set_option maxRecDepth 100000
theorem form_len {v : Vl} (h : formed v = true) : v.2.2.length ≤ 65536 := by
  unfold formed at h
  split at h
  · simp at h; rw [h.1]; simp
  · split at h
    · simp at h; rw [h]; simp
    · split at h
      · simp at h; rw [h.1]; simp
      · split at h
        · simp at h; exact h.2
        · cases h
/-- What lies behind find: the tail of Put, from the world w1 on. -/
theorem tail (w : World) (S : Nat → Prop) (g N : Nat) (d : St) (h : Dk w S g N d) (s : Ky) (hs : ok s) (p : Pnt) (hp : Wp p) (hl : (pts (d.F s)).length ≤ 511) (hN : N ≤ 140737488353000)
    (w5 : World) (Z : Nat) (_ : Z ≤ 9223372036854775807) (c : Nat) (pt : Ptr w5 c (d.F s)) (hc : d.F s = none → w.heap.size ≤ c) (ch : Chg w w5 S) (h5 : Dk w5 S g N { d with size := Z }) :
    Calls Try.prog 35 #[.pointer (some ⟨c, 0, none⟩), pa p] w5 fun e w1 => e = .returned (.tuple #[]) ∧
      Calls Try.prog 36 #[.pointer (some ⟨g, 0, none⟩), kv s, .pointer (some ⟨c, 0, none⟩)] w1 fun e w2 => e = .returned (.tuple #[]) ∧ ∃ d', vw d' = { vw d with size := Z, P := fun y => if y = s then ins p (pts (d.F s)) else (vw d).P y } ∧ Dk w2 (New S w w2) g (N + 1) d' ∧ Chg w w2 S := by
  refine (puthold w5 S g N _ h5 s hs c pt (fun hF hS => by have := hc hF; have := h.lt c hS; omega) p hp hl hN).mono ?_
  rintro e w1 ⟨rfl, c1, _, H⟩
  refine ⟨rfl, H.mono ?_⟩
  rintro e w2 ⟨rfl, d', v, k, c2⟩
  have s5 := ch.size
  have s2 := c2.size
  have hcc : S c ∨ w.heap.size ≤ c := by
    cases hF : d.F s with
    | none => exact .inr (hc hF)
    | some f =>
      rw [hF] at pt
      exact .inl ((h.fm s f hF).2.2 c (.inl pt.1.symm))
  have hcl := pt.lt (ft_b pt)
  refine ⟨rfl, d', v, k.set (fun k hk => ?_) (fun k hk => ?_), ch.trans c2 (fun k hk hl => ?_)⟩
  · rcases hk with (hk | hk) | hk
    · exact .inl hk
    · exact .inr ⟨by omega, hk.2⟩
    · subst hk
      exact hcc.imp id fun e => ⟨e, by omega⟩
  · rcases hk with hk | hk
    · have := h.lt k hk; omega
    · exact hk.2
  · rcases hk with hk | hk
    · exact hk
    · subst hk
      rcases hcc with e | e
      · exact e
      · omega
/-- The world behind the count and the text's copy. -/
theorem mid (w : World) (S : Nat → Prop) (g N : Nat) (d : St) (h : Dk w S g N d) (s : Ky) (hs : ok s) (p : Pnt) (hp : Wp p) (hl : (pts (d.F s)).length ≤ 511) (hN : N ≤ 140737488353000)
    (w4 w5 w6 : World) (Z c : Nat) (hZ : Z ≤ 9223372036854775807) (bx : Box w w4 p) (hz : w4.frozen? ⟨w.heap.size, 3, none⟩ = false) (pt : Ptr w4 c (d.F s)) (hc : d.F s = none → w.heap.size < c) (h45 : Chg w4 w5 (fun k => k = g)) (hcs : Cs w5 g { d with size := Z }) (b6 : Below w5.heap.size w5 w6) :
    w6.cell? ⟨w.heap.size, 0, none⟩ = some (.int .i64 p.1) ∧ w6.cell? ⟨w.heap.size, 1, none⟩ = some (.int .i64 p.2.1) ∧ w6.cell? ⟨w.heap.size, 2, none⟩ = some (.int .u64 (p.2.2.1 : Nat)) ∧ w6.cell? ⟨w.heap.size, 3, none⟩ = some (.string (str p.2.2.2)) ∧ w6.frozen? ⟨w.heap.size, 3, none⟩ = false ∧
    Calls Try.prog 35 #[.pointer (some ⟨c, 0, none⟩), pa p] (w6.setCell ⟨w.heap.size, 3, none⟩ (.string (str p.2.2.2))) fun e w1 => e = .returned (.tuple #[]) ∧
      Calls Try.prog 36 #[.pointer (some ⟨g, 0, none⟩), kv s, .pointer (some ⟨c, 0, none⟩)] w1 fun e w2 => e = .returned (.tuple #[]) ∧ ∃ d', vw d' = { vw d with size := Z, P := fun y => if y = s then ins p (pts (d.F s)) else (vw d).P y } ∧ Dk w2 (New S w w2) g (N + 1) d' ∧ Chg w w2 S := by
  have gl := h.lt g h.sg
  have l4 := bx.lt
  have s45 := h45.size
  have s6 := b6.size
  have eb : w6.heap[w.heap.size]? = w4.heap[w.heap.size]? := (b6.block _ (by omega)).trans (h45.block _ l4 (by omega))
  have e6 : ∀ k, k < w4.heap.size → k ≠ g → w6.heap[k]? = w4.heap[k]? := fun k hk hg => (b6.block k (by omega)).trans (h45.block k hk hg)
  have hf : ∀ k, ft c (d.F s) k → k ≠ g ∧ k ≠ w.heap.size := fun k hk => by
    cases hF : d.F s with
    | none =>
      rw [hF] at hk
      have := hc hF
      have e : k = c := hk
      omega
    | some f =>
      rw [hF] at hk
      obtain ⟨_, a, b⟩ := h.fm s f hF
      have := h.lt k (b k hk)
      exact ⟨fun e => a (e ▸ hk), by omega⟩
  have ch6 : Chg w w6 S := ((Chg.of_below bx.bl (Nat.le_refl _) S).trans (h45.imp (S' := S) fun k hk _ => hk ▸ h.sg) (fun k hk _ => hk)).trans (Chg.of_below b6 (Nat.le_refl _) (fun _ => False)) (fun k hk _ => hk.elim)
  have ch7 : Chg w (w6.setCell ⟨w.heap.size, 3, none⟩ (.string (str p.2.2.2))) S := ch6.trans ((Chg.refl w6 (fun k => k = w.heap.size)).setCell rfl _) (fun k hk hl => by omega)
  have h5 := (h.below bx.bl (Nat.le_refl _)).nums h45 hcs rfl rfl
  have h7 := (h5.below b6 (Nat.le_refl _)).chg (w' := w6.setCell ⟨w.heap.size, 3, none⟩ (.string (str p.2.2.2))) ((Chg.refl w6 (fun k => k = w.heap.size)).setCell rfl (.string (str p.2.2.2))) (fun k hk e => by have := h.lt k hk; omega)
  have p7 : Ptr (w6.setCell ⟨w.heap.size, 3, none⟩ (.string (str p.2.2.2))) c (d.F s) := pt.move fun k hk => (heap_setCell_ne (hf k hk).2).trans (e6 k (pt.lt hk) (hf k hk).1)
  have c6 := fun i => World.cell?_of_block (a := ⟨w.heap.size, i, none⟩) eb
  exact ⟨(c6 0).trans bx.b0, (c6 1).trans bx.b1, (c6 2).trans bx.b2, (c6 3).trans bx.b3, (World.frozen?_of_block eb).trans hz, tail w S g N d h s hs p hp hl hN _ Z hZ c p7 (fun e => Nat.le_of_lt (hc e)) ch7 h7⟩
theorem put19_ok (w : World) (S : Nat → Prop) (g N : Nat) (d : St) (h : Dk w S g N d) (s : Ky) (hs : ok s) (p : Pnt) (hp : Wp p) (hf : formed p.2 = true) (ht : tk (pts (d.F s)) p.2.1 = true) (hl : (pts (d.F s)).length ≤ 511) (hh : has p.1 (pts (d.F s)) = false) (hm : d.size < d.most) (hN : N ≤ 140737488353000) : Calls Try.prog 19 #[.pointer (some ⟨g, 0, none⟩), .string s.1, .string s.2, pa p] w fun e w' => e = .returned (.int .i64 0) ∧ ∃ d', vw d' = { vw d with size := d.size + 1, P := fun y => if y = s then ins p (pts (d.F s)) else (vw d).P y } ∧ Dk w' (New S w w') g (N + 1) d' ∧ Chg w w' S := by
  have FO := Lib.hid (fun w => Cf.formed40 w p.2 hp.2)
  rw [hf] at FO
  have FI := Lib.hid (show ∀ w1, Below w.heap.size w w1 → _ from fun w1 b1 => find25 w1 S g N d (h.below b1 (Nat.le_refl _)) s hs)
  have TK := Lib.hid (fun w1 b (hc : Ptr w1 b (d.F s)) => takes32 w1 b (d.F s) hc p.2.1)
  rw [ht] at TK
  have HA := Lib.hid (fun w1 b (hc : Ptr w1 b (d.F s)) => has33 w1 b (d.F s) hc p.1 (by omega))
  rw [hh] at HA
  have CL := Lib.hid (fun w1 => clone34 w1 (str p.2.2.2) (by have := form_len hf; have e := Ca.str_size p.2.2.2; omega))
  have CC := Lib.hid (show ∀ w1, Below w.heap.size w w1 → w1.cell? ⟨g, 0, none⟩ = some (.int .i64 (d.most : Nat)) ∧ w1.cell? ⟨g, 1, none⟩ = some (.int .i64 (d.size : Nat)) ∧ w1.frozen? ⟨g, 1, none⟩ = false from fun w1 b1 => by
    have k := h.cs.of_block (b1.block g (h.lt g h.sg))
    exact ⟨k.c0, k.c1, k.z 1⟩)
  have BXO := Lib.hid (fun w1 (b : Below (w.heap.size + 1) (w.alloc (.cells #[.int .i64 p.1, .int .i64 p.2.1, .int .u64 (p.2.2.1 : Nat), .string (str p.2.2.2)] 32)) w1) => box_of (w := w) (p := p) b)
  have hmb := h.cs.bm
  have gl := h.lt g h.sg
  have BZO := Lib.hid (show ∀ w1, Below (w.heap.size + 1) (w.alloc (.cells #[.int .i64 p.1, .int .i64 p.2.1, .int .u64 (p.2.2.1 : Nat), .string (str p.2.2.2)] 32)) w1 → w1.frozen? ⟨w.heap.size, 3, none⟩ = false from fun w1 b => frozen_of_row _ _ _ _ _ ((b.block w.heap.size (by omega)).trans (heap_alloc_new _ _)))
  have MI := Lib.hid (fun w4 w5 w6 c bx hz pt hc h45 hcs b6 => mid w S g N d h s hs p hp hl hN w4 w5 w6 (d.size + 1) c (by omega) bx hz pt hc h45 hcs b6)
  have HCS := Lib.hid (show ∀ w4, Below w.heap.size w w4 → Cs (w4.setCell ⟨g, 1, none⟩ (.int .i64 ((d.size + 1 : Nat) : Int))) g { d with size := d.size + 1 } from fun w4 b4 => (h.cs.of_block (b4.block g gl)).set1 _ (by omega))
  obtain ⟨M, hM⟩ : ∃ M, M = d.most := ⟨_, rfl⟩
  obtain ⟨Z, hZ⟩ : ∃ Z, Z = d.size := ⟨_, rfl⟩
  rw [← hM, ← hZ] at CC hm
  rw [← hM] at hmb
  rw [← hZ]
  rw [← hZ] at MI HCS
  obtain ⟨x0, x1, x2, x3⟩ := p
  unfold pa
  unfold va at FO
  unfold kv at FI
  unfold kv pa at MI
  simp only at FO TK BXO HA CL BZO MI ⊢
  have HH0 := Lib.hid h
  clear hp hf h ht hh hM hZ
  go_enter Try.func19, Try.ntmps19
  go_wp2_with fail
  refine (FO.out _).mono ?_
  rintro e w1 ⟨rfl, b1⟩
  have BX := Lib.hid (BXO.out w1 (by rw [World.size_alloc] at b1; exact b1))
  have Z1 := Lib.hid (BZO.out w1 (by rw [World.size_alloc] at b1; exact b1))
  clear b1
  go_wp2_with fail
  refine (FI.out w1 BX.out.bl).mono ?_
  rintro e w2 ⟨c, rfl, pt, b2, hc⟩
  have TT := Lib.hid (TK.out w2 c pt)
  have BX2 := Lib.hid (BX.out.below b2)
  obtain ⟨_, g0, g1, g2, g3, _⟩ := BX2.out
  have PT := Lib.hid pt
  have HC := Lib.hid (show d.F s = none → w.heap.size < c from fun e => by have := hc e; have := BX.out.lt; omega)
  have Z2 := Lib.hid ((World.frozen?_of_block (a := ⟨w.heap.size, 3, none⟩) (b2.block _ BX.out.lt)).trans Z1.out)
  clear b2 pt hc
  go_wp2_with fail
  refine TT.out.mono ?_
  rintro e w3 ⟨rfl, b3⟩
  have BX3 := Lib.hid (BX2.out.below b3)
  have PT3 := Lib.hid (PT.out.below b3 (Nat.le_refl _))
  have HH := Lib.hid (HA.out w3 c PT3.out)
  have Z3 := Lib.hid ((World.frozen?_of_block (a := ⟨w.heap.size, 3, none⟩) (b3.block _ BX2.out.lt)).trans Z2.out)
  obtain ⟨_, g0, g1, g2, g3, _⟩ := BX3.out
  clear b3
  go_wp2_with fail
  refine HH.out.mono ?_
  rintro e w4 ⟨rfl, b4⟩
  have BX4 := Lib.hid (BX3.out.below b4)
  have PT4 := Lib.hid (PT3.out.below b4 (Nat.le_refl _))
  obtain ⟨c0, c1, z1⟩ := CC.out w4 BX4.out.bl
  have Z4 := Lib.hid ((World.frozen?_of_block (a := ⟨w.heap.size, 3, none⟩) (b4.block _ BX3.out.lt)).trans Z3.out)
  obtain ⟨_, g0, g1, g2, g3, _⟩ := BX4.out
  clear b4
  have hd : decide ((Z : Int) ≥ (M : Int)) = false := decide_eq_false (by omega)
  go_wp2_with fail
  go_quiet (fail)
  have hgn : ¬ (g = w.heap.size) := by omega
  have hgn2 : ¬ (w.heap.size = g) := by omega
  have MI2 := Lib.hid (fun w6 (b6 : Below ((w4.drewN nq).setCell ⟨g, 1, none⟩ (.int .i64 ((Z + 1 : Nat) : Int))).heap.size ((w4.drewN nq).setCell ⟨g, 1, none⟩ (.int .i64 ((Z + 1 : Nat) : Int))) w6) => MI.out w4 _ w6 c BX4.out Z4.out PT4.out HC.out (((Chg.refl w4 (fun k => k = g)).drewN nq).setCell rfl _) (HCS.out (w4.drewN nq) (bdn BX4.out.bl nq)) b6)
  push_cast at MI2
  go_wp2_with fail
  refine (CL.out _).mono ?_
  rintro e w6 ⟨rfl, b6⟩
  obtain ⟨k0, k1, k2, k3, kz, T6⟩ := MI2.out w6 b6
  have TT6 := Lib.hid T6
  clear b6 T6
  go_wp2_with fail
  refine TT6.out.mono ?_
  rintro e w7 ⟨rfl, T7⟩
  have TT7 := Lib.hid T7
  clear T7
  go_wp2_with fail
  refine TT7.out.mono ?_
  rintro e w8 ⟨rfl, T8⟩
  have TT8 := Lib.hid T8
  clear T8
  go_wp2_with fail
  go_ret
  exact ⟨rfl, TT8.out⟩
end Df
end Go.Proofs.Ytloiclmngmnbdaa
