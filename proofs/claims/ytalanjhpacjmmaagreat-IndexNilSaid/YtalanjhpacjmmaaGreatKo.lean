/- told. -/
import Derived.Test.YtalanjhpacjmmaaGreatKn
import Derived.Laws.MakeOwn
namespace Go.Proofs.YtalanjhpacjmmaaGreat
set_option maxRecDepth 100000
open Go.RowKit Go.Maps Go.ChangeMaps Go.MapKept Go.Sort Go.Shelf
namespace Ko
open Jb Ka Kb Kc Kd Kf Kg Kh Ki Kj Kk Kl Km Kn Sa Sb Sg

/-- A slice of texts. -/
def Tl (w : World) (v : Value) (ns : List (List UInt8)) : Prop :=
  (∃ a c, v = .slice a 0 c ∧ ns = []) ∨ ∃ b off c, v = .slice (some ⟨b, off, none⟩) ns.length c ∧ ns.length ≤ c ∧ b < w.heap.size ∧ ∀ i, i < ns.length → w.cell? ⟨b, off + i, none⟩ = some (.string (ba (ns.getD i [])))
theorem Tl.get {w : World} {v : Value} {ns : List (List UInt8)} (h : Tl w v ns) : ∃ a c, v = .slice a ns.length c ∧ ∀ i, i < ns.length → ∃ b off, a = some ⟨b, off, none⟩ ∧ ns.length ≤ c ∧ b < w.heap.size ∧ ∀ y, Below w.heap.size w y → y.cell? ⟨b, off + i, none⟩ = some (.string (ba (ns.getD i []))) := by
  rcases h with ⟨a, c, rfl, rfl⟩ | ⟨b, off, c, rfl, h1, h2, h3⟩
  · exact ⟨a, c, rfl, fun i hi => by simp at hi⟩
  · exact ⟨_, c, rfl, fun i hi => ⟨b, off, rfl, h1, h2, fun y hy => (World.cell?_of_block (hy.block b h2)).trans (h3 i hi)⟩⟩
theorem Tl.below {w w' : World} {v : Value} {ns : List (List UInt8)} (h : Tl w v ns) (b : Below w.heap.size w w') : Tl w' v ns := by
  rcases h with h | ⟨q, off, c, h1, h2, h3, h4⟩
  · exact .inl h
  · exact .inr ⟨q, off, c, h1, h2, Nat.lt_of_lt_of_le h3 b.size, fun i hi => (World.cell?_of_block (b.block q h3)).trans (h4 i hi)⟩
theorem tl_own {w : World} {B : Nat} {v : Value} {ns : List (List UInt8)} (h : w.ownsRow B 9 1 v ns.length (encs ns)) : Tl w v ns := by
  obtain ⟨hl, ⟨rfl, h0⟩ | ⟨g, c, cur, rfl, hg, hh, hnc, hcm, hsz, htk⟩⟩ := h
  · exact .inl ⟨none, 0, rfl, List.length_eq_zero_iff.1 h0⟩
  · have hgl : g < w.heap.size := by rw [Array.getElem?_eq_some_iff] at hh; exact hh.1
    have ho : w.ownsRow B 9 1 (.slice (some ⟨g, 0, none⟩) ns.length c) ns.length (encs ns) := ⟨hl, .inr ⟨g, c, cur, rfl, hg, hh, hnc, hcm, hsz, htk⟩⟩
    refine .inr ⟨g, 0, c, rfl, hnc, hgl, fun i hi => ?_⟩
    rw [Nat.zero_add, ho.cellAt i (by omega)]
    simp [encs, List.getD_eq_getElem?_getD, hi, encStr, ba]
theorem info_S : (Tryz.prog.info? 30).map (fun i => (i.zero, i.size, i.bytes)) = some (some (.agg #[.string ⟨#[]⟩, .slice none 0 0]), 2, 40) := by kernel_rfl
theorem make_S (w : World) (n : Nat) (hn : n ≤ 3518437208883) (rs : List Sr) : ∃ w', (Instr.makeSlice 38 (.int .i64 (n : Nat)) (.int .i64 (n : Nat))).run Tryz.prog w = .ok (.slice (some ⟨w.heap.size, 0, none⟩) n n) w' ∧ Fl w' w.heap.size n 0 rs ∧ Below w.heap.size w w' := by
  obtain ⟨i0, hi, hz0, hz1, hz2⟩ := info_parts info_S
  obtain ⟨w', h1, h2, h3⟩ := run_make_full (P := Tryz.prog) w w.heap.size 38 30 i0 (.agg #[.string ⟨#[]⟩, .slice none 0 0]) 2 Tryz.underlying38 hi hz0 hz1 .i64 .i64 n (by rw [hz2]; omega) (by unfold maxLen; omega) (Nat.le_refl _)
  refine ⟨w', h1, ⟨?_, fun i hi => by omega⟩, ⟨h3.os, h3.tape, h3.output, h3.size, fun k hk => h3.block k hk (by simp)⟩⟩
  obtain ⟨_, ⟨e, _⟩ | ⟨g, c, cur, e, hg, hh, hnc, hcm, hsz, htk⟩⟩ := h2
  · cases e
  · cases e
    exact ⟨cur, hh, hsz⟩
set_option maxHeartbeats 4000000 in
theorem told_f (w : World) (g N : Nat) (ms : Option Nat) (F : Fun) (bk : Bk w g 0 ms N F) (tv : Value) (ns : List (List UInt8)) (ht : Tl w tv ns) (rs : List Sr) (hl : rs.length = ns.length)
    (hr : ∀ i, i < ns.length → ∃ a c, F (ba (ns.getD i [])) = some (sag (rs.getD i s0).1 a (rs.getD i s0).2.length c) ∧ Ti w (.slice a (rs.getD i s0).2.length c) (rs.getD i s0).2) (h8 : ∀ i, i < ns.length → (rs.getD i s0).2.length ≤ 8 ∧ (ba (ns.getD i [])).size ≤ maxLen) (hn : ns.length ≤ 3518437208883) :
    Calls Tryz.prog 51 #[.pointer (some ⟨g, 0, none⟩), tv] w fun e w' => ∃ v, e = .returned v ∧ Tf w' w.heap.size v rs ∧ Below w.heap.size w w' := by
  obtain ⟨ta, tc, rfl, hg⟩ := ht.get
  obtain ⟨n, hN⟩ : ∃ n, n = ns.length := ⟨_, rfl⟩
  rw [← hN] at hr h8 hn hg hl ⊢
  obtain ⟨w1, hmk, fl, b1⟩ := make_S w n hn rs
  obtain ⟨rb, hrb⟩ : ∃ rb, rb = w.heap.size := ⟨_, rfl⟩
  rw [← hrb] at hmk fl b1
  have FL := Lib.hid fl
  have B1 := Lib.hid b1
  have HG := Lib.hid (show ∀ i, i < n → ∃ b off, ta = some ⟨b, off, none⟩ ∧ n ≤ tc ∧ ∀ y, Below rb w y → y.cell? ⟨b, off + i, none⟩ = some (.string (ba (ns.getD i []))) from fun i hi => by
    obtain ⟨b, off, e, k1, _, k2⟩ := hg i hi
    exact ⟨b, off, e, k1, fun y hy => k2 y (hrb ▸ hy)⟩)
  have GS := Lib.hid (fun (y : World) (b : Below rb w y) (i : Nat) (hi : i < n) (a : Option Addr) (c : Nat) (e : F (ba (ns.getD i [])) = some (sag (rs.getD i s0).1 a (rs.getD i s0).2.length c)) => get_S y g N ms F (bk.below (hrb ▸ b)) (ba (ns.getD i [])) (h8 i hi).2 (rs.getD i s0).1 a (rs.getD i s0).2.length c (by rw [e]; rfl))
  have HR := Lib.hid (show ∀ i, i < n → ∃ a c, F (ba (ns.getD i [])) = some (sag (rs.getD i s0).1 a (rs.getD i s0).2.length c) ∧ (∀ y, Below rb w y → Ti y (.slice a (rs.getD i s0).2.length c) (rs.getD i s0).2) ∧ (rs.getD i s0).2.length ≤ 8 from fun i hi => by
    obtain ⟨a, c, e, t⟩ := hr i hi
    exact ⟨a, c, e, fun y hy => t.below (hrb ▸ hy), (h8 i hi).1⟩)
  have HL := Lib.hid hl
  have hn9 : n ≤ 9223372036854775807 := by omega
  rw [← hrb]
  have HRB := Lib.hid hrb
  clear bk ht hg hr h8 hn hN fl b1 hl hrb
  go_enter Tryz.func51, Tryz.ntmps51
  go_wp2_with fail
  go_loopw [6, 7, 8, 14] (fun _ _ _ i wr => ∃ j : Nat, j ≤ n ∧ i = .int .i64 (j : Nat) ∧ Hid (Fl wr rb n j rs) ∧ Hid (Below rb w wr)) (fun _ _ _ i _ => n - (intOf i).toNat)
  case atStart => exact ⟨0, Nat.zero_le _, rfl, FL, B1⟩
  case round =>
    obtain ⟨j, hj, rfl, FJ, BJ⟩ := hrel
    by_cases hjn : j < n
    case neg =>
      obtain rfl : j = n := by omega
      clear hjn
      go_wp2_with fail
      go_ret
      refine ⟨_, rfl, ?_, BJ.out⟩
      by_cases h0 : j = 0
      · subst h0
        exact .inl ⟨_, _, rfl, List.length_eq_zero_iff.1 HL.out⟩
      · rw [← HL.out]
        have := FJ.out
        rw [← HL.out] at this
        exact .inr ⟨rb, _, rfl, Nat.le_refl _, Nat.le_refl _, this⟩
    obtain ⟨b, off, rfl, hnc, hT⟩ := HG.out j hjn
    have x0 := hT wr BJ.out
    obtain ⟨a, c, e1, ti, l8⟩ := HR.out j hjn
    have G1 := Lib.hid (fun y hy => GS.out y hy j hjn a c e1)
    obtain ⟨X, hX⟩ : ∃ X, X = ba (ns.getD j []) := ⟨_, rfl⟩
    rw [← hX] at x0 G1
    obtain ⟨⟨nm, L⟩, hS⟩ : ∃ S, S = rs.getD j s0 := ⟨_, rfl⟩
    rw [← hS] at G1 ti l8
    simp only at G1 ti l8
    obtain ⟨q, hq⟩ : ∃ q, q = L.length := ⟨_, rfl⟩
    rw [← hq] at G1
    have HS := Lib.hid hS
    have HQ := Lib.hid hq
    have TI := Lib.hid ti
    have L8 := Lib.hid l8
    have hj0 : (0 : Int) ≤ (j : Int) := by omega
    clear hX hS hq hT ti l8 e1
    go_upto_region 6 with (go_at_call 77; refine (G1.out wr BJ.out).mono ?_; clear G1; rintro e w2 ⟨rfl, b2⟩; have B2 := Lib.hid b2; clear b2)
    have RL := Lib.hid (show rb < wr.heap.size from FJ.out.lt)
    obtain ⟨y, hy⟩ : ∃ y, y = w2.heap.size := ⟨_, rfl⟩
    obtain ⟨w3, hw3⟩ : ∃ w3, w3 = w2.alloc (.cells #[.string nm, .slice a q c] 30) := ⟨_, rfl⟩
    have hy0 : w3.cell? ⟨y, 0, none⟩ = some (.string nm) := by rw [hw3, hy]; exact new_cell _ _ _ 0 _ rfl
    have hy1 : w3.cell? ⟨y, 1, none⟩ = some (.slice a q c) := by rw [hw3, hy]; exact new_cell _ _ _ 1 _ rfl
    have B3 := Lib.hid (show Below wr.heap.size wr w3.drew from by
      have : Below wr.heap.size wr w3 := by rw [hw3]; exact B2.out.alloc B2.out.size _
      exact ⟨this.os, this.tape, this.output, this.size, this.block⟩)
    have BJ3 := Lib.hid (BJ.out.trans (B3.out.mono (Nat.le_of_lt RL.out)))
    have CT := Lib.hid (clone_tags w3.drew a c L (TI.out _ BJ3.out) (by have := L8.out; omega))
    rw [← HQ.out] at CT
    have F3 := Lib.hid (FJ.out.below B3.out)
    have k0 : w3.drew.cell? ⟨y, 0, none⟩ = some (.string nm) ∧ w3.drew.cell? ⟨y, 1, none⟩ = some (.slice a q c) := ⟨hy0, hy1⟩
    have YR := Lib.hid (show rb < y ∧ y < w3.drew.heap.size from ⟨by rw [hy]; exact Nat.lt_of_lt_of_le RL.out B2.out.size, cell_lt hy0⟩)
    have AFT := Lib.hid (show ∀ w4 a4 c4, w4.ownsRow w3.drew.heap.size 36 2 (.slice a4 q c4) q (tcs L) → Below w3.drew.heap.size w3.drew w4 →
        ((w4.cell? ⟨y, 0, none⟩ = some (.string nm) ∧ w4.cell? ⟨y, 1, none⟩ = some (.slice a q c)) ∧ (∃ u1 u2, w4.cell? ⟨rb, j * 2, none⟩ = some u1 ∧ w4.cell? ⟨rb, j * 2 + 1, none⟩ = some u2) ∧ (∀ i, w4.frozen? ⟨rb, i, none⟩ = false)) ∧
        Hid (Fl ((w4.setCell ⟨rb, j * 2, none⟩ (.string nm)).setCell ⟨rb, j * 2 + 1, none⟩ (.slice a4 q c4)) rb n (j + 1) rs ∧ Below rb w ((w4.setCell ⟨rb, j * 2, none⟩ (.string nm)).setCell ⟨rb, j * 2 + 1, none⟩ (.slice a4 q c4))) ∧
        (((w4.setCell ⟨rb, j * 2, none⟩ (.string nm)).setCell ⟨rb, j * 2 + 1, none⟩ (.slice a4 q c4)).cell? ⟨y, 0, none⟩ = some (.string nm) ∧ ((w4.setCell ⟨rb, j * 2, none⟩ (.string nm)).setCell ⟨rb, j * 2 + 1, none⟩ (.slice a4 q c4)).cell? ⟨y, 1, none⟩ = some (.slice a q c)) from fun w4 a4 c4 ow b4 => by
      have f4 := F3.out.below b4
      rw [HQ.out] at ow
      have ti4 : Ti w4 (.slice a4 L.length c4) L := ti_own ow
      have st := f4.step hjn (a := a4) (c := c4) (by rw [← HS.out]; exact ti4) (fun k hk => by
        rw [← HS.out] at hk
        have := (own_lt ow hk).1
        have := F3.out.lt
        exact ⟨by omega, own_fz ow hk⟩)
      rw [← HS.out, ← HQ.out] at st
      obtain ⟨s1, s2, s3⟩ := st
      have y4 : w4.cell? ⟨y, 0, none⟩ = some (.string nm) ∧ w4.cell? ⟨y, 1, none⟩ = some (.slice a q c) := ⟨(b4.cell (p := ⟨y, 0, none⟩) YR.out.2).trans k0.1, (b4.cell (p := ⟨y, 1, none⟩) YR.out.2).trans k0.2⟩
      have ne : ∀ i k, (⟨rb, i, none⟩ : Addr) ≠ ⟨y, k, none⟩ := fun i k e => by injection e with e1; have := YR.out.1; omega
      refine ⟨⟨y4, s1, s2⟩, Lib.hid ⟨s3, ?_⟩, ?_, ?_⟩
      · have hB4 : Below rb w w4 := BJ3.out.trans (b4.mono (by have := YR.out; omega))
        exact (hB4.setCell (p := ⟨rb, j * 2, none⟩) (Nat.le_refl _) _).setCell (p := ⟨rb, j * 2 + 1, none⟩) (Nat.le_refl _) _
      · exact (cell_other (ne _ _)).trans ((cell_other (ne _ _)).trans y4.1)
      · exact (cell_other (ne _ _)).trans ((cell_other (ne _ _)).trans y4.2))
    rw [← hw3, ← hy]
    clear hw3 hy hy0 hy1 x0
    go_region_held (fun u => u.cell? ⟨y, 0, none⟩ = some (.string nm) ∧ u.cell? ⟨y, 1, none⟩ = some (.slice a q c))
      (first | exact k0 | exact k4 | exact k5)
      (first | (go_at_call 88; refine CT.out.mono ?_; clear CT; rintro e w4 ⟨v4, rfl, ow, b4⟩; (obtain ⟨a4, c4, rfl⟩ := own_forms2 ow); (obtain ⟨⟨k4, ⟨u1, u2, s1, s2⟩, s3⟩, FF, k5⟩ := AFT.out w4 a4 c4 ow b4); have s30 := s3 (j * 2); have s31 := s3 (j * 2 + 1); clear ow b4))
    go_wp2_with fail
    go_roundw
    case rel => exact ⟨j + 1, by omega, by go_num, Lib.hid FF.out.1, Lib.hid FF.out.2⟩
    case measure => simp [intOf]; omega
theorem told_g (w : World) (g N : Nat) (ms : Option Nat) (F : Fun) (bk : Bk w g 0 ms N F) (tv : Value) (ns : List (List UInt8)) (ht : Tl w tv ns) (rs : List Sr) (hl : rs.length = ns.length)
    (hr : ∀ i, i < ns.length → ∃ a c, F (ba (ns.getD i [])) = some (sag (rs.getD i s0).1 a (rs.getD i s0).2.length c) ∧ Ti w (.slice a (rs.getD i s0).2.length c) (rs.getD i s0).2) (h8 : ∀ i, i < ns.length → (rs.getD i s0).2.length ≤ 8 ∧ (ba (ns.getD i [])).size ≤ maxLen) (hn : ns.length ≤ 3518437208883) :
    Calls Tryz.prog 51 #[.pointer (some ⟨g, 0, none⟩), tv] w fun e w' => ∃ v, e = .returned v ∧ Sl w' (fun k => w.heap.size ≤ k) v rs ∧ Below w.heap.size w w' :=
  (told_f w g N ms F bk tv ns ht rs hl hr h8 hn).mono fun _ _ ⟨v, e1, s, b⟩ => ⟨v, e1, s.sl, b⟩
end Ko
end Go.Proofs.YtalanjhpacjmmaaGreat
