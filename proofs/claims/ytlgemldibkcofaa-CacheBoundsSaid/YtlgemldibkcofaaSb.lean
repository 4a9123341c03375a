/- The law CacheBounds. -/
import Derived.Test.YtlgemldibkcofaaRg
import Derived.Test.YtlgemldibkcofaaOb
namespace Go.Proofs.Ytlgemldibkcofaa
open Go.RowKit Go.Maps Go.ChangeMaps Go.MapKept
namespace Sb
open Jb Ca Ck Ct Cd Ls Lb Lc Ld Li Lj Lk Lm Ln Lo Lp Cq Cr Da Db Dc Ce Cs De Df Dg Dh Ra Rb Rc Rd Tb Re Rf Rg Ob
set_option maxRecDepth 100000
/-- What is known of the cache at the round k. -/
structure K (w wr : World) (g r k N : Nat) (V : Vw) : Prop where
  dv : DV wr (Up g wr) g N V
  of : ∃ T, Of V T
  most : V.most = r
  size : V.size ≤ r
  bel : Below w.heap.size w wr
  g : g ≤ wr.heap.size
/-- One call keeps it. -/
theorem K.play {w wr : World} {g r k N : Nat} {V : Vw} (h : K w wr g r k N V) (hg : w.heap.size ≤ g) (hr : r < 256) (hN : N ≤ 140737488353000) (o : Oc) (ho : Wo o) (w1 : World) (h1 : R0 w1 wr.heap.size) (b1 : Below wr.heap.size wr w1) :
    Calls Try.prog 11 #[.pointer (some ⟨g, 0, none⟩), .pointer (some ⟨wr.heap.size, 0, none⟩), opa o] w1 fun e w' => (∃ x : Bool, e = .returned (.bool x)) ∧ K w w' g r (k + 1) (N + 1) (stp V o) := by
  obtain ⟨T, hT⟩ := h.of
  have s1 := b1.size
  have hle := hT.le o.s
  have hsz := h.size
  have hm := h.most
  refine (playB w1 (Up g wr) g N wr.heap.size V (h.dv.below b1) h1 (fun e => by have := e.2; omega) o ho.1 ho.2 (by omega) hle hN).mono ?_
  rintro e w' ⟨hx, d, c⟩
  have s2 := c.size
  have hg2 := h.g
  obtain ⟨q1, q2, q3⟩ := step_of hT o (h.dv.rise o.s) (by omega)
  refine ⟨hx, d.set (fun j hj => ?_) (fun j hj => hj.2), q1, by omega, by omega, ?_, by omega⟩
  · rcases hj with hj | hj
    · exact ⟨hj.1, by have := hj.2; omega⟩
    · exact ⟨by have := hj.1; omega, hj.2⟩
  · refine h.bel.trans ((b1.mono (by omega)).trans (c.below (fun j hj _ => ?_) (by omega)))
    rcases hj with hj | hj
    · have := hj.1; omega
    · omega
theorem bounds5 (w : World) (r : Nat) (v : Value) (O : List Oc) (hr : r < 256) (hO : Oi w v O) (hl : O.length ≤ 140737488350000) :
    Calls Try.prog 5 #[.int .u8 (r : Nat), v] w fun e w' => e = .returned (.bool true) ∧ Below w.heap.size w w' := by
  have AW := Lib.hid (awake8 w)
  have NW := Lib.hid (fun w => newD w (r : Nat) (by omega))
  have RN := Lib.hid (fun w => refnew10 w)
  have SZ := Lib.hid (fun w S g N V h => sizeD w S g N V h)
  obtain ⟨a, c, hve⟩ := hO.forms
  rw [hve]
  obtain ⟨n, hn⟩ : ∃ n, n = O.length := ⟨_, rfl⟩
  rw [← hn] at hl ⊢
  have HW := Lib.hid hO.1
  have HA := Lib.hid (show 0 < n → ∃ b off, a = some ⟨b, off, none⟩ ∧ n ≤ c ∧ b < w.heap.size ∧ ∀ i, i < n → OAt w b (off + i * 9) (O.getD i o0) ∧ Wo (O.getD i o0) from fun h0 => by
    rcases hO.2 with ⟨_, _, _, e⟩ | ⟨b, off, c2, e, h1, h2, h3⟩
    · rw [e] at hn; simp at hn; omega
    · rw [hve] at e
      cases e
      rw [← hn] at h1 h3
      exact ⟨b, off, rfl, h1, h2, fun i hi => ⟨h3 i hi, hO.1 _ (by rw [List.getD_eq_getElem?_getD, List.getElem?_eq_getElem (by omega)]; exact List.getElem_mem _)⟩⟩)
  clear hO hn hve
  go_enter Try.func5, Try.ntmps5
  go_wp2_with fail
  refine AW.out.mono ?_
  rintro e w1 ⟨rfl, b1⟩
  have B1 := Lib.hid b1
  clear b1
  go_wp2_with fail
  refine (NW.out _).mono ?_
  rintro e w2 ⟨rfl, d2, b2⟩
  have D2 := Lib.hid (show DV w2 (Up w1.heap.size w2) w1.heap.size 0 (V0 r) from d2)
  have B2 := Lib.hid (B1.out.trans (b2.mono B1.out.size))
  have S1 := B1.out.size
  clear d2 b2
  go_wp2_with fail
  obtain ⟨g, hg⟩ : ∃ g, g = w1.heap.size := ⟨_, rfl⟩
  rw [← hg] at D2 ⊢
  have HS1 : Hid (w.heap.size ≤ g) := Lib.hid (by omega)
  clear S1 hg
  go_loopw [14] (fun i wr => ∃ k N V, i = .int .i64 (k : Nat) ∧ k ≤ n ∧ N ≤ k ∧ Hid (K w wr g r k N V)) (fun i _ => n - (intOf i).toNat)
  case atStart => exact ⟨0, 0, _, rfl, Nat.zero_le _, Nat.le_refl _, Lib.hid ⟨D2.out, ⟨_, Re.Of.zero r⟩, rfl, Nat.zero_le _, B2.out, by obtain ⟨d, _, h⟩ := D2.out; exact Nat.le_of_lt (h.lt g h.sg)⟩⟩
  case round =>
    obtain ⟨k, N, V, rfl, hkn, hN, HR⟩ := hrel
    by_cases hk : k < n
    case neg =>
      obtain rfl : k = n := by omega
      go_wp2_with fail
      go_ret
      exact ⟨rfl, HR.out.bel⟩
    obtain ⟨b, off, rfl, hnc, hb, hcell⟩ := HA.out (by omega)
    obtain ⟨o, ho⟩ : ∃ o, o = O.getD k o0 := ⟨_, rfl⟩
    obtain ⟨ho1, ho2⟩ := hcell k hk
    rw [← ho] at ho1 ho2
    have OC := Lib.hid (show ∀ y : World, Below w.heap.size w y → OAt y b (off + k * 9) o from fun y hy => ho1.of_block (hy.block b hb))
    have PL := Lib.hid (fun w1 h1 b1 => HR.out.play HS1.out hr (by omega) o ho2 w1 h1 b1)
    have BV := Lib.hid HR.out.bel
    clear hcell ho ho1 ho2
    obtain ⟨kd, s, p, a', b'⟩ := o
    unfold opa at PL
    simp only at PL
    have CE := Lib.hid (show ∀ y : World, Below w.heap.size w y → y.cell? ⟨b, off + k * 9, none⟩ = some (.int .i64 kd) ∧ y.cell? ⟨b, off + k * 9 + 1, none⟩ = some (.string s.1) ∧ y.cell? ⟨b, off + k * 9 + 2, none⟩ = some (.string s.2) ∧ (y.cell? ⟨b, off + k * 9 + 3, none⟩ = some (.int .i64 p.1) ∧ y.cell? ⟨b, off + k * 9 + 4, none⟩ = some (.int .i64 p.2.1) ∧ y.cell? ⟨b, off + k * 9 + 5, none⟩ = some (.int .u64 (p.2.2.1 : Nat)) ∧ y.cell? ⟨b, off + k * 9 + 6, none⟩ = some (.string (str p.2.2.2))) ∧ y.cell? ⟨b, off + k * 9 + 7, none⟩ = some (.int .i64 a') ∧ y.cell? ⟨b, off + k * 9 + 8, none⟩ = some (.int .i64 b') from fun y hy => by
      have h := OC.out y hy
      exact ⟨h 0 _ rfl, h 1 _ rfl, h 2 _ rfl, ⟨h 3 _ rfl, h 4 _ rfl, h 5 _ rfl, h 6 _ rfl⟩, h 7 _ rfl, h 8 _ rfl⟩)
    have kX := CE.out wr BV.out
    have NR := Lib.hid (show Calls Try.prog 10 #[.int .i64 0] wr.drew fun e w' => e = .returned (.pointer (some ⟨wr.heap.size, 0, none⟩)) ∧ R0 w' wr.heap.size ∧ Below wr.heap.size wr w' from (RN.out wr.drew).mono fun e w' ⟨q1, q2, q3⟩ => ⟨q1, q2, (Below.refl _ wr).drew.trans q3⟩)
    go_wp2_with fail
    go_region_held (fun y => y.cell? ⟨b, off + k * 9, none⟩ = some (.int .i64 kd) ∧ y.cell? ⟨b, off + k * 9 + 1, none⟩ = some (.string s.1) ∧ y.cell? ⟨b, off + k * 9 + 2, none⟩ = some (.string s.2) ∧ (y.cell? ⟨b, off + k * 9 + 3, none⟩ = some (.int .i64 p.1) ∧ y.cell? ⟨b, off + k * 9 + 4, none⟩ = some (.int .i64 p.2.1) ∧ y.cell? ⟨b, off + k * 9 + 5, none⟩ = some (.int .u64 (p.2.2.1 : Nat)) ∧ y.cell? ⟨b, off + k * 9 + 6, none⟩ = some (.string (str p.2.2.2))) ∧ y.cell? ⟨b, off + k * 9 + 7, none⟩ = some (.int .i64 a') ∧ y.cell? ⟨b, off + k * 9 + 8, none⟩ = some (.int .i64 b'))
      (first | exact kX | exact kY | exact kZ)
      (first | (go_at_call 10; refine NR.out.mono ?_; rintro e w3 ⟨rfl, r3, b3⟩; have R3 := Lib.hid r3; have B3 := Lib.hid b3; have kY := CE.out w3 (BV.out.trans (b3.mono BV.out.size)); clear r3 b3) | (go_at_call 11; refine (PL.out _ R3.out B3.out).mono ?_; rintro e w4 ⟨⟨x, rfl⟩, h4⟩; have H4 := Lib.hid h4; have kZ := CE.out w4 h4.bel; clear h4))
    clear kX
    have NW4 := Lib.hid (show K w w4 g r (k + 1) (N + 1) (stp V ⟨kd, s, p, a', b'⟩) from H4.out)
    obtain ⟨V4, hV4⟩ : ∃ V4, V4 = stp V ⟨kd, s, p, a', b'⟩ := ⟨_, rfl⟩
    rw [← hV4] at NW4
    clear hV4 PL OC CE H4 kY kZ NR R3 B3
    have Z4 := Lib.hid (SZ.out w4 _ g _ V4 NW4.out.dv)
    have z1 := NW4.out.size
    have z2 : V4.size < 256 := by omega
    go_wp2_with fail
    refine Z4.out.mono ?_
    rintro e w5 ⟨rfl, rfl⟩
    go_wp2_with fail
    have hd : decide (r < V4.size) = false := decide_eq_false (by omega)
    rw [hd]
    refine Z4.out.mono ?_
    rintro e w6 ⟨rfl, rfl⟩
    go_wp2_with fail
    go_roundw
    case rel => exact ⟨k + 1, N + 1, V4, by go_num, by omega, by omega, NW4⟩
    case measure => simp [intOf]; omega
end Sb
end Go.Proofs.Ytlgemldibkcofaa
