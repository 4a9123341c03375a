/- Awake; the law SeriesTags. -/
import Derived.Test.YtedlgcbgbphlkaaSq
namespace Go.Proofs.Ytedlgcbgbphlkaa
open Go.RowKit
namespace Sr'
open Jb Sa Sb Sc Sd Se Sf Sg Sh Si Sj Sk Sl Sm Sn So Sp Sq

def s0 : Sr := (⟨#[99, 112, 117]⟩, [(⟨#[104, 111, 115, 116]⟩, ⟨#[97, 32, 98]⟩)])
theorem s0_str : tstr s0 = ⟨#[99, 112, 117, 44, 104, 111, 115, 116, 61, 97, 92, 32, 98]⟩ := by kernel_rfl
theorem s0_err : terr s0 = 0 := by kernel_rfl
set_option maxRecDepth 100000 in
theorem awake8 (w : World) : Calls Try.prog 8 #[] w fun e w' => e = .returned (.bool true) ∧ Below w.heap.size w w' := by
  obtain ⟨W, hW⟩ : ∃ W, W = w.alloc (.cells #[.string ⟨#[104, 111, 115, 116]⟩, .string ⟨#[97, 32, 98]⟩] 37) := ⟨_, rfl⟩
  obtain ⟨y, hy⟩ : ∃ y, y = w.heap.size := ⟨_, rfl⟩
  have BW := Lib.hid (show Below w.heap.size w W by rw [hW]; exact (Below.refl _ w).alloc (Nat.le_refl _) _)
  have SW := Lib.hid (show w.heap.size ≤ W.heap.size by rw [hW]; simp)
  have TI : Ti W (.slice (some ⟨y, 0, none⟩) 1 1) s0.2 := by
    refine .inr ⟨y, 0, 1, rfl, Nat.le_refl _, by rw [hW, hy]; simp, fun i hi => ?_⟩
    have hi0 : i = 0 := by
      have : s0.2.length = 1 := rfl
      omega
    subst hi0
    rw [hW, hy]
    exact ⟨new_cell _ _ _ 0 _ rfl, new_cell _ _ _ 1 _ rfl⟩
  have TX := Lib.hid (show Calls Try.prog 10 #[.agg #[.string ⟨#[99, 112, 117]⟩, .slice (some ⟨y, 0, none⟩) 1 1]] W fun e w' => e = .returned (.tuple #[.string ⟨#[99, 112, 117, 44, 104, 111, 115, 116, 61, 97, 92, 32, 98]⟩, .int .i64 0]) ∧ Below W.heap.size W w' by
    have := text10 W s0.1 _ s0.2 TI (by decide) (fun x hx => by
      obtain rfl : x = (⟨#[104, 111, 115, 116]⟩, ⟨#[97, 32, 98]⟩) := by simpa [s0] using hx
      decide) (by decide)
    rw [show ((s0.1, s0.2) : Sr) = s0 from rfl, s0_str, s0_err] at this
    exact this)
  clear TI
  go_enter Try.func8, Try.ntmps8
  go_wp2_with (rw [← hW, ← hy]; clear hW hy; go_at_call 10; refine TX.out.mono ?_; clear TX; rintro e w1 ⟨rfl, b1⟩; have B1 := Lib.hid b1; clear b1)
  go_ret
  exact ⟨rfl, BW.out.trans (B1.out.mono SW.out)⟩
set_option maxRecDepth 100000 in
set_option maxHeartbeats 1000000 in
theorem tags6 (w : World) (nm key : ByteArray) (which : Int) (_ : -9223372036854775808 ≤ which ∧ which ≤ 9223372036854775807) (v : Value) (L : List Tg) (h : Ti w v L) (hz : ∀ x ∈ L, x.2.size ≤ 140737488355328) (hl : L.length ≤ 140737488355328) :
    Calls Try.prog 6 #[.agg #[.string nm, v], .string key, .int .i64 which] w fun e w' => e = .returned (.bool true) ∧ Below w.heap.size w w' := by
  obtain ⟨a, c, rfl, hg⟩ := h.get
  obtain ⟨n, hN⟩ : ∃ n, n = L.length := ⟨_, rfl⟩
  obtain ⟨x, hx⟩ : ∃ x, x = w.heap.size := ⟨_, rfl⟩
  obtain ⟨W, hW⟩ : ∃ W, W = w.alloc (.cells #[.string nm, .slice a L.length c] 24) := ⟨_, rfl⟩
  have BW := Lib.hid (show Below w.heap.size w W by rw [hW]; exact (Below.refl _ w).alloc (Nat.le_refl _) _)
  have SW := Lib.hid (show W.heap.size = x + 1 by rw [hW, hx]; simp)
  have HX := Lib.hid hx
  have HG := Lib.hid hg
  have HN := Lib.hid hN
  have AW := Lib.hid (awake8 W)
  have T18 := Lib.hid (fun (y : World) (by' : Below w.heap.size w y) (k : ByteArray) => tag18 y nm k _ L (h.below by') hz hl)
  have T19 := Lib.hid (fun (y : World) (by' : Below w.heap.size w y) (k : ByteArray) => tag19 y nm k _ L (h.below by') hl)
  have c0 : W.cell? ⟨x, 0, none⟩ = some (.string nm) := by rw [hW, hx]; exact new_cell _ _ _ 0 _ rfl
  have c1 : W.cell? ⟨x, 1, none⟩ = some (.slice a L.length c) := by rw [hW, hx]; exact new_cell _ _ _ 1 _ rfl
  have CC := Lib.hid (fun (y : World) (b : Below W.heap.size W y) => (show (y.cell? ⟨x, 0, none⟩ = some (.string nm) ∧ y.cell? ⟨x, 1, none⟩ = some (.slice a L.length c)) ∧ Below w.heap.size w y from
    ⟨⟨(b.cell (p := ⟨x, 0, none⟩) (by rw [SW.out]; exact Nat.lt_succ_self _)).trans c0, (b.cell (p := ⟨x, 1, none⟩) (by rw [SW.out]; exact Nat.lt_succ_self _)).trans c1⟩, BW.out.trans (b.mono (by rw [SW.out, HX.out]; exact Nat.le_succ _))⟩))
  rw [← hN] at hW hl HG CC T18 T19 ⊢
  clear h hg hN c0 c1 hz
  go_enter Try.func6, Try.ntmps6
  go_upto_region 1 with (fail)
  rw [← hW, ← hx]
  clear hW hx
  go_upto_region 3 with (go_at_call 8; refine AW.out.mono ?_; clear AW; rintro e w1 ⟨rfl, b1⟩; have B1 := Lib.hid b1; clear b1)
  obtain ⟨⟨z0, z1⟩, b01⟩ := CC.out w1 B1.out
  have B01 := Lib.hid b01
  clear b01
  by_cases h0 : 0 < n
  · have d0 : decide ((n : Int) > 0) = true := decide_eq_true (by omega)
    by_cases hm : ((which.tmod 2) == 0) = true
    · obtain ⟨U, hU, hU2⟩ : ∃ U : Nat, IntKind.u64.wrap which = (U : Int) ∧ U < 18446744073709551616 := ⟨(IntKind.u64.wrap which).toNat, by rw [IntKind.wrap_u64]; omega, by rw [IntKind.wrap_u64]; omega⟩
      obtain ⟨X, hX⟩ : ∃ X, X = U % n := ⟨_, rfl⟩
      have hXn : X < n := by rw [hX]; exact Nat.mod_lt _ h0
      have eN : IntKind.u64.wrap (n : Int) = (n : Int) := by rw [IntKind.wrap_u64]; omega
      have eX : (U : Int).tmod (n : Int) = (X : Int) := by rw [hX, Int.tmod_eq_emod_of_nonneg (by omega)]; rfl
      have eW : IntKind.i64.wrap (X : Int) = (X : Int) := wr64 X (by omega)
      have eW2 : IntKind.u64.wrap (X : Int) = (X : Int) := by rw [IntKind.wrap_u64]; omega
      have n0 : ((n : Int) == 0) = false := by simp; omega
      have n1 : ¬ (n : Int) = 0 := by omega
      have x9 : (0 : Int) ≤ (X : Int) := by omega
      obtain ⟨b, off, rfl, hnc, hb, hT⟩ := HG.out X hXn
      obtain ⟨y0, y1⟩ := hT w1 B01.out
      obtain ⟨⟨ka, va⟩, hkv⟩ : ∃ y, y = L.getD X t0 := ⟨_, rfl⟩
      rw [← hkv] at y0 y1
      clear hX hkv hT hU2
      go_upto_region 4 with (fail)
      go_quiet (fail)
      obtain ⟨wz, hwz⟩ : ∃ wz, wz = w1.drewN nq := ⟨_, rfl⟩
      have BZ := Lib.hid (show Below w.heap.size w wz by rw [hwz]; exact bdn B01.out _)
      have CZ := Lib.hid (show Below W.heap.size W wz by rw [hwz]; exact bdn B1.out _)
      obtain ⟨⟨t0', t1'⟩, _⟩ := CC.out wz CZ.out
      rw [← hwz]
      clear hwz y0 y1 z0 z1 eX eW eW2 n0 n1 x9 hU eN hXn hm d0 h0 hb
      obtain ⟨K1, hK1⟩ : ∃ K1, K1 = (tgf L ka).1 := ⟨_, rfl⟩
      obtain ⟨K2, hK2⟩ : ∃ K2, K2 = (tgf L ka).2 := ⟨_, rfl⟩
      have D18 := Lib.hid (T18.out wz BZ.out ka)
      have D19 := Lib.hid (fun (y : World) (b : Below w.heap.size w y) => T19.out y b ka)
      rw [← hK1, ← hK2] at D18 D19
      have QE : (K1.toList == K1.toList) = true := by simp
      clear hK1 hK2
      go_wp2_with (first
        | (go_at_call 18; refine D18.out.mono ?_; clear D18; rintro e w2 ⟨rfl, b2⟩; have B2 := Lib.hid (BZ.out.trans (b2.mono BZ.out.size)); (obtain ⟨⟨u0, u1⟩, _⟩ := CC.out w2 (CZ.out.trans (b2.mono CZ.out.size))); clear b2)
        | (go_at_call 19; refine (D19.out w2 B2.out).mono ?_; clear D19; rintro e w3 ⟨rfl, b3⟩; have B3 := Lib.hid (B2.out.trans (b3.mono B2.out.size)); clear b3))
      go_ret
      exact ⟨by simp, B3.out⟩
    · have hm' : ((which.tmod 2) == 0) = false := by simpa using hm
      have BZ := B01
      have CZ := B1
      clear hm
      obtain ⟨K1, hK1⟩ : ∃ K1, K1 = (tgf L key).1 := ⟨_, rfl⟩
      obtain ⟨K2, hK2⟩ : ∃ K2, K2 = (tgf L key).2 := ⟨_, rfl⟩
      have D18 := Lib.hid (T18.out w1 BZ.out key)
      have D19 := Lib.hid (fun (y : World) (b : Below w.heap.size w y) => T19.out y b key)
      rw [← hK1, ← hK2] at D18 D19
      have QE : (K1.toList == K1.toList) = true := by simp
      clear hK1 hK2
      go_wp2_with (first
        | (go_at_call 18; refine D18.out.mono ?_; clear D18; rintro e w2 ⟨rfl, b2⟩; have B2 := Lib.hid (BZ.out.trans (b2.mono BZ.out.size)); (obtain ⟨⟨u0, u1⟩, _⟩ := CC.out w2 (CZ.out.trans (b2.mono CZ.out.size))); clear b2)
        | (go_at_call 19; refine (D19.out w2 B2.out).mono ?_; clear D19; rintro e w3 ⟨rfl, b3⟩; have B3 := Lib.hid (B2.out.trans (b3.mono B2.out.size)); clear b3))
      go_ret
      exact ⟨by simp, B3.out⟩
  · obtain rfl : n = 0 := by omega
    have BZ := B01
    have CZ := B1
    clear h0
    obtain ⟨K1, hK1⟩ : ∃ K1, K1 = (tgf L key).1 := ⟨_, rfl⟩
    obtain ⟨K2, hK2⟩ : ∃ K2, K2 = (tgf L key).2 := ⟨_, rfl⟩
    have D18 := Lib.hid (T18.out w1 BZ.out key)
    have D19 := Lib.hid (fun (y : World) (b : Below w.heap.size w y) => T19.out y b key)
    rw [← hK1, ← hK2] at D18 D19
    have QE : (K1.toList == K1.toList) = true := by simp
    clear hK1 hK2
    go_wp2_with (first
      | (go_at_call 18; refine D18.out.mono ?_; clear D18; rintro e w2 ⟨rfl, b2⟩; have B2 := Lib.hid (BZ.out.trans (b2.mono BZ.out.size)); (obtain ⟨⟨u0, u1⟩, _⟩ := CC.out w2 (CZ.out.trans (b2.mono CZ.out.size))); clear b2)
      | (go_at_call 19; refine (D19.out w2 B2.out).mono ?_; clear D19; rintro e w3 ⟨rfl, b3⟩; have B3 := Lib.hid (B2.out.trans (b3.mono B2.out.size)); clear b3))
    go_ret
    exact ⟨by simp, B3.out⟩
end Sr'
end Go.Proofs.Ytedlgcbgbphlkaa
