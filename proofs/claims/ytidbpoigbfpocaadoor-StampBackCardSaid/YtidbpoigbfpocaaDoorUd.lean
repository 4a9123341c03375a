/- The law StampBack. -/
import Derived.Test.YtidbpoigbfpocaaDoorUc
namespace Go.Proofs.YtidbpoigbfpocaaDoor
open Go.RowKit
namespace Lw
open Bm Mt Wr Pk Rp Cv Rd Rx Sz Tm Ti En De Rr

theorem own_pl {w : World} {B : Nat} {v : Value} {bs : List Nat} (h : w.ownsRow B 5 1 v bs.length (u8s bs)) (h0 : 0 < bs.length) : Pl w v bs := pl_own h h0
theorem set_lt {bs : List Nat} (h : ∀ x ∈ bs, x < 256) (j y : Nat) (hy : y < 256) : ∀ x ∈ bs.set j y, x < 256 := by
  intro x hx
  rcases List.mem_or_eq_of_mem_set hx with h1 | h1
  · exact h x h1
  · rw [h1]; exact hy

set_option maxRecDepth 100000 in
set_option maxHeartbeats 1000000 in
theorem back5 (w : World) (v : Value) (T : List Int) (n y : Int) (hI : Ii w v T) (hT : Tab w) (_n1 : -9223372036854775808 ≤ n) (_n2 : n ≤ 9223372036854775807) (y1 : 0 ≤ y) (y2 : y < 256) :
    Calls Tryd.prog 5 #[v, .int .i64 n, .int .u8 y] w fun e w' => e = .returned (.bool true) ∧ Below w.heap.size w w' := by
  obtain ⟨q, rfl⟩ := Int.eq_ofNat_of_zero_le y1
  have F8 := Lib.hid (awake8 w hT)
  have FI : Hid (∀ x, Below w.heap.size w x → Ii x v T ∧ Tab x) := Lib.hid fun x b => ⟨hI.below b, hT.below b hT.1⟩
  by_cases hO : Ok T
  · have hin := hI.1
    obtain ⟨bl1, bl2⟩ := bytes_len T hO.2.1
    have hlt := bytes_lt T
    have hdb := dec_back hin hO
    have F10 : Hid (∀ x, Below w.heap.size w x → Calls Tryd.prog 10 #[v] x fun e w' => ∃ r, e = .returned (.tuple #[r, .int .i64 0]) ∧ w'.ownsRow x.heap.size 5 1 r (bytesOf T).length (u8s (bytesOf T)) ∧ Below x.heap.size x w') :=
      Lib.hid fun x b => (encode10 x v T (FI.out x b).1 (FI.out x b).2).mono fun e w' h => Encoded.ok h hO
    have F12 : Hid (∀ x B r, Below w.heap.size w x → World.ownsRow x B 5 1 r (bytesOf T).length (u8s (bytesOf T)) → Calls Tryd.prog 12 #[r] x fun e w' => ∃ q, e = .returned (.tuple #[q, .int .i64 0]) ∧ w'.ownsRow x.heap.size 2 1 q T.length (i64s T) ∧ Below x.heap.size x w') :=
      Lib.hid fun x B r b ho => (decode12 x r (bytesOf T) (pl_own ho (by omega)) hlt (FI.out x b).2 (by omega)).mono fun e w' h => Decoded.ok h hdb
    have F13 : Hid (∀ x B u, Below w.heap.size w x → World.ownsRow x B 2 1 u T.length (i64s T) → Calls Tryd.prog 13 #[u, v] x fun e w' => e = .returned (.bool true) ∧ ∃ m, w' = x.drewN m) := Lib.hid fun x B u b ho => same13 x u v T (ii_own ho hin) (FI.out x b).1 hO.2.1
    obtain ⟨bs, hbs⟩ : ∃ bs, bs = bytesOf T := ⟨_, rfl⟩
    rw [← hbs] at F10 F12 bl1 bl2 hlt
    have hX := hlt
    have HTab : Hid (∀ x, Below w.heap.size w x → Tab x) := Lib.hid fun x b => (FI.out x b).2
    have G12 : Hid (∀ j z, z < 256 → ∀ x B r, Below w.heap.size w x → World.ownsRow x B 5 1 r bs.length (u8s (bs.set j z)) → Calls Tryd.prog 12 #[r] x fun e w' => Decoded x (bs.set j z) e w') := Lib.hid fun j z hz x B r b ho => by
      have hl : (bs.set j z).length = bs.length := List.length_set
      rw [← hl] at ho
      exact decode12 x r (bs.set j z) (pl_own ho (by omega)) (set_lt hX j z hz) (HTab.out x b) (by omega)
    have G11 : Hid (∀ j z, z < 256 → ∀ x B r, World.ownsRow x B 5 1 r bs.length (u8s (bs.set j z)) → Calls Tryd.prog 11 #[r] x fun e w' => Decoded x (bs.set j z) e w') := Lib.hid fun j z hz x B r ho => by
      have hl : (bs.set j z).length = bs.length := List.length_set
      rw [← hl] at ho
      exact rdecode11 x r (bs.set j z) (pl_own ho (by omega)) (set_lt hX j z hz) (by omega)
    have HX := Lib.hid hX
    obtain ⟨L, hL⟩ : ∃ L, L = bs.length := ⟨_, rfl⟩
    rw [← hL] at F10 F12 G12 G11 bl1 bl2
    have HLL := Lib.hid hL
    obtain ⟨U, hU⟩ : ∃ U, U = ut n := ⟨_, rfl⟩
    have hu := @ut_of n
    rw [← hU] at hu
    have hwn : IntKind.u64.wrap n = (U : Int) := by rw [IntKind.wrap_u64]; omega
    have hwl : IntKind.u64.wrap (L : Int) = (L : Int) := by rw [IntKind.wrap_u64]; omega
    obtain ⟨P, hP⟩ : ∃ P, P = U % L := ⟨_, rfl⟩
    have hpl : P < L := by rw [hP]; exact Nat.mod_lt _ (by omega)
    have hmod : (U : Int) % (L : Int) = (P : Int) := by rw [hP]; push_cast; rfl
    clear hI hT hO hin hdb hbs hlt hX hL hU hu hP
    go_enter Tryd.func5, Tryd.ntmps5
    go_wp2_with (go_at_call 8; refine F8.out.mono ?_; rintro e w1 ⟨rfl, b1⟩; have B1 := Lib.hid b1; clear b1)
    refine (F10.out _ B1.out).mono ?_
    rintro e w2 ⟨r2, rfl, o2, b2⟩
    obtain ⟨g, c, rfl⟩ := Go.Joins.ownsRow_form o2 (by omega)
    have O2 := Lib.hid o2
    have B2 := Lib.hid (B1.out.trans (b2.mono B1.out.size))
    have HG : Hid (w.heap.size ≤ g) := Lib.hid (by have := (o2.lt g rfl).1; have := B1.out.size; omega)
    clear o2 b2
    go_wp2_with fail
    refine (F12.out _ _ _ B2.out O2.out).mono ?_
    rintro e w3 ⟨r3, rfl, o3, b3⟩
    have O3 := Lib.hid o3
    have O23 := Lib.hid (own_below O2.out b3)
    have B3 := Lib.hid (B2.out.trans (b3.mono B2.out.size))
    clear o3 b3
    go_wp2_with fail
    refine (F13.out _ _ _ B3.out O3.out).mono ?_
    rintro e w4 ⟨rfl, hm⟩
    have O24 : Hid (w4.ownsRow w1.heap.size 5 1 (.slice (some ⟨g, 0, none⟩) L c) L (u8s bs)) := by obtain ⟨m, rfl⟩ := hm; exact O23
    have B4 : Hid (Below w.heap.size w w4) := by obtain ⟨m, rfl⟩ := hm; exact Lib.hid (Below.drewN' B3.out m)
    have e1 : w4.cell? ⟨g, P, none⟩ = some (.int .u8 (bs.getD P 0 : Nat)) := by
      rw [O24.out.cellAt P (by omega)]
      exact u8s_get bs P (by have := HLL.out; omega)
    have e2 : w4.frozen? ⟨g, P, none⟩ = false := O24.out.frozenAt P
    have hby := getD_lt HX.out P
    obtain ⟨Y, hY⟩ : ∃ Y, Y = bs.getD P 0 := ⟨_, rfl⟩
    rw [← hY] at e1 hby
    clear hm hY F8 F10 F12 F13 O23 O3 O2 B1 B2 B3
    go_upto_region 10 with (fail)
    obtain ⟨Z, hZ⟩ : ∃ Z, Z = (Y + q) % 256 := ⟨_, rfl⟩
    have hZi : ((Y : Int) + (q : Int)) % 256 = (Z : Int) := by omega
    have hZ9 : Z < 256 := by omega
    rw [hZi]
    obtain ⟨w5, hw5⟩ : ∃ w5, w5 = w4.setCell ⟨g, P, none⟩ (.int .u8 (Z : Nat)) := ⟨_, rfl⟩
    have O5 : Hid (w5.ownsRow w1.heap.size 5 1 (.slice (some ⟨g, 0, none⟩) L c) L (u8s (bs.set P Z))) := Lib.hid (by rw [hw5, u8s_set]; exact (O24.out.stored P _).1)
    have B5 : Hid (Below w.heap.size w w5) := Lib.hid (by
      rw [hw5]
      have hb := B4.out
      have hg := HG.out
      exact ⟨hb.os, hb.tape, hb.output, by simpa using hb.size, fun k hk => by rw [heap_setCell_other _ _ _ _ (by simp; omega)]; exact hb.block k hk⟩)
    rw [← hw5]
    have H12 : Hid (∀ x B r, Below w.heap.size w x → World.ownsRow x B 5 1 r L (u8s (bs.set P Z)) → Calls Tryd.prog 12 #[r] x fun e w' => Decoded x (bs.set P Z) e w') := Lib.hid (G12.out P Z hZ9)
    have H11 : Hid (∀ x B r, World.ownsRow x B 5 1 r L (u8s (bs.set P Z)) → Calls Tryd.prog 11 #[r] x fun e w' => Decoded x (bs.set P Z) e w') := Lib.hid (G11.out P Z hZ9)
    clear hw5 e1 e2 hby hZ hZi hmod hwn hwl G11 G12 O24 B4
    cases hu : dec (bs.set P Z) with
    | some T2 =>
      obtain ⟨hin, hok, _⟩ := dec_some hu
      have F12 : Hid (∀ x B r, Below w.heap.size w x → World.ownsRow x B 5 1 r L (u8s (bs.set P Z)) → Calls Tryd.prog 12 #[r] x fun e w' => ∃ r, e = .returned (.tuple #[r, .int .i64 0]) ∧ w'.ownsRow x.heap.size 2 1 r T2.length (i64s T2) ∧ Below x.heap.size x w') := Lib.hid fun x B r b ho => (H12.out x B r b ho).mono fun e w' h => Decoded.ok h hu
      have F11 : Hid (∀ x B r, World.ownsRow x B 5 1 r L (u8s (bs.set P Z)) → Calls Tryd.prog 11 #[r] x fun e w' => ∃ r, e = .returned (.tuple #[r, .int .i64 0]) ∧ w'.ownsRow x.heap.size 2 1 r T2.length (i64s T2) ∧ Below x.heap.size x w') := Lib.hid fun x B r ho => (H11.out x B r ho).mono fun e w' h => Decoded.ok h hu
      have F13 : Hid (∀ x B B' u v, World.ownsRow x B 2 1 u T2.length (i64s T2) → World.ownsRow x B' 2 1 v T2.length (i64s T2) → Calls Tryd.prog 13 #[u, v] x fun e w' => e = .returned (.bool true) ∧ ∃ m, w' = x.drewN m) := Lib.hid fun x B B' u v h1 h2 => same_own h1 h2 hin hok.2.1
      clear hu hin hok H12 H11
      go_wp2_with fail
      refine (F12.out _ _ _ B5.out O5.out).mono ?_
      rintro e w6 ⟨r6, rfl, o6, b6⟩
      have O56 := Lib.hid (own_below O5.out b6)
      have O6 := Lib.hid o6
      have B6 := Lib.hid (B5.out.trans (b6.mono B5.out.size))
      clear o6 b6
      go_wp2_with fail
      refine (F11.out _ _ _ O56.out).mono ?_
      rintro e w7 ⟨r7, rfl, o7, b7⟩
      have O67 := Lib.hid (own_below O6.out b7)
      have O7 := Lib.hid o7
      have B7 := Lib.hid (B6.out.trans (b7.mono B6.out.size))
      clear o7 b7
      go_wp2_with fail
      refine (F13.out _ _ _ _ _ O67.out O7.out).mono ?_
      rintro e w8 ⟨rfl, hm⟩
      go_wp2_with fail
      go_ret
      obtain ⟨m, rfl⟩ := hm
      exact ⟨rfl, Below.drewN' B7.out m⟩
    | none =>
      have F12 : Hid (∀ x B r, Below w.heap.size w x → World.ownsRow x B 5 1 r L (u8s (bs.set P Z)) → Calls Tryd.prog 12 #[r] x fun e w' => e = .returned (.tuple #[.slice none 0 0, .int .i64 2]) ∧ Below x.heap.size x w') := Lib.hid fun x B r b ho => (H12.out x B r b ho).mono fun e w' h => Decoded.bad h hu
      have F11 : Hid (∀ x B r, World.ownsRow x B 5 1 r L (u8s (bs.set P Z)) → Calls Tryd.prog 11 #[r] x fun e w' => e = .returned (.tuple #[.slice none 0 0, .int .i64 2]) ∧ Below x.heap.size x w') := Lib.hid fun x B r ho => (H11.out x B r ho).mono fun e w' h => Decoded.bad h hu
      have F13 := Lib.hid same_nil
      clear hu H12 H11
      go_wp2_with fail
      refine (F12.out _ _ _ B5.out O5.out).mono ?_
      rintro e w6 ⟨rfl, b6⟩
      have O56 := Lib.hid (own_below O5.out b6)
      have B6 := Lib.hid (B5.out.trans (b6.mono B5.out.size))
      clear b6
      go_wp2_with fail
      refine (F11.out _ _ _ O56.out).mono ?_
      rintro e w7 ⟨rfl, b7⟩
      have B7 := Lib.hid (B6.out.trans (b7.mono B6.out.size))
      clear b7
      go_wp2_with fail
      refine (F13.out _).mono ?_
      rintro e w8 ⟨rfl, hm⟩
      go_wp2_with fail
      go_ret
      obtain ⟨m, rfl⟩ := hm
      exact ⟨rfl, Below.drewN' B7.out m⟩
  · have F10 : Hid (∀ x, Below w.heap.size w x → Calls Tryd.prog 10 #[v] x fun e w' => e = .returned (.tuple #[.slice none 0 0, .int .i64 1]) ∧ Below x.heap.size x w') :=
      Lib.hid fun x b => (encode10 x v T (FI.out x b).1 (FI.out x b).2).mono fun e w' h => Encoded.bad h hO
    clear hI hT hO FI
    go_enter Tryd.func5, Tryd.ntmps5
    go_wp2_with (first
      | (go_at_call 8; refine F8.out.mono ?_; rintro e w1 ⟨rfl, b1⟩; have B1 := Lib.hid b1; clear b1)
      | (go_at_call 10; refine (F10.out _ B1.out).mono ?_; rintro e w2 ⟨rfl, b2⟩; have B2 := Lib.hid (B1.out.trans (b2.mono B1.out.size)); clear b2))
    go_ret
    exact ⟨rfl, B2.out⟩
end Lw
end Go.Proofs.YtidbpoigbfpocaaDoor
