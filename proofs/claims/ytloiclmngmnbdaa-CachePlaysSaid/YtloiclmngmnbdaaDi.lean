/- The law CacheLast. -/
import Derived.Test.YtloiclmngmnbdaaDh
namespace Go.Proofs.Ytloiclmngmnbdaa
open Go.RowKit Go.Maps Go.ChangeMaps Go.MapKept
namespace Di
open Jb Ca Ck Ct Cd Ls Lb Lc Ld Li Lj Lk Lm Ln Lo Lp Cq Cr Da Db Dc Ce Cs De Df Dg Dh

/-- A slice of 64-bit integers. -/
def Iv (w : World) (v : Value) (X : List Int) : Prop :=
  (∀ x ∈ X, -9223372036854775808 ≤ x ∧ x ≤ 9223372036854775807) ∧ ((∃ a c, v = .slice a 0 c ∧ X = []) ∨
    ∃ b off c, v = .slice (some ⟨b, off, none⟩) X.length c ∧ X.length ≤ c ∧ b < w.heap.size ∧ ∀ i, i < X.length → w.cell? ⟨b, off + i, none⟩ = some (.int .i64 (X.getD i 0)))
theorem Iv.forms {w : World} {v : Value} {X : List Int} (h : Iv w v X) : ∃ a c, v = .slice a X.length c := by
  rcases h.2 with ⟨a, c, rfl, rfl⟩ | ⟨b, off, c, rfl, _⟩
  · exact ⟨a, c, rfl⟩
  · exact ⟨_, _, rfl⟩
/-- What is seen of the cache at the round i. -/
structure J (t : Int) (i : Nat) (V : Vw) : Prop where
  most : V.most = 10000
  size : V.size ≤ 2 * i
  tf : (V.P (sT, sF)).length ≤ i
  sf : V.P (sS, sF) = [] ∨ ∃ u, V.P (sS, sF) = [(t, 2, u, [])]
theorem J0 (t : Int) : J t 0 (V0 10000) := ⟨rfl, Nat.le_refl _, by simp [V0], .inl rfl⟩
theorem J_put {t : Int} {i u : Nat} {V : Vw} (h : J t i V) (hi : i < 100) : putE V (sS, sF) (t, 2, u, []) = 0 ∧ (putV V (sS, sF) (t, 2, u, [])).P (sS, sF) = [(t, 2, u, [])] ∧ (putV V (sS, sF) (t, 2, u, [])).size ≤ V.size + 1 ∧ (putV V (sS, sF) (t, 2, u, [])).most = 10000 ∧ (putV V (sS, sF) (t, 2, u, [])).P (sT, sF) = V.P (sT, sF) := by
  have hf : formed ((2, u, []) : Vl) = true := by simp [formed]
  have htk : tk (V.P (sS, sF)) 2 = true := by
    rcases h.sf with e | ⟨u', e⟩
    · rw [e]; rfl
    · rw [e]; rfl
  have he : putE V (sS, sF) (t, 2, u, []) = 0 := by
    unfold putE
    rw [if_neg (by rw [hf]; decide), if_neg (by rw [htk]; decide)]
    exact if_neg (fun x => by have := h.most; have := h.size; omega)
  have hne : ¬ (((sT, sF) : Ky) = (sS, sF)) := by decide
  refine ⟨he, ?_, ?_, ?_, ?_⟩
  · unfold putV
    rw [if_pos he]
    simp only [if_true]
    rcases h.sf with e | ⟨u', e⟩
    · rw [e]; rfl
    · rw [e]; simp [ins]
  · unfold putV
    rw [if_pos he]
    simp only
    split <;> omega
  · unfold putV
    rw [if_pos he]
    exact h.most
  · unfold putV
    rw [if_pos he]
    simp only [if_neg hne]
theorem J_other {V : Vw} (p : Pnt) (hr : Rise (V.P (sT, sF))) : (putV V (sT, sF) p).P (sS, sF) = V.P (sS, sF) ∧ (putV V (sT, sF) p).size ≤ V.size + 1 ∧ (putV V (sT, sF) p).most = V.most ∧ ((putV V (sT, sF) p).P (sT, sF)).length ≤ (V.P (sT, sF)).length + 1 := by
  have hne : ¬ (((sS, sF) : Ky) = (sT, sF)) := by decide
  unfold putV
  split
  · simp only [if_neg hne, if_true]
    refine ⟨trivial, ?_, trivial, ?_⟩
    · split <;> omega
    · rw [ins_len hr]; split <;> omega
  · exact ⟨rfl, by omega, rfl, by omega⟩
theorem rng_one (t : Int) (v : Vl) : rng t t [(t, v)] = [(t, v)] := by simp [rng, inr]
theorem putU (B : Nat) (w : World) (g N : Nat) (V : Vw) (hB : B ≤ w.heap.size) (h : DV w (Up B w) g N V) (s : Ky) (hs : ok s) (p : Pnt) (hp : Wp p) (hl : (V.P s).length ≤ 511) (hN : N ≤ 140737488353000) : Calls Try.prog 19 #[.pointer (some ⟨g, 0, none⟩), .string s.1, .string s.2, pa p] w fun e w' => e = .returned (.int .i64 (putE V s p)) ∧ DV w' (Up B w') g (N + 1) (putV V s p) ∧ Below B w w' := by
  refine (putD w (Up B w) g N V h s hs p hp hl hN).mono ?_
  rintro e w' ⟨rfl, k, c⟩
  exact ⟨rfl, k.set (up_new hB c.size) (fun k hk => hk.2), up_below c hB⟩
theorem getU (B : Nat) (w : World) (g N : Nat) (V : Vw) (_ : B ≤ w.heap.size) (h : DV w (Up B w) g N V) (s : Ky) (hs : ok s) (a b : Int) (hl : (V.P s).length ≤ 1000000) :
    Calls Try.prog 15 #[.pointer (some ⟨g, 0, none⟩), .string s.1, .string s.2, .int .i64 a, .int .i64 b] w fun e w' => ∃ r, e = .returned r ∧ w'.ownsRow w.heap.size 32 4 r (rng a b (V.P s)).length (pcs (rng a b (V.P s))) ∧ DV w' (Up B w') g N V ∧ Below w.heap.size w w' := by
  refine (getD w (Up B w) g N V h s hs a b hl).mono ?_
  rintro e w' ⟨r, rfl, o, b⟩
  exact ⟨r, rfl, o, (h.below b).set (fun k hk => ⟨hk.1, by have := hk.2; have := b.size; omega⟩) (fun k hk => hk.2), b⟩
set_option maxRecDepth 100000
set_option maxHeartbeats 1000000 in
theorem last4 (w : World) (t : Int) (v u : Value) (X : List Int) (O : List Pnt) (ht : -9223372036854775808 ≤ t ∧ t ≤ 9223372036854775807) (hv : Iv w v X) (hu : Pi w u O) :
    Calls Try.prog 4 #[.int .i64 t, v, u] w fun e w' => e = .returned (.bool true) ∧ Below w.heap.size w w' := by
  have AW := Lib.hid (awake8 w)
  have NW := Lib.hid (fun w => newD w 10000 (by omega))
  obtain ⟨a, c, hve⟩ := hv.forms
  obtain ⟨a', c', hue⟩ := hu.forms
  rw [hve, hue]
  obtain ⟨n, hn⟩ : ∃ n, n = X.length := ⟨_, rfl⟩
  obtain ⟨m, hm⟩ : ∃ m, m = O.length := ⟨_, rfl⟩
  rw [← hn, ← hm]
  have HV := Lib.hid hv
  have HU := Lib.hid hu
  have HN := Lib.hid hn
  have HM := Lib.hid hm
  have HA := Lib.hid (show 0 < n → ∃ b off, a = some ⟨b, off, none⟩ ∧ n ≤ c ∧ ∀ w', Below w.heap.size w w' → ∀ i, i < n → w'.cell? ⟨b, off + i, none⟩ = some (.int .i64 (X.getD i 0)) from fun h0 => by
    rcases hv.2 with ⟨_, _, _, e⟩ | ⟨b, off, c2, e, h1, h2, h3⟩
    · rw [e] at hn; simp at hn; omega
    · rw [hve] at e
      cases e
      rw [← hn] at h1 h3
      exact ⟨b, off, rfl, h1, fun w' bl i hi => (World.cell?_of_block (bl.block b h2)).trans (h3 i hi)⟩)
  have HO := Lib.hid (show 0 < m → ∃ b off, a' = some ⟨b, off, none⟩ ∧ m ≤ c' ∧ ∀ w', Below w.heap.size w w' → ∀ i, i < m → PAt w' b (off + i * 4) (O.getD i p0) from fun h0 => by
    rcases hu.2 with ⟨_, _, _, e⟩ | ⟨b, off, c2, e, h1, h2, h3⟩
    · rw [e] at hm; simp at hm; omega
    · rw [hue] at e
      cases e
      rw [← hm] at h1 h3
      exact ⟨b, off, rfl, h1, fun w' bl i hi => (h3 i hi).of_block (bl.block b h2)⟩)
  clear hv hu hn hm hve hue
  go_enter Try.func4, Try.ntmps4
  go_wp2_with fail
  refine AW.out.mono ?_
  rintro e w1 ⟨rfl, b1⟩
  have B1 := Lib.hid b1
  clear b1
  go_wp2_with fail
  refine (NW.out _).mono ?_
  rintro e w2 ⟨rfl, d2, b2⟩
  have D2 := Lib.hid (show DV w2 (Up w1.heap.size w2) w1.heap.size 0 (V0 10000) from d2)
  have B2 := Lib.hid (B1.out.trans (b2.mono B1.out.size))
  have S1 := B1.out.size
  clear d2 b2
  go_wp2_with fail
  have hwt : ∀ U : Nat, U < 18446744073709551616 → Wp (t, 2, U, []) := fun U hU => ⟨ht, by show (-9223372036854775808 : Int) ≤ 2; decide, by show (2 : Int) ≤ _; decide, hU, by simp⟩
  have HWT := Lib.hid hwt
  obtain ⟨g, hg⟩ : ∃ g, g = w1.heap.size := ⟨_, rfl⟩
  rw [← hg] at D2 ⊢
  have HS1 : Hid (w.heap.size ≤ g) := Lib.hid (by omega)
  clear hwt S1 hg
  go_loopw [15] (fun i wr => ∃ k N V, i = .int .i64 (k : Nat) ∧ k ≤ n ∧ k ≤ 100 ∧ N ≤ 2 * k ∧ Hid (DV wr (Up g wr) g N V ∧ J t k V ∧ Below w.heap.size w wr ∧ g ≤ wr.heap.size)) (fun i _ => n - (intOf i).toNat)
  case atStart => exact ⟨0, 0, _, rfl, Nat.zero_le _, by omega, by omega, Lib.hid ⟨D2.out, J0 t, B2.out, by obtain ⟨d, _, h⟩ := D2.out; exact Nat.le_of_lt (h.lt g h.sg)⟩⟩
  case round =>
    obtain ⟨k, N, V, rfl, hkn, hk100, hN, HR⟩ := hrel
    by_cases hk : k < n
    case neg =>
      obtain rfl : k = n := by omega
      go_wp2_with fail
      go_ret
      exact ⟨rfl, HR.out.2.2.1⟩
    by_cases hk1 : k < 100
    case neg =>
      go_wp2_with fail
      go_ret
      exact ⟨rfl, HR.out.2.2.1⟩
    obtain ⟨dv, jv, bv, gv⟩ := HR.out
    obtain ⟨b, off, rfl, hnc, hcell⟩ := HA.out (by omega)
    have HCE := Lib.hid hcell
    have e1 := hcell wr bv k hk
    obtain ⟨x, hx⟩ : ∃ x, x = X.getD k 0 := ⟨_, rfl⟩
    rw [← hx] at e1
    have HX := Lib.hid hx
    obtain ⟨U, hU, hU2⟩ : ∃ U : Nat, IntKind.u64.wrap x = ((U : Nat) : Int) ∧ U < 18446744073709551616 := by
      have h := IntKind.wrap_u64 x
      refine ⟨(IntKind.u64.wrap x).toNat, ?_, ?_⟩ <;> omega
    obtain ⟨j1, j2, j3, j4, j5⟩ := J_put (u := U) jv hk1
    have PU := putU g wr g N V gv dv (sS, sF) (ok_s sS sF (by decide) (by decide)) (t, 2, U, []) (HWT.out U hU2) (by rcases jv.sf with e | ⟨_, e⟩ <;> rw [e] <;> simp) (by omega)
    rw [j1] at PU
    unfold pa at PU
    simp only [Dh.str_nil] at PU
    replace PU := Lib.hid PU
    have HJ := Lib.hid (And.intro jv (And.intro j2 (And.intro j3 (And.intro j4 j5))))
    clear hcell hx dv jv j1 j2 j3 j4 j5
    go_wp2_with fail
    refine PU.out.mono ?_
    rintro e w3 ⟨rfl, dv3, b3⟩
    have s3 := b3.size
    have bv3 := bv.trans (b3.mono HS1.out)
    have gv3 : g ≤ w3.heap.size := by omega
    obtain ⟨jv, j2, j3, j4, j5⟩ := HJ.out
    by_cases hkm : k < m
    · obtain ⟨b', off', rfl, hmc, hpat⟩ := HO.out (by omega)
      obtain ⟨p0', p1', p2', p3'⟩ := hpat w3 bv3 k hkm
      obtain ⟨y, hy⟩ : ∃ y, y = O.getD k p0 := ⟨_, rfl⟩
      rw [← hy] at p0' p1' p2' p3'
      have hyw : Wp y := by rw [hy]; exact getD_wp HU.out.1 k
      obtain ⟨o1, o2, o3, o4⟩ := J_other y (dv3.rise (sT, sF))
      have PU2 := putU g w3 g (N + 1) _ gv3 dv3 (sT, sF) (ok_s sT sF (by decide) (by decide)) y hyw (by rw [j5]; have := jv.tf; omega) (by omega)
      unfold pa at PU2
      replace PU2 := Lib.hid PU2
      have HO4 := Lib.hid (And.intro o1 (And.intro o2 (And.intro o3 o4)))
      have BV3 := Lib.hid bv3
      obtain ⟨y0, y1, y2, y3⟩ := y
      simp only at p0' p1' p2' p3' PU2
      clear dv3 hy hyw o1 o2 o3 o4 hpat bv3 b3
      go_wp2_with fail
      refine PU2.out.mono ?_
      rintro e W4 ⟨rfl, dv4, b4⟩
      have s4 := b4.size
      have gv4 : g ≤ W4.heap.size := by omega
      have bv4 := BV3.out.trans (b4.mono HS1.out)
      obtain ⟨o1, o2, o3, o4⟩ := HO4.out
      obtain ⟨N4, hN4⟩ : ∃ N4, N4 = N + 1 + 1 := ⟨_, rfl⟩
      rw [← hN4] at dv4
      have hN4' : N4 ≤ N + 2 := by omega
      generalize putV (putV V (sS, sF) (t, 2, U, [])) (sT, sF) (y0, y1, y2, y3) = V4 at dv4 o1 o2 o3 o4
      have q1 : V4.P (sS, sF) = [(t, 2, U, [])] := o1.trans j2
      have q2 : V4.size ≤ V.size + 2 := by omega
      have q3 : V4.most = 10000 := o3.trans j4
      have q4 : (V4.P (sT, sF)).length ≤ (V.P (sT, sF)).length + 1 := by rw [← j5]; exact o4
      clear o1 o2 o3 o4 j2 j3 j4 j5 hN4 jv s4 s3
      have GU := getU g W4 g N4 V4 gv4 dv4 (sS, sF) (ok_s sS sF (by decide) (by decide)) t t (by rw [q1]; simp)
      rw [q1, rng_one] at GU
      replace GU := Lib.hid GU
      have Q4 := Lib.hid (And.intro q1 (And.intro q2 (And.intro q3 q4)))
      have BV4 := Lib.hid bv4
      clear dv4 q1 q2 q3 q4
      go_wp2_with fail
      refine GU.out.mono ?_
      rintro e w5 ⟨r, rfl, o5, dv5, b5⟩
      have GV5 := b5.size
      replace o5 : w5.ownsRow W4.heap.size 32 4 r 1 (pcs [(t, 2, U, [])]) := o5
      obtain ⟨q, qc, rfl⟩ := Go.Joins.ownsRow_form o5 (by decide)
      have f2 := o5.cellAt 2 (by decide)
      simp [pcs, pc, vc] at f2
      have f0 := HCE.out w5 (BV4.out.trans (b5.mono (by have := BV4.out.size; omega))) k hk
      rw [← HX.out] at f0
      have DV5 := Lib.hid dv5
      have BV5 := Lib.hid (BV4.out.trans (b5.mono (by have := BV4.out.size; omega)))
      clear o5 dv5 b5
      go_wp2_with fail
      go_quiet (fail)
      go_wp2_with fail
      go_roundw
      case rel =>
        obtain ⟨z1, z2, z3, z4⟩ := Q4.out
        obtain ⟨jv, _⟩ := HJ.out
        have j1 := jv.size
        have j2 := jv.tf
        exact ⟨k + 1, N4, V4, by go_num, by omega, by omega, by omega, Lib.hid ⟨by obtain ⟨d, e, h⟩ := DV5.out; exact ⟨d, e, h.move (Nat.le_refl _) (fun _ _ => rfl)⟩, ⟨z3, by omega, by omega, .inr ⟨U, z1⟩⟩, bdn BV5.out _, by show g ≤ w5.heap.size; omega⟩⟩
      case measure => simp [intOf]; omega
    · obtain ⟨W4, hW4⟩ : ∃ W4, W4 = w3 := ⟨_, rfl⟩
      rw [← hW4] at dv3 b3 s3 bv3 gv3 ⊢
      clear hW4
      obtain ⟨N4, hN4⟩ : ∃ N4, N4 = N + 1 := ⟨_, rfl⟩
      rw [← hN4] at dv3
      have hN4' : N4 ≤ N + 2 := by omega
      generalize putV V (sS, sF) (t, 2, U, []) = V4 at dv3 j2 j3 j4 j5
      have q1 : V4.P (sS, sF) = [(t, 2, U, [])] := j2
      have q2 : V4.size ≤ V.size + 2 := by omega
      have q3 : V4.most = 10000 := j4
      have q4 : (V4.P (sT, sF)).length ≤ (V.P (sT, sF)).length + 1 := by rw [j5]; omega
      have dv4 := dv3
      have gv4 := gv3
      have bv4 := bv3
      clear dv3 gv3 bv3 b3 j2 j3 j4 j5 hN4 jv s3
      have GU := getU g W4 g N4 V4 gv4 dv4 (sS, sF) (ok_s sS sF (by decide) (by decide)) t t (by rw [q1]; simp)
      rw [q1, rng_one] at GU
      replace GU := Lib.hid GU
      have Q4 := Lib.hid (And.intro q1 (And.intro q2 (And.intro q3 q4)))
      have BV4 := Lib.hid bv4
      clear dv4 q1 q2 q3 q4
      go_wp2_with fail
      refine GU.out.mono ?_
      rintro e w5 ⟨r, rfl, o5, dv5, b5⟩
      have GV5 := b5.size
      replace o5 : w5.ownsRow W4.heap.size 32 4 r 1 (pcs [(t, 2, U, [])]) := o5
      obtain ⟨q, qc, rfl⟩ := Go.Joins.ownsRow_form o5 (by decide)
      have f2 := o5.cellAt 2 (by decide)
      simp [pcs, pc, vc] at f2
      have f0 := HCE.out w5 (BV4.out.trans (b5.mono (by have := BV4.out.size; omega))) k hk
      rw [← HX.out] at f0
      have DV5 := Lib.hid dv5
      have BV5 := Lib.hid (BV4.out.trans (b5.mono (by have := BV4.out.size; omega)))
      clear o5 dv5 b5
      go_wp2_with fail
      go_quiet (fail)
      go_wp2_with fail
      go_roundw
      case rel =>
        obtain ⟨z1, z2, z3, z4⟩ := Q4.out
        obtain ⟨jv, _⟩ := HJ.out
        have j1 := jv.size
        have j2 := jv.tf
        exact ⟨k + 1, N4, V4, by go_num, by omega, by omega, by omega, Lib.hid ⟨by obtain ⟨d, e, h⟩ := DV5.out; exact ⟨d, e, h.move (Nat.le_refl _) (fun _ _ => rfl)⟩, ⟨z3, by omega, by omega, .inr ⟨U, z1⟩⟩, bdn BV5.out _, by show g ≤ w5.heap.size; omega⟩⟩
      case measure => simp [intOf]; omega
end Di
end Go.Proofs.Ytloiclmngmnbdaa
