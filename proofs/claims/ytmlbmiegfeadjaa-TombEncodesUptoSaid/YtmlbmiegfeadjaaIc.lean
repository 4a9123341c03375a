/- Encode. -/
import Derived.Test.YtmlbmiegfeadjaaIb
namespace Go.Proofs.Ytmlbmiegfeadjaa
open Go.RowKit
namespace Ic
open Jb hiding Own
open Ga Gm Gt Gw
open Wr (Mv Own)
open Mt (eight eight_lt)
open Ia Ib

set_option maxRecDepth 100000
set_option maxHeartbeats 8000000
theorem fm_true {L : List Tmb} (h : ∀ i, i < L.length → fmT (L.getD i t0) = true) : fmL L = true := by
  unfold fmL
  rw [List.all_eq_true]
  intro x hx
  obtain ⟨i, hi, rfl⟩ := List.getElem_of_mem hx
  have := h i hi
  rwa [List.getD_eq_getElem?_getD, List.getElem?_eq_getElem hi] at this
theorem fm_at {L : List Tmb} (h : fmL L = true) {i : Nat} (hi : i < L.length) : fmT (L.getD i t0) = true := by
  rw [List.getD_eq_getElem?_getD, List.getElem?_eq_getElem hi]
  exact List.all_eq_true.1 h _ (List.getElem_mem hi)
theorem fm_false {L : List Tmb} {i : Nat} (hi : i < L.length) (h : fmT (L.getD i t0) = false) : fmL L = false := by
  cases e : fmL L
  · rfl
  · rw [fm_at e hi] at h; cases h
theorem formed25 (w : World) (v : Value) (L : List Tmb) (h : Ti w v L) (hn : L.length ≤ 100000000000) :
    Calls Try.prog 25 #[v] w fun e w' => e = .returned (.bool (fmL L)) ∧ Below w.heap.size w w' := by
  obtain ⟨a, c, rfl, hg⟩ := h.get
  obtain ⟨n, hN⟩ : ∃ n, n = L.length := ⟨_, rfl⟩
  have FT := Lib.hid (fun (hh : ∀ i, i < n → fmT (L.getD i t0) = true) => fm_true (L := L) (fun i hi => hh i (by omega)))
  have FF := Lib.hid (fun i (hi : i < n) hh => fm_false (L := L) (i := i) (by omega) hh)
  have HG := Lib.hid hg
  rw [← hN] at HG hn ⊢
  obtain ⟨C, hC⟩ : ∃ C, C = fmL L := ⟨_, rfl⟩
  rw [← hC] at FT FF ⊢
  clear h hg hN hC
  go_enter Try.func25, Try.ntmps25
  go_wp2_with fail
  go_loopw [7] (fun i wr => ∃ q, q ≤ n ∧ i = .int .i64 (q : Nat) ∧ Hid (∀ j, j < q → fmT (L.getD j t0) = true) ∧ Hid (Below w.heap.size w wr)) (fun i _ => n - (intOf i).toNat)
  case atStart => exact ⟨0, Nat.zero_le _, rfl, Lib.hid (fun j hj => by omega), Lib.hid (Below.refl _ _)⟩
  case round =>
    obtain ⟨q, hq, rfl, HA, HB⟩ := hrel
    by_cases hqn : q < n
    case neg =>
      obtain rfl : q = n := by omega
      have e := Lib.hid (FT.out HA.out)
      go_wp2_with fail
      go_ret
      exact ⟨by rw [e.out]; rfl, HB.out⟩
    obtain ⟨b, off, rfl, hnc, hb, hT⟩ := HG.out q hqn
    obtain ⟨wa, rfl⟩ : ∃ wa, wa = wr := ⟨_, rfl⟩
    obtain ⟨x0, x1, x2, x3⟩ := hT wa HB.out
    have XF := Lib.hid (FF.out q hqn)
    have XT := Lib.hid (show fmT (L.getD q t0) = true → ∀ j, j < q + 1 → fmT (L.getD j t0) = true from fun hh j hj => by
      by_cases e : j = q
      · rw [e]; exact hh
      · exact HA.out j (by omega))
    generalize L.getD q t0 = x at x0 x1 x2 x3 XT XF hT
    clear hT HG FT FF HA
    obtain ⟨s, f, lo, hi⟩ := x
    simp only at x0 x1 x2 x3
    have zb := HB.out.size
    have hbz : b < wa.heap.size := by omega
    have BN := Lib.hid (HB.out.alloc zb (.cells #[.string s, .string f, .int .i64 lo, .int .i64 hi] 57))
    by_cases h1 : s.size ≤ 4000
    · by_cases h2 : f.size ≤ 4000
      · have X2 := Lib.hid (XT.out (by simp [fmT, h1, h2]))
        have e1 : decide ((s.size : Int) > 4000) = false := decide_eq_false (by omega)
        have e2 : decide ((f.size : Int) > 4000) = false := decide_eq_false (by omega)
        clear XT XF h1 h2
        go_wp2_with fail
        go_roundw
        case rel => exact ⟨q + 1, by omega, by go_num, Lib.hid X2.out, BN⟩
        case measure => simp [intOf]; omega
      · have X2 := Lib.hid (XF.out (by simp [fmT, h1, h2]))
        have e1 : decide ((s.size : Int) > 4000) = false := decide_eq_false (by omega)
        have e2 : decide ((f.size : Int) > 4000) = true := decide_eq_true (by omega)
        clear XT XF h1 h2
        go_wp2_with fail
        go_ret
        exact ⟨by rw [X2.out]; rfl, BN.out⟩
    · have X2 := Lib.hid (XF.out (by simp [fmT, h1]))
      have e1 : decide ((s.size : Int) > 4000) = true := decide_eq_true (by omega)
      clear XT XF h1
      go_wp2_with fail
      go_ret
      exact ⟨by rw [X2.out]; rfl, BN.out⟩
theorem laid26 (w : World) (v : Value) (L : List Tmb) (h : Ti w v L) (hf : fmL L = true) (hn : L.length ≤ 10000000) :
    Calls Try.prog 26 #[v] w fun e w' => ∃ r, e = .returned r ∧ w'.ownsRow w.heap.size 5 1 r (encL L).length (Wr.u8s (encL L)) ∧ Below w.heap.size w w' := by
  obtain ⟨a, c, rfl, hg⟩ := h.get
  obtain ⟨n, hN⟩ : ∃ n, n = L.length := ⟨_, rfl⟩
  have HN := Lib.hid hN
  have HG := Lib.hid hg
  have FA := Lib.hid (fun i (hi : i < n) => fm_at hf (i := i) (by omega))
  have EL := Lib.hid (fun k => encL_len L hf k)
  rw [← hN] at HG hn ⊢
  have N33 := Lib.hid (new36 w)
  clear h hg hN hf
  go_enter Try.func26, Try.ntmps26
  go_wp2_with fail
  refine N33.out.mono ?_
  rintro e w1 ⟨rfl, ⟨s1, h1⟩, b1⟩
  have H1 := Lib.hid h1
  have B1 := Lib.hid b1
  have hw1 : w.heap.size < w1.heap.size := h1.2.lt
  clear h1 b1 N33
  go_wp2_with fail
  go_loopw [9] (fun i wr => ∃ k s', k ≤ n ∧ i = .int .i64 (k : Nat) ∧ Hid (Wb wr w.heap.size s' (encL (L.take k))) ∧ Hid (Below w.heap.size w wr)) (fun i _ => n - (intOf i).toNat)
  case atStart => exact ⟨0, s1, Nat.zero_le _, rfl, H1, B1⟩
  case round =>
    obtain ⟨k, s', hk, rfl, HW, HB⟩ := hrel
    obtain ⟨wa, rfl⟩ : ∃ wa, wa = wr := ⟨_, rfl⟩
    by_cases hkn : k < n
    case neg =>
      obtain rfl : k = n := by omega
      have B27 := Lib.hid (bytes27 wa w.heap.size s' (encL (L.take k)) HW.out (by have := EL.out k; omega))
      rw [List.take_of_length_le (show L.length ≤ k by rw [HN.out]; exact Nat.le_refl _)] at B27
      clear EL FA HG
      go_wp2_with fail
      refine B27.out.mono ?_
      rintro e w2 ⟨r, rfl, o2, b2⟩
      have O2 := Lib.hid (Go.Joins.ownsRow_le o2 HB.out.size)
      have B2 := Lib.hid (HB.out.trans (b2.mono HB.out.size))
      clear o2 b2
      go_wp2_with fail
      go_ret
      exact ⟨_, rfl, O2.out, B2.out⟩
    obtain ⟨b, off, rfl, hnc, hb, hT⟩ := HG.out k hkn
    obtain ⟨x0, x1, x2, x3⟩ := hT wa HB.out
    have hfm := FA.out k hkn
    have ET := Lib.hid (encL_take L (k := k) (by rw [← HN.out]; exact hkn))
    have hel := EL.out k
    generalize L.getD k t0 = x at x0 x1 x2 x3 hT hfm ET
    obtain ⟨xs, xf, x4, x5⟩ := x
    simp only at x0 x1 x2 x3
    simp only [fmT, Bool.and_eq_true, decide_eq_true_eq] at hfm
    obtain ⟨hs4, hf4⟩ := hfm
    have zb := HB.out.size
    have hbz : b < wa.heap.size := by omega
    have hgl := HW.out.2.lt
    have ha := heap_alloc_new wa (.cells #[.string xs, .string xf, .int .i64 x4, .int .i64 x5] 57)
    have bA := (Below.refl wa.heap.size wa).alloc (Nat.le_refl _) (.cells #[.string xs, .string xf, .int .i64 x4, .int .i64 x5] 57)
    obtain ⟨W, hW⟩ : ∃ W, W = wa.alloc (.cells #[.string xs, .string xf, .int .i64 x4, .int .i64 x5] 57) := ⟨_, rfl⟩
    rw [← hW] at ha bA
    have hWs : W.heap.size = wa.heap.size + 1 := by rw [hW]; simp
    have HW1 := Lib.hid (HW.out.below bA)
    have hso := HW.out.2.own
    have CB := Lib.hid (show ∀ y s2, Mv W y w.heap.size s' → Own W s' s2 → y.cell? ⟨wa.heap.size, 0, none⟩ = some (.string xs) ∧ y.cell? ⟨wa.heap.size, 1, none⟩ = some (.string xf) ∧ y.cell? ⟨wa.heap.size, 2, none⟩ = some (.int .i64 x4) ∧ y.cell? ⟨wa.heap.size, 3, none⟩ = some (.int .i64 x5) from fun y s2 hm _ => by
      have hb := (hm.block wa.heap.size (by omega) (by omega) (fun e => by have := (hso _ e).2; omega)).trans ha
      exact ⟨cell_at hb 0, cell_at hb 1, cell_at hb 2, cell_at hb 3⟩)
    obtain ⟨z0, _, _, _⟩ := CB.out W s' (Mv.refl _ _ _) (Wr.Own.refl _ _)
    have P1 := Lib.hid (putText34 W w.heap.size s' (encL (L.take k)) xs HW1.out hs4 (by omega))
    have P2 := Lib.hid (fun (y : World) s2 (h : Wb y w.heap.size s2 (encL (L.take k) ++ txt xs)) => putText34 y w.heap.size s2 _ xf h hf4 (by rw [List.length_append, txt_len]; omega))
    have P3 : Hid (∀ (y : World) s2, Wb y w.heap.size s2 (encL (L.take k) ++ txt xs ++ txt xf) → Calls Try.prog 35 #[.pointer (some ⟨w.heap.size, 0, none⟩), .int .u64 (ut x4 : Nat), .int .i64 64] y fun e' w' => e' = .returned (.tuple #[]) ∧ ∃ s3, Wb w' w.heap.size s3 (encL (L.take k) ++ txt xs ++ txt xf ++ eight (ut x4)) ∧ Mv y w' w.heap.size s2 ∧ Own y s2 s3) :=
      Lib.hid (fun y s2 h => put32m y w.heap.size s2 _ (eight (ut x4)) (ut x4) 64 h (ut_lt _) rfl (by decide) (eight_lt _) (eight_bits _) (by
        have e1 := txt_len xs
        have e2 := txt_len xf
        rw [List.length_append, List.length_append]; omega))
    have P4 : Hid (∀ (y : World) s2, Wb y w.heap.size s2 (encL (L.take k) ++ txt xs ++ txt xf ++ eight (ut x4)) → Calls Try.prog 35 #[.pointer (some ⟨w.heap.size, 0, none⟩), .int .u64 (ut x5 : Nat), .int .i64 64] y fun e' w' => e' = .returned (.tuple #[]) ∧ ∃ s3, Wb w' w.heap.size s3 (encL (L.take k) ++ txt xs ++ txt xf ++ eight (ut x4) ++ eight (ut x5)) ∧ Mv y w' w.heap.size s2 ∧ Own y s2 s3) :=
      Lib.hid (fun y s2 h => put32m y w.heap.size s2 _ (eight (ut x5)) (ut x5) 64 h (ut_lt _) rfl (by decide) (eight_lt _) (eight_bits _) (by
        have e1 := txt_len xs
        have e2 := txt_len xf
        have e3 : (eight (ut x4)).length = 8 := rfl
        rw [List.length_append, List.length_append, List.length_append]; omega))
    have FIN := Lib.hid (show ∀ y, Mv W y w.heap.size s' → Below w.heap.size w y from fun y hm => ⟨hm.os.trans (bA.os.trans HB.out.os), hm.tape.trans (bA.tape.trans HB.out.tape), hm.output.trans (bA.output.trans HB.out.output), Nat.le_trans (Nat.le_trans zb bA.size) hm.size, fun j hj => by
      rw [hm.block j (by omega) (by omega) (fun e => by have := (hso _ e).1; omega), bA.block j (by omega)]
      exact HB.out.block j hj⟩)
    have EE := Lib.hid (show encL (L.take (k + 1)) = encL (L.take k) ++ txt xs ++ txt xf ++ eight (ut x4) ++ eight (ut x5) by rw [ET.out]; simp only [enc, List.append_assoc])
    have uw4 := ut_wrap x4
    have uw5 := ut_wrap x5
    clear ET hs4 hf4 hel EL FA HG hT ha bA hso HW
    go_upto_region 5 with (fail)
    rw [← hW]
    have HWW := Lib.hid hW
    clear hW x0 x1 x2 x3
    go_wp2_with fail
    refine P1.out.mono ?_
    rintro e w2 ⟨rfl, s2, h2, m2, o2⟩
    obtain ⟨z0, z1, _, _⟩ := CB.out w2 s2 m2 o2
    have Q2 := Lib.hid (And.intro m2 o2)
    have P2' := Lib.hid (P2.out w2 s2 h2)
    clear h2 m2 o2 P1 P2
    go_wp2_with fail
    refine P2'.out.mono ?_
    rintro e w3 ⟨rfl, s3, h3, m3, o3⟩
    have Q3 := Lib.hid (And.intro (Q2.out.1.trans Q2.out.2 m3) (Q2.out.2.trans o3 Q2.out.1.size))
    obtain ⟨_, _, z2, _⟩ := CB.out w3 s3 Q3.out.1 Q3.out.2
    have P3' := Lib.hid (P3.out w3 s3 h3)
    clear h3 m3 o3 P2' P3 z0 z1 Q2
    go_wp2_with fail
    refine P3'.out.mono ?_
    rintro e w4 ⟨rfl, s4, h4, m4, o4⟩
    have Q4 := Lib.hid (And.intro (Q3.out.1.trans Q3.out.2 m4) (Q3.out.2.trans o4 Q3.out.1.size))
    obtain ⟨_, _, _, z3⟩ := CB.out w4 s4 Q4.out.1 Q4.out.2
    have P4' := Lib.hid (P4.out w4 s4 h4)
    clear h4 m4 o4 P3' P4 z2 Q3
    go_wp2_with fail
    refine P4'.out.mono ?_
    rintro e w5 ⟨rfl, s5, h5, m5, o5⟩
    have H5 := Lib.hid h5
    have B5 := Lib.hid (FIN.out w5 (Q4.out.1.trans Q4.out.2 m5))
    clear h5 m5 o5 P4' z3 Q4
    go_wp2_with fail
    go_roundw
    case rel => exact ⟨k + 1, s5, by omega, by go_num, by rw [EE.out]; exact H5, B5⟩
    case measure => simp [intOf]; omega
/-- What Encode answers. -/
def Enc (w w' : World) (L : List Tmb) (e : Ending) : Prop :=
  (fmL L = true ∧ ∃ r, e = .returned (.tuple #[r, .int .i64 0]) ∧ w'.ownsRow w.heap.size 5 1 r (encL L).length (Wr.u8s (encL L))) ∨ (fmL L = false ∧ e = .returned (.tuple #[.slice none 0 0, .int .i64 1]))
theorem encode11 (w : World) (v : Value) (L : List Tmb) (h : Ti w v L) (hn : L.length ≤ 10000000) :
    Calls Try.prog 11 #[v] w fun e w' => Enc w w' L e ∧ Below w.heap.size w w' := by
  have F := Lib.hid (formed25 w v L h (by omega))
  have LD := Lib.hid (fun (y : World) (hy : Below w.heap.size w y) hf => laid26 y v L (h.below hy) hf hn)
  clear h hn
  go_enter Try.func11, Try.ntmps11
  go_wp2_with fail
  refine F.out.mono ?_
  rintro e w1 ⟨rfl, b1⟩
  have B1 := Lib.hid b1
  clear b1 F
  cases hf : fmL L with
  | false =>
    have HF := Lib.hid hf
    clear hf LD
    go_wp2_with fail
    go_ret2
    exact ⟨.inr ⟨HF.out, rfl⟩, B1.out⟩
  | true =>
    have L1 := Lib.hid (LD.out w1 B1.out hf)
    have HF := Lib.hid hf
    clear hf LD
    go_wp2_with fail
    refine L1.out.mono ?_
    rintro e w2 ⟨r, rfl, o2, b2⟩
    have O2 := Lib.hid (Go.Joins.ownsRow_le o2 B1.out.size)
    have B2 := Lib.hid (B1.out.trans (b2.mono B1.out.size))
    clear o2 b2
    go_wp2_with fail
    go_ret2
    exact ⟨.inl ⟨HF.out, r, rfl, O2.out⟩, B2.out⟩
end Ic
end Go.Proofs.Ytmlbmiegfeadjaa
