import Derived.Test.YtjmddomkoholoaaGreatDoorG39
import Derived.Test.YtjmddomkoholoaaGreatDoorG29
import Derived.Test.YtjmddomkoholoaaGreatDoorG18

/- The program's Decode of points. -/
namespace Go.Proofs.YtjmddomkoholoaaGreatDoor
open Go.RowKit
namespace Ky
open Cm Wr Bm Pk Zs Rd Vs Cv Kd Kp Ke Kx

/-- What Decode answers. -/
def Dec8 (w : World) (b : List Nat) (e : Ending) (w' : World) : Prop :=
  ((∃ P r, Says b P ∧ (∀ Q, Says b Q → Q = P) ∧ (∀ p ∈ P, Wp p) ∧ 1 ≤ P.length ∧ P.length ≤ 1000 ∧ e = .returned (.tuple #[r, .int .i64 0]) ∧ w'.ownsRow w.heap.size 37 4 r P.length (pcs P)) ∨
    ((∀ P, ¬ Says b P) ∧ e = .returned (.tuple #[.slice none 0 0, .int .i64 2]))) ∧ Below w.heap.size w w'
theorem zip_wp {T : List Int} {V : List Vl} (hT : Tm.In T) (hV : ∀ v ∈ V, Wv v) : ∀ p ∈ T.zip V, Wp p := fun p hp => by
  have h := List.of_mem_zip hp
  exact ⟨hT _ h.1, hV _ h.2⟩

set_option maxRecDepth 100000 in
set_option maxHeartbeats 2000000 in
theorem decode17 (w : World) (v : Value) (bs : List Nat) (hP : Pl w v bs) (hX : ∀ x ∈ bs, x < 256) (hb : bs.length ≤ 140737488353272) (hT : Tab w) (hD : Dt w) :
    Calls Tryz.prog 8 #[v] w fun e w' => Dec8 w bs e w' := by
  have FR := Lib.hid (read40 w v bs hP hX hb)
  by_cases hS : Sound bs
  case neg =>
    have HN := Lib.hid (fun P (h : Says bs P) => hS h.1)
    have FR2 := Lib.hid (FR.out.mono fun e w' h => (show e = .returned none40 ∧ Below w.heap.size w w' from by
      obtain ⟨⟨h, _⟩ | ⟨_, h⟩, b⟩ := h
      · exact absurd h hS
      · exact ⟨h, b⟩))
    unfold none40 at FR2
    clear hP hX hb hT hD hS FR
    go_enter Tryz.func8, Tryz.ntmps8
    go_wp2_with fail
    refine FR2.out.mono ?_
    rintro e w2 ⟨rfl, b2⟩
    have B2 := Lib.hid b2
    clear b2
    go_wp2_with fail
    go_ret2
    exact ⟨.inr ⟨HN.out, rfl⟩, B2.out.alloc B2.out.size _⟩
  have htl : (tpart bs).length ≤ 140737488353272 := by unfold tpart; rw [List.length_take, List.length_drop]; omega
  have hvl : (vpart bs).length ≤ 140737488353272 := by unfold vpart; rw [List.length_take, List.length_drop]; omega
  have htX : ∀ x ∈ tpart bs, x < 256 := fun x hx => hX x (List.mem_of_mem_drop (List.mem_of_mem_take hx))
  have hvX : ∀ x ∈ vpart bs, x < 256 := fun x hx => hX x (List.mem_of_mem_drop (List.mem_of_mem_take hx))
  have FR2 := Lib.hid (FR.out.mono fun e w' h => (show (∃ t v, e = .returned (.tuple #[.agg #[.int .i64 (hd bs : Nat), t, v], .bool true]) ∧ Rw.By w t (tpart bs) ∧ Rw.By w v (vpart bs) ∧ (∃ a c, t = .slice a (tpart bs).length c) ∧ (∃ a c, v = .slice a (vpart bs).length c)) ∧ Below w.heap.size w w' from by
    obtain ⟨⟨_, h⟩ | ⟨h, _⟩, b⟩ := h
    · exact ⟨h, b⟩
    · exact absurd hS h))
  have G41 := Lib.hid (fun (x : World) (t : Value) (hx : Below w.heap.size w x) (h : Rw.By w t (tpart bs)) => TDe.decode12 x t (tpart bs) (h.2.below hx) htX (hT.below hx hT.1) htl)
  have G11 := Lib.hid (fun (x : World) (t : Value) (n : Int) (hx : Below w.heap.size w x) (h : Rw.By w t (vpart bs)) => De.decode12 x t (vpart bs) (hd bs : Nat) n (h.below hx) hvX hvl (hT.below hx hT.1) (hD.below hx (by have := hD.1; omega)))
  cases hdc : Tm.dec (tpart bs) with
  | none =>
    have HN : Hid (∀ P, ¬ Says bs P) := Lib.hid fun P h => by
      obtain ⟨_, T, V, h1, _⟩ := h
      rw [hdc] at h1
      cases h1
    have F41 := Lib.hid (fun (x : World) (t : Value) (hx : Below w.heap.size w x) (h : Rw.By w t (tpart bs)) => (G41.out x t hx h).mono fun e w' he => TDe.Decoded.bad he hdc)
    obtain ⟨k, hk⟩ : ∃ k, k = hd bs := ⟨_, rfl⟩
    rw [← hk] at FR2
    clear hP hX hb hT hD hS FR G41 G11 hdc htl hvl htX hvX hk
    go_enter Tryz.func8, Tryz.ntmps8
    go_wp2_with fail
    refine FR2.out.mono ?_
    rintro e w2 ⟨⟨t, vv, rfl, ht, hv, ⟨a1, c1, rfl⟩, ⟨a2, c2, rfl⟩⟩, b2⟩
    have B2 := Lib.hid b2
    have HT := Lib.hid ht
    clear b2 ht hv
    go_wp2_with fail
    refine (F41.out _ _ (B2.out.alloc B2.out.size _) HT.out).mono ?_
    rintro e w3 ⟨rfl, b3⟩
    have B3 := Lib.hid ((B2.out.alloc B2.out.size _).trans (b3.mono (B2.out.alloc B2.out.size _).size))
    clear b3
    go_wp2_with fail
    go_ret2
    exact ⟨.inr ⟨HN.out, rfl⟩, B3.out⟩
  | some T =>
    obtain ⟨hTin, hTok, _⟩ := Tm.dec_some hdc
    have F41 := Lib.hid (fun (x : World) (t : Value) (hx : Below w.heap.size w x) (h : Rw.By w t (tpart bs)) => (G41.out x t hx h).mono fun e w' he => TDe.Decoded.ok he hdc)
    have HSY := Lib.hid (fun (P : List Pnt) (h : Says bs P) => (show ∃ V, Of (hd bs : Nat) T.length (vpart bs) V ∧ P = T.zip V from by
      obtain ⟨_, T', V, h1, h2, h3⟩ := h
      rw [hdc] at h1
      cases h1
      exact ⟨V, h2, h3⟩))
    have HSZ := Lib.hid (fun (V : List Vl) (h : Of (hd bs : Nat) T.length (vpart bs) V) => (show Says bs (T.zip V) from ⟨hS, T, V, hdc, h, rfl⟩))
    have FJ := Lib.hid (fun (x : World) (B B' : Nat) (u v : Value) (V : List Vl) (ho : x.ownsRow B 2 1 u T.length (Ti.i64s T)) (hv : x.ownsRow B' 35 3 v V.length (vcs V)) (hl : T.length = V.length) (hw : ∀ y ∈ V, Wv y) => Kt.joined x u v T V (Ti.ii_own ho hTin) (vi_own hv hw) hl hTok.1 hTok.2.1)
    have HOK := Lib.hid (And.intro hTin hTok)
    obtain ⟨k, hk⟩ : ∃ k, k = hd bs := ⟨_, rfl⟩
    rw [← hk] at FR2 G11 HSY HSZ
    clear hP hX hb hT hD hS FR G41 hdc htl hvl htX hvX hk hTin hTok
    go_enter Tryz.func8, Tryz.ntmps8
    go_wp2_with fail
    refine FR2.out.mono ?_
    rintro e w2 ⟨⟨t, vv, rfl, ht, hv, ⟨a1, c1, rfl⟩, ⟨a2, c2, rfl⟩⟩, b2⟩
    have HT := Lib.hid ht
    have HV := Lib.hid hv
    have B2 := Lib.hid (b2.alloc b2.size (.cells #[.int .i64 (k : Nat), .slice a1 (tpart bs).length c1, .slice a2 (vpart bs).length c2] 61))
    have HC := Lib.hid (fun (x : World) (hx : Below (w2.alloc (.cells #[.int .i64 (k : Nat), .slice a1 (tpart bs).length c1, .slice a2 (vpart bs).length c2] 61)).heap.size (w2.alloc (.cells #[.int .i64 (k : Nat), .slice a1 (tpart bs).length c1, .slice a2 (vpart bs).length c2] 61)) x) => (show x.heap[w2.heap.size]? = some (.cells #[.int .i64 (k : Nat), .slice a1 (tpart bs).length c1, .slice a2 (vpart bs).length c2] 61 (0, 0)) from (hx.block w2.heap.size (by simp)).trans (heap_alloc_new _ _)))
    clear b2 ht hv
    go_wp2_with fail
    refine (F41.out _ _ B2.out HT.out).mono ?_
    rintro e w3 ⟨r3, rfl, o3, b3⟩
    have O3 := Lib.hid o3
    have B3 := Lib.hid (B2.out.trans (b3.mono B2.out.size))
    have hC := HC.out w3 b3
    have f0 := Go.Joins.cell_of_block hC 0
    have f1 := Go.Joins.cell_of_block hC 1
    have f2 := Go.Joins.cell_of_block hC 2
    clear b3 o3 hC
    obtain ⟨g3, c3, hr3⟩ := Go.Joins.ownsRow_form O3.out (by have := HOK.out.2.1; omega)
    subst hr3
    go_wp2_with fail
    refine (G11.out _ _ _ B3.out HV.out).mono ?_
    rintro e w4 ⟨⟨V, r4, rfl, o4, hof, huq⟩ | ⟨hno, rfl⟩, b4⟩
    · have HO4 := Lib.hid o4
      have HOF := Lib.hid hof
      have HUQ := Lib.hid huq
      have O34 := Lib.hid (Rp.own_below O3.out b4)
      have B4 := Lib.hid (B3.out.trans (b4.mono B3.out.size))
      have hvl : T.length = V.length := hof.1.symm
      have F42 := Lib.hid (FJ.out w4 _ _ _ _ V O34.out HO4.out hvl (fun y hy => (hof.2.1 y hy).2))
      clear o4 hof huq b4 hvl f0 f1 f2
      go_wp2_with fail
      refine F42.out.mono ?_
      rintro e w5 ⟨r5, rfl, o5, b5⟩
      have O5 := Lib.hid o5
      have B5 := Lib.hid (B4.out.trans (b5.mono B4.out.size))
      clear o5 b5
      go_wp2_with fail
      go_ret2
      have hvl : T.length = V.length := HOF.out.1.symm
      have hzl : (T.zip V).length = T.length := by rw [List.length_zip]; omega
      refine ⟨.inl ⟨T.zip V, _, HSZ.out V HOF.out, fun Q hQ => ?_, zip_wp HOK.out.1 (fun y hy => (HOF.out.2.1 y hy).2), by rw [hzl]; exact HOK.out.2.1, by rw [hzl]; exact HOK.out.2.2.1, rfl, ?_⟩, B5.out⟩
      · obtain ⟨V', h1, h2⟩ := HSY.out Q hQ
        rw [h2, HUQ.out V' h1]
      · rw [hzl]
        exact Go.Joins.ownsRow_le O5.out B4.out.size
    · have HN : Hid (∀ P, ¬ Says bs P) := Lib.hid fun P h => by
        obtain ⟨V, h1, _⟩ := HSY.out P h
        exact hno V h1
      have B4 := Lib.hid (B3.out.trans (b4.mono B3.out.size))
      clear b4 hno
      go_wp2_with fail
      go_ret2
      exact ⟨.inr ⟨HN.out, rfl⟩, B4.out⟩
end Ky
end Go.Proofs.YtjmddomkoholoaaGreatDoor

/- Points compared. -/
namespace Go.Proofs.YtjmddomkoholoaaGreatDoor
open Go.RowKit
namespace Kz
open Cm Wr Cv Vs Fm Fo Kd Kp

theorem eq_of {T U : List Pnt} {n : Nat} (hn : n = T.length) (hm : T.length = U.length) (h : ∀ j, j < n → T.getD j p0 = U.getD j p0) : T = U := by
  refine List.ext_getElem hm fun i h1 h2 => ?_
  have := h i (by omega)
  rwa [List.getD_eq_getElem?_getD, List.getD_eq_getElem?_getD, List.getElem?_eq_getElem h1, List.getElem?_eq_getElem h2] at this
theorem neq49 (w : World) (V X : Pnt) (hV : Wp V) (hX : Wp X) :
    (binOp .neq 37 (.agg #[.int .i64 V.1, .int .i64 V.2.1, .int .u64 (V.2.2.1 : Nat), .string (str V.2.2.2)]) (.agg #[.int .i64 X.1, .int .i64 X.2.1, .int .u64 (X.2.2.1 : Nat), .string (str X.2.2.2)])).run Tryz.prog w = .ok (.bool (!decide (V = X))) w := by
  rw [run_neq_struct, run_equalIn_agg _ _ _ _ _ (by kernel_rfl) Tryz.stoodInHeld37]
  have hs := Sa.str_beq hV.2.2.2.2 hX.2.2.2.2
  obtain ⟨x0, x1, x2, x3⟩ := V
  obtain ⟨y0, y1, y2, y3⟩ := X
  simp only at hs ⊢
  have hb : decide ((x0, x1, x2, x3) = (y0, y1, y2, y3)) = ((x0 == y0) && ((x1 == y1) && ((x2 : Int) == (y2 : Int)) && (decide (x3 = y3)))) := by
    rw [Bool.eq_iff_iff]
    simp only [decide_eq_true_eq, Bool.and_eq_true, beq_iff_eq, Prod.mk.injEq, Int.natCast_inj]
    exact ⟨fun ⟨z, a, b, c⟩ => ⟨z, ⟨a, b⟩, c⟩, fun ⟨z, ⟨a, b⟩, c⟩ => ⟨z, a, b, c⟩⟩
  rw [hb, ← hs]
  simp [go_sem, Program.fieldsOf, Tryz.underlying37, Tryz.underlying35]
  by_cases h0 : x0 = y0 <;> by_cases h1 : x1 = y1 <;> by_cases h2 : (x2 : Int) = (y2 : Int) <;> by_cases h3 : (str x3).toList = (str y3).toList <;> simp [h0, h1, h2, h3]
set_option maxRecDepth 100000 in
set_option maxHeartbeats 1000000 in
theorem same18 (w : World) (v u : Value) (T U : List Pnt) (h : Pi w v T) (g : Pi w u U) (hb9 : T.length ≤ 1000000000) :
    Calls Tryz.prog 10 #[v, u] w fun e w' => e = .returned (.bool (decide (T = U))) ∧ Below w.heap.size w w' := by
  have HWT := Lib.hid h.1
  have HWU := Lib.hid g.1
  obtain ⟨a, c, hv⟩ := h.forms
  obtain ⟨a', c', hu⟩ := g.forms
  by_cases hl : T.length = U.length
  case neg =>
    have HE : decide (T = U) = false := decide_eq_false fun e => hl (by rw [e])
    rw [HE, hv, hu]
    obtain ⟨n, hn⟩ : ∃ n, n = T.length := ⟨_, rfl⟩
    obtain ⟨m, hm⟩ : ∃ m, m = U.length := ⟨_, rfl⟩
    rw [← hn, ← hm] at hl ⊢
    clear h g HE hn hm hv hu HWT HWU
    have hz : ((n : Int) != (m : Int)) = true := by simp; omega
    go_enter Tryz.func10, Tryz.ntmps10
    go_wp2_with fail
    go_ret
    exact ⟨rfl, Below.refl _ _⟩
  rcases h.cases with ⟨a2, c2, hv2, hnil⟩ | ⟨hL0, b, off, cc, hv2, hc1, hc2, hc3⟩
  · subst hnil
    have hU : U = [] := List.length_eq_zero_iff.1 hl.symm
    subst hU
    rw [hv, hu]
    clear h g hv hu hv2 HWT HWU
    have HE : decide (([] : List Pnt) = []) = true := rfl
    rw [HE]
    clear HE
    go_enter Tryz.func10, Tryz.ntmps10
    go_wp2_with fail
    refine wp_loop_rounds 1 ?_
    rw [rounds_succ]
    go_wp2_with fail
    go_ret
    exact ⟨rfl, Below.refl _ _⟩
  rcases g.cases with ⟨a3, c3, hu2, hnil⟩ | ⟨hM0, b', off', cc', hu2, hd1, hd2, hd3⟩
  · rw [hnil] at hl; simp at hl; rw [hl] at hL0; simp at hL0
  rw [← hl] at hd1 hd3 hu2
  have HL := Lib.hid hl
  rw [hv2, hu2]
  obtain ⟨n, hn⟩ : ∃ n, n = T.length := ⟨_, rfl⟩
  rw [← hn] at hc1 hc3 hd1 hd3 hb9 ⊢
  have HC := Lib.hid hc3
  have HD := Lib.hid hd3
  have HN := Lib.hid hn
  obtain ⟨A, hA⟩ : ∃ A, A = decide (T = U) := ⟨_, rfl⟩
  rw [← hA]
  have HA := Lib.hid hA
  clear h g hc3 hd3 hn hL0 hM0 hA hl hv hu hv2 hu2
  go_enter Tryz.func10, Tryz.ntmps10
  go_wp2_with fail
  go_loopw [13] (fun i wr => ∃ k, k ≤ n ∧ i = .int .i64 (k : Nat) ∧ (∀ j, j < k → T.getD j p0 = U.getD j p0) ∧ Below w.heap.size w wr) (fun i _ => n - (intOf i).toNat)
  case atStart => exact ⟨0, Nat.zero_le _, rfl, fun j hj => by omega, Below.refl _ _⟩
  case round =>
    obtain ⟨k, hk, rfl, hall, hb⟩ := hrel
    have HALL := Lib.hid hall
    have HB := Lib.hid hb
    clear hall
    by_cases hkn : k < n
    · obtain ⟨e0, e1, e2, e3⟩ := (HC.out k hkn).of_block (hb.block b hc2)
      obtain ⟨g0, g1, g2, g3⟩ := (HD.out k hkn).of_block (hb.block b' hd2)
      have hwv := Lib.hid (getD_wp HWT.out k)
      have hwu := Lib.hid (getD_wp HWU.out k)
      obtain ⟨V, hV⟩ : ∃ V, V = T.getD k p0 := ⟨_, rfl⟩
      obtain ⟨X, hX⟩ : ∃ X, X = U.getD k p0 := ⟨_, rfl⟩
      rw [← hV] at e0 e1 e2 e3 hwv
      rw [← hX] at g0 g1 g2 g3 hwu
      have HV := Lib.hid hV
      have HX := Lib.hid hX
      clear hV hX hb
      have qN := fun (y : World) => neq49 y V X hwv.out hwu.out
      have hbl : b < wr.heap.size := Nat.lt_of_lt_of_le hc2 HB.out.size
      have hbl' : b' < wr.heap.size := Nat.lt_of_lt_of_le hd2 HB.out.size
      by_cases hf : V = X
      · rw [decide_eq_true hf] at qN
        have HF := Lib.hid hf
        obtain ⟨x0, x1, x2, x3⟩ := V
        obtain ⟨y0, y1, y2, y3⟩ := X
        simp only [Bool.not_true] at e0 e1 e2 e3 g0 g1 g2 g3 qN
        clear hf
        go_upto_region 6 with (fail)
        go_quiet (fail)
        go_wp2_with fail
        go_roundw
        case rel =>
          refine ⟨k + 1, by omega, by go_num, fun j hj => ?_, bdn HB.out _⟩
          by_cases e : j = k
          · subst e; rw [← HV.out, ← HX.out]; exact HF.out
          · exact HALL.out j (by omega)
        case measure => simp [intOf]; omega
      · rw [decide_eq_false hf] at qN
        have HF := Lib.hid hf
        obtain ⟨x0, x1, x2, x3⟩ := V
        obtain ⟨y0, y1, y2, y3⟩ := X
        simp only [Bool.not_false] at e0 e1 e2 e3 g0 g1 g2 g3 qN
        clear hf
        go_upto_region 6 with (fail)
        go_quiet (fail)
        go_wp2_with fail
        go_ret
        refine ⟨Fo.ret_bool ?_, bdn HB.out _⟩
        rw [HA.out]
        exact (decide_eq_false fun e => HF.out (by rw [HV.out, HX.out, e])).symm
    · obtain rfl : k = n := by omega
      go_wp2_with fail
      go_ret
      exact ⟨Fo.ret_bool (by rw [HA.out]; exact (decide_eq_true (eq_of HN.out HL.out HALL.out)).symm), HB.out⟩
end Kz
end Go.Proofs.YtjmddomkoholoaaGreatDoor
