/- Points compared. -/
import Derived.Test.YtmlbmiegfeadjaaCa
import Derived.Laws.Externs
import Derived.Laws.StructEq
namespace Go.Proofs.Ytmlbmiegfeadjaa
open Go.RowKit
namespace Cz
open Jb Ca

theorem ret_bool {a b : Bool} (h : a = b) : Ending.returned (.bool a) = .returned (.bool b) := by rw [h]
theorem bdn {B : Nat} {a w : World} (h : Below B a w) (n : Nat) : Below B a (w.drewN n) := ⟨h.os, h.tape, h.output, h.size, h.block⟩
theorem toList_ne {S T : ByteArray} (h : S ≠ T) : (S.toList == T.toList) = false := by
  cases e : (S.toList == T.toList)
  · rfl
  · exfalso
    have e2 : S.toList = T.toList := by simpa using e
    rw [ByteArray.toList_eq, ByteArray.toList_eq] at e2
    exact h (ByteArray.ext (Array.toList_inj.1 e2))
theorem str_beq {s t : List Nat} (hs : ∀ x ∈ s, x < 256) (ht : ∀ x ∈ t, x < 256) : ((str s).toList == (str t).toList) = decide (s = t) := by
  by_cases h : s = t
  · rw [h]; simp
  · rw [decide_eq_false h]
    exact toList_ne fun e => h (str_inj hs ht e)
theorem eq_of {T U : List Pnt} {n : Nat} (hn : n = T.length) (hm : T.length = U.length) (h : ∀ j, j < n → T.getD j p0 = U.getD j p0) : T = U := by
  refine List.ext_getElem hm fun i h1 h2 => ?_
  have := h i (by omega)
  rwa [List.getD_eq_getElem?_getD, List.getD_eq_getElem?_getD, List.getElem?_eq_getElem h1, List.getElem?_eq_getElem h2] at this
theorem neq49 (w : World) (V X : Pnt) (hV : Wp V) (hX : Wp X) :
    (binOp .neq 50 (.agg #[.int .i64 V.1, .int .i64 V.2.1, .int .u64 (V.2.2.1 : Nat), .string (str V.2.2.2)]) (.agg #[.int .i64 X.1, .int .i64 X.2.1, .int .u64 (X.2.2.1 : Nat), .string (str X.2.2.2)])).run Try.prog w = .ok (.bool (!decide (V = X))) w := by
  rw [run_neq_struct, run_equalIn_agg _ _ _ _ _ (by kernel_rfl) Try.stoodInHeld50]
  have hs := str_beq hV.2.2.2.2 hX.2.2.2.2
  obtain ⟨x0, x1, x2, x3⟩ := V
  obtain ⟨y0, y1, y2, y3⟩ := X
  simp only at hs ⊢
  have hb : decide ((x0, x1, x2, x3) = (y0, y1, y2, y3)) = ((x0 == y0) && ((x1 == y1) && ((x2 : Int) == (y2 : Int)) && (decide (x3 = y3)))) := by
    rw [Bool.eq_iff_iff]
    simp only [decide_eq_true_eq, Bool.and_eq_true, beq_iff_eq, Prod.mk.injEq, Int.natCast_inj]
    exact ⟨fun ⟨z, a, b, c⟩ => ⟨z, ⟨a, b⟩, c⟩, fun ⟨z, ⟨a, b⟩, c⟩ => ⟨z, a, b, c⟩⟩
  rw [hb, ← hs]
  simp [go_sem, Program.fieldsOf, Try.underlying50, Try.underlying48]
  by_cases h0 : x0 = y0 <;> by_cases h1 : x1 = y1 <;> by_cases h2 : (x2 : Int) = (y2 : Int) <;> by_cases h3 : (str x3).toList = (str y3).toList <;> simp [h0, h1, h2, h3]
set_option maxRecDepth 100000 in
set_option maxHeartbeats 1000000 in
theorem same18 (w : World) (v u : Value) (T U : List Pnt) (h : Pi w v T) (g : Pi w u U) (hb9 : T.length ≤ 4611686018427387904) :
    Calls Try.prog 29 #[v, u] w fun e w' => e = .returned (.bool (decide (T = U))) ∧ Below w.heap.size w w' := by
  have HWT := Lib.hid h.1
  have HWU := Lib.hid g.1
  obtain ⟨a, c, hv⟩ := h.forms
  obtain ⟨a', c', hu⟩ := g.forms
  by_cases hl : T.length = U.length
  case neg =>
    have HE : decide (T = U) = false := decide_eq_false fun e => hl (by rw [e])
    rw [HE, hv, hu]
    obtain ⟨n, hn⟩ : ∃ n, n = T.length := ⟨_, rfl⟩
    obtain ⟨m, hm⟩ : ∃ m, m = U.length := ⟨_, rfl⟩
    rw [← hn, ← hm] at hl ⊢
    clear h g HE hn hm hv hu HWT HWU
    have hz : ((n : Int) != (m : Int)) = true := by simp; omega
    go_enter Try.func29, Try.ntmps29
    go_wp2_with fail
    go_ret
    exact ⟨rfl, Below.refl _ _⟩
  rcases h.cases with ⟨a2, c2, hv2, hnil⟩ | ⟨hL0, b, off, cc, hv2, hc1, hc2, hc3⟩
  · subst hnil
    have hU : U = [] := List.length_eq_zero_iff.1 hl.symm
    subst hU
    rw [hv, hu]
    clear h g hv hu hv2 HWT HWU
    have HE : decide (([] : List Pnt) = []) = true := rfl
    rw [HE]
    clear HE
    go_enter Try.func29, Try.ntmps29
    go_wp2_with fail
    refine wp_loop_rounds 1 ?_
    rw [rounds_succ]
    go_wp2_with fail
    go_ret
    exact ⟨rfl, Below.refl _ _⟩
  rcases g.cases with ⟨a3, c3, hu2, hnil⟩ | ⟨hM0, b', off', cc', hu2, hd1, hd2, hd3⟩
  · rw [hnil] at hl; simp at hl; rw [hl] at hL0; simp at hL0
  rw [← hl] at hd1 hd3 hu2
  have HL := Lib.hid hl
  rw [hv2, hu2]
  obtain ⟨n, hn⟩ : ∃ n, n = T.length := ⟨_, rfl⟩
  rw [← hn] at hc1 hc3 hd1 hd3 hb9 ⊢
  have HC := Lib.hid hc3
  have HD := Lib.hid hd3
  have HN := Lib.hid hn
  obtain ⟨A, hA⟩ : ∃ A, A = decide (T = U) := ⟨_, rfl⟩
  rw [← hA]
  have HA := Lib.hid hA
  clear h g hc3 hd3 hn hL0 hM0 hA hl hv hu hv2 hu2
  go_enter Try.func29, Try.ntmps29
  go_wp2_with fail
  go_loopw [13] (fun i wr => ∃ k, k ≤ n ∧ i = .int .i64 (k : Nat) ∧ (∀ j, j < k → T.getD j p0 = U.getD j p0) ∧ Below w.heap.size w wr) (fun i _ => n - (intOf i).toNat)
  case atStart => exact ⟨0, Nat.zero_le _, rfl, fun j hj => by omega, Below.refl _ _⟩
  case round =>
    obtain ⟨k, hk, rfl, hall, hb⟩ := hrel
    have HALL := Lib.hid hall
    have HB := Lib.hid hb
    clear hall
    by_cases hkn : k < n
    · obtain ⟨e0, e1, e2, e3⟩ := (HC.out k hkn).of_block (hb.block b hc2)
      obtain ⟨g0, g1, g2, g3⟩ := (HD.out k hkn).of_block (hb.block b' hd2)
      have hwv := Lib.hid (getD_wp HWT.out k)
      have hwu := Lib.hid (getD_wp HWU.out k)
      obtain ⟨V, hV⟩ : ∃ V, V = T.getD k p0 := ⟨_, rfl⟩
      obtain ⟨X, hX⟩ : ∃ X, X = U.getD k p0 := ⟨_, rfl⟩
      rw [← hV] at e0 e1 e2 e3 hwv
      rw [← hX] at g0 g1 g2 g3 hwu
      have HV := Lib.hid hV
      have HX := Lib.hid hX
      clear hV hX hb
      have qN := fun (y : World) => neq49 y V X hwv.out hwu.out
      have hbl : b < wr.heap.size := Nat.lt_of_lt_of_le hc2 HB.out.size
      have hbl' : b' < wr.heap.size := Nat.lt_of_lt_of_le hd2 HB.out.size
      by_cases hf : V = X
      · rw [decide_eq_true hf] at qN
        have HF := Lib.hid hf
        obtain ⟨x0, x1, x2, x3⟩ := V
        obtain ⟨y0, y1, y2, y3⟩ := X
        simp only [Bool.not_true] at e0 e1 e2 e3 g0 g1 g2 g3 qN
        clear hf
        go_upto_region 6 with (fail)
        go_quiet (fail)
        go_wp2_with fail
        go_roundw
        case rel =>
          refine ⟨k + 1, by omega, by go_num, fun j hj => ?_, bdn HB.out _⟩
          by_cases e : j = k
          · subst e; rw [← HV.out, ← HX.out]; exact HF.out
          · exact HALL.out j (by omega)
        case measure => simp [intOf]; omega
      · rw [decide_eq_false hf] at qN
        have HF := Lib.hid hf
        obtain ⟨x0, x1, x2, x3⟩ := V
        obtain ⟨y0, y1, y2, y3⟩ := X
        simp only [Bool.not_false] at e0 e1 e2 e3 g0 g1 g2 g3 qN
        clear hf
        go_upto_region 6 with (fail)
        go_quiet (fail)
        go_wp2_with fail
        go_ret
        refine ⟨ret_bool ?_, bdn HB.out _⟩
        rw [HA.out]
        exact (decide_eq_false fun e => HF.out (by rw [HV.out, HX.out, e])).symm
    · obtain rfl : k = n := by omega
      go_wp2_with fail
      go_ret
      exact ⟨ret_bool (by rw [HA.out]; exact (decide_eq_true (eq_of HN.out HL.out HALL.out)).symm), HB.out⟩
end Cz
end Go.Proofs.Ytmlbmiegfeadjaa
