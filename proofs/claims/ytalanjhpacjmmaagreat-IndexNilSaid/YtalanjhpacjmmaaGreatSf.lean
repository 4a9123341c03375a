/- Formed, the document's. -/
import Derived.Test.YtalanjhpacjmmaaGreatSe
namespace Go.Proofs.YtalanjhpacjmmaaGreat
set_option maxRecDepth 100000
open Go.RowKit
namespace Sf
open Jb Sa Sb Sc Sd Se

set_option maxRecDepth 100000 in
theorem formed12 (w : World) (nm : ByteArray) (v : Value) (L : List Tg) (h : Ti w v L) (hn : nm.size ≤ 140737488355328) (hz : ∀ x ∈ L, x.1.size ≤ 140737488355328 ∧ x.2.size ≤ 140737488355328) (hl : L.length ≤ 140737488355328) :
    Calls Tryz.prog 75 #[.agg #[.string nm, v]] w fun e w' => e = .returned (.bool (fm (nm, L))) ∧ Below w.heap.size w w' := by
  obtain ⟨a, c, rfl, hg⟩ := h.get
  obtain ⟨n, hN⟩ : ∃ n, n = L.length := ⟨_, rfl⟩
  obtain ⟨A, hA⟩ : ∃ A, A = fm (nm, L) := ⟨_, rfl⟩
  have HA := Lib.hid hA
  have HG := Lib.hid hg
  have HN := Lib.hid hN
  have HZ := Lib.hid hz
  have NM := Lib.hid (fun (y : World) => name24 y nm hn)
  rw [← hA]
  rw [← hN] at HG hl ⊢
  obtain ⟨W, hW⟩ : ∃ W, W = w.alloc (.cells #[.string nm, .slice a n c] 30) := ⟨_, rfl⟩
  have c0 : W.cell? ⟨w.heap.size, 0, none⟩ = some (.string nm) := by rw [hW]; exact new_cell _ _ _ 0 _ rfl
  have c1 : W.cell? ⟨w.heap.size, 1, none⟩ = some (.slice a n c) := by rw [hW]; exact new_cell _ _ _ 1 _ rfl
  have bW := Lib.hid (show Below w.heap.size w W by rw [hW]; exact (Below.refl _ w).alloc (Nat.le_refl _) _)
  have sW : W.heap.size = w.heap.size + 1 := by rw [hW]; simp
  obtain ⟨x, hx⟩ : ∃ x, x = w.heap.size := ⟨_, rfl⟩
  have HX := Lib.hid hx
  have SW := Lib.hid sW
  clear h hg hN hA hz hn sW
  by_cases q1 : isNm nm = true
  case neg =>
    have q1' : isNm nm = false := by simpa using q1
    have e : A = false := by rw [HA.out]; exact fm_no1 q1'
    subst e
    rw [q1'] at NM
    rw [← hx] at c0 c1
    go_enter Tryz.func75, Tryz.ntmps75
    go_upto_region 1 with (fail)
    rw [← hW, ← hx]
    clear hW hx
    go_wp2_with (go_at_call 105; refine (NM.out _).mono ?_; clear NM; rintro e W ⟨rfl, rfl⟩)
    go_ret
    exact ⟨rfl, bW.out⟩
  rw [q1] at NM
  rw [← hx] at c0 c1
  go_enter Tryz.func75, Tryz.ntmps75
  go_upto_region 1 with (fail)
  rw [← hW, ← hx]
  clear hW
  by_cases q2 : n ≤ 8
  case neg =>
    have e : A = false := by rw [HA.out]; exact fm_no2 (by rw [← HN.out]; exact q2)
    have d : decide ((n : Int) > 8) = true := decide_eq_true (by omega)
    subst e
    clear hx q2
    go_wp2_with (go_at_call 105; refine (NM.out _).mono ?_; clear NM; rintro e W ⟨rfl, rfl⟩)
    go_ret
    exact ⟨rfl, bW.out⟩
  have d : decide ((n : Int) > 8) = false := decide_eq_false (by omega)
  clear hx
  go_wp2_with (go_at_call 105; refine (NM.out _).mono ?_; clear NM; rintro e W ⟨rfl, rfl⟩)
  have C0 := Lib.hid c0
  have C1 := Lib.hid c1
  clear c0 c1
  go_loopw [3, 17] (fun _ i wr => ∃ k : Nat, k ≤ n ∧ i = .int .i64 (k : Nat) ∧ Hid (∀ j, j < k → tagOk L j = true) ∧ Hid (Below W.heap.size W wr)) (fun _ i _ => n - (intOf i).toNat)
  case atStart => exact ⟨0, Nat.zero_le _, rfl, Lib.hid (fun j hj => by omega), Lib.hid (Below.refl _ _)⟩
  case round =>
    obtain ⟨k, hk, rfl, HA2, BW⟩ := hrel
    by_cases hkn : k < n
    case neg =>
      obtain rfl : k = n := by omega
      have e : A = true := by rw [HA.out]; exact fm_yes q1 (by rw [← HN.out]; exact q2) (fun i hi => HA2.out i (by rw [HN.out]; exact hi))
      subst e
      clear hkn
      go_wp2_with fail
      go_ret
      exact ⟨rfl, bW.out.trans (BW.out.mono (by rw [SW.out]; omega))⟩
    obtain ⟨b, off, rfl, hnc, hb, hT⟩ := HG.out k hkn
    have bwr := bW.out.trans (BW.out.mono (by rw [SW.out]; omega))
    obtain ⟨x0, x1⟩ := hT wr bwr
    obtain ⟨⟨ka, va⟩, hkv⟩ : ∃ y, y = L.getD k t0 := ⟨_, rfl⟩
    rw [← hkv] at x0 x1
    have TO := Lib.hid (tagOk_at hkv.symm)
    obtain ⟨za, zb⟩ : (ka.size ≤ 140737488355328) ∧ (va.size ≤ 140737488355328) := by
      have hm : L.getD k t0 ∈ L := by
        have hk2 : k < L.length := by rw [← HN.out]; exact hkn
        rw [List.getD_eq_getElem?_getD, List.getElem?_eq_getElem hk2]; exact List.getElem_mem hk2
      rw [← hkv] at hm
      exact HZ.out _ hm
    have NK := Lib.hid (fun (y : World) => name24 y ka za)
    have NV := Lib.hid (fun (y : World) => name24 y va zb)
    have z0 : wr.cell? ⟨x, 0, none⟩ = some (.string nm) := (BW.out.cell (p := ⟨x, 0, none⟩) (by rw [SW.out, ← HX.out]; exact Nat.lt_succ_self _)).trans C0.out
    have z1 : wr.cell? ⟨x, 1, none⟩ = some (.slice (some ⟨b, off, none⟩) n c) := (BW.out.cell (p := ⟨x, 1, none⟩) (by rw [SW.out, ← HX.out]; exact Nat.lt_succ_self _)).trans C1.out
    have hp : ∃ kp : ByteArray, (0 < k → wr.cell? ⟨b, off + (k - 1) * 2, none⟩ = some (.string kp)) ∧ kp = (L.getD (k - 1) t0).1 := by
      refine ⟨(L.getD (k - 1) t0).1, fun h0 => ?_, rfl⟩
      obtain ⟨b', off', e, _, _, hT'⟩ := HG.out (k - 1) (by omega)
      cases e
      exact (hT' wr bwr).1
    obtain ⟨kp, hp0, hkp⟩ := hp
    have BWR := Lib.hid bwr
    have HKP := Lib.hid hkp
    have hk0 : (0 : Int) ≤ (k : Int) := by omega
    clear bwr hkv hT hkp
    have TO2 := Lib.hid (show tagOk L k = (isNm ka && isNm va && (decide (k = 0) || lt kp ka)) by rw [HKP.out]; exact TO.out)
    clear TO
    have BAD := Lib.hid (fun (h : tagOk L k = false) => (HA.out.trans (fm_no3 (s := (nm, L)) (by rw [← HN.out]; exact hkn) h) : A = false))
    by_cases q3 : isNm ka = true
    case neg =>
      have q3' : isNm ka = false := by simpa using q3
      rw [q3'] at NK
      have e := BAD.out (by rw [TO2.out, q3']; rfl)
      subst e
      clear q3 q3' NV
      go_wp2_with fail
      go_quiet (first | (go_at_call 105; exact Calls.quiet_of_same (NK.out _)))
      go_wp2_with fail
      go_ret
      exact ⟨rfl, bdn BWR.out _⟩
    clear NK NV
    have NN := Lib.hid (fun (y : World) (s : ByteArray) (hs : s.size ≤ 140737488355328) => name24 y s hs)
    by_cases q4 : isNm va = true
    case neg =>
      have q4' : isNm va = false := by simpa using q4
      have e := BAD.out (by rw [TO2.out, q3, q4']; rfl)
      subst e
      clear q4
      go_wp2_with fail
      go_quiet ((go_at_call 105; exact Calls.quiet_of_same (NN.out _ _ (by assumption))))
      go_wp2_with fail
      go_ret
      exact ⟨rfl, bdn BWR.out _⟩
    by_cases h0 : k = 0
    · have d0 : decide ((k : Int) > 0) = false := decide_eq_false (by omega)
      have d1 : decide (0 < (k : Int)) = false := decide_eq_false (by omega)
      have d2 : decide (0 < k) = false := decide_eq_false (by omega)
      have ok := Lib.hid (show tagOk L k = true by rw [TO2.out, q3, q4, decide_eq_true h0]; rfl)
      clear h0
      go_wp2_with fail
      go_quiet ((go_at_call 105; exact Calls.quiet_of_same (NN.out _ _ (by assumption))))
      go_wp2_with fail
      go_roundw
      case rel =>
        refine ⟨k + 1, by omega, by go_num, Lib.hid fun j hj => ?_, Lib.hid (bdn BW.out _)⟩
        by_cases e : j = k
        · rw [e]; exact ok.out
        · exact HA2.out j (by omega)
      case measure => simp [intOf]; omega
    · have d0 : decide ((k : Int) > 0) = true := decide_eq_true (by omega)
      have d1 : decide (0 < (k : Int)) = true := decide_eq_true (by omega)
      have d2 : decide (0 < k) = true := decide_eq_true (by omega)
      have p0 := hp0 (by omega)
      have hk1 : IntKind.i64.wrap ((k : Int) - 1) = ((k - 1 : Nat) : Int) := by
        have : ((k : Int) - 1) = ((k - 1 : Nat) : Int) := by omega
        rw [this]
        exact wr64 _ (by omega)
      have kn1 : k - 1 < n := by omega
      have HK0 := Lib.hid h0
      clear h0 hp0
      by_cases q5 : lt kp ka = true
      · have ok := Lib.hid (show tagOk L k = true by rw [TO2.out, q3, q4, q5]; simp)
        have l1 : Op.bytesLess kp.toList ka.toList = true := q5
        clear q5
        go_wp2_with fail
        go_quiet ((go_at_call 105; exact Calls.quiet_of_same (NN.out _ _ (by assumption))))
        go_wp2_with fail
        go_roundw
        case rel =>
          refine ⟨k + 1, by omega, by go_num, Lib.hid fun j hj => ?_, Lib.hid (bdn BW.out _)⟩
          by_cases e : j = k
          · rw [e]; exact ok.out
          · exact HA2.out j (by omega)
        case measure => simp [intOf]; omega
      · have q5' : lt kp ka = false := by simpa using q5
        have l1 : Op.bytesLess kp.toList ka.toList = false := q5'
        have e := BAD.out (by rw [TO2.out, q3, q4, q5', decide_eq_false HK0.out]; rfl)
        subst e
        clear q5 q5'
        go_wp2_with fail
        go_quiet ((go_at_call 105; exact Calls.quiet_of_same (NN.out _ _ (by assumption))))
        go_wp2_with fail
        go_ret
        exact ⟨rfl, bdn BWR.out _⟩
end Sf
end Go.Proofs.YtalanjhpacjmmaaGreat
