import Derived.Test.YtbnicnhkakbglaaGreatDoorG04
import Derived.Deep.DeepAppendWide
import Derived.Deep.RegionHeld

/- Formed, the document's. -/
namespace Go.Proofs.YtbnicnhkakbglaaGreatDoor
open Go.RowKit
namespace Sf
open Jb Sa Sb Sc Sd Se

set_option maxRecDepth 100000 in
theorem formed12 (w : World) (nm : ByteArray) (v : Value) (L : List Tg) (h : Ti w v L) (hn : nm.size ≤ 140737488355328) (hz : ∀ x ∈ L, x.1.size ≤ 140737488355328 ∧ x.2.size ≤ 140737488355328) (hl : L.length ≤ 140737488355328) :
    Calls Tryz.prog 89 #[.agg #[.string nm, v]] w fun e w' => e = .returned (.bool (fm (nm, L))) ∧ Below w.heap.size w w' := by
  obtain ⟨a, c, rfl, hg⟩ := h.get
  obtain ⟨n, hN⟩ : ∃ n, n = L.length := ⟨_, rfl⟩
  obtain ⟨A, hA⟩ : ∃ A, A = fm (nm, L) := ⟨_, rfl⟩
  have HA := Lib.hid hA
  have HG := Lib.hid hg
  have HN := Lib.hid hN
  have HZ := Lib.hid hz
  have NM := Lib.hid (fun (y : World) => name24 y nm hn)
  rw [← hA]
  rw [← hN] at HG hl ⊢
  obtain ⟨W, hW⟩ : ∃ W, W = w.alloc (.cells #[.string nm, .slice a n c] 32) := ⟨_, rfl⟩
  have c0 : W.cell? ⟨w.heap.size, 0, none⟩ = some (.string nm) := by rw [hW]; exact new_cell _ _ _ 0 _ rfl
  have c1 : W.cell? ⟨w.heap.size, 1, none⟩ = some (.slice a n c) := by rw [hW]; exact new_cell _ _ _ 1 _ rfl
  have bW := Lib.hid (show Below w.heap.size w W by rw [hW]; exact (Below.refl _ w).alloc (Nat.le_refl _) _)
  have sW : W.heap.size = w.heap.size + 1 := by rw [hW]; simp
  obtain ⟨x, hx⟩ : ∃ x, x = w.heap.size := ⟨_, rfl⟩
  have HX := Lib.hid hx
  have SW := Lib.hid sW
  clear h hg hN hA hz hn sW
  by_cases q1 : isNm nm = true
  case neg =>
    have q1' : isNm nm = false := by simpa using q1
    have e : A = false := by rw [HA.out]; exact fm_no1 q1'
    subst e
    rw [q1'] at NM
    rw [← hx] at c0 c1
    go_enter Tryz.func89, Tryz.ntmps89
    go_upto_region 1 with (fail)
    rw [← hW, ← hx]
    clear hW hx
    go_wp2_with (go_at_call 35; refine (NM.out _).mono ?_; clear NM; rintro e W ⟨rfl, rfl⟩)
    go_ret
    exact ⟨rfl, bW.out⟩
  rw [q1] at NM
  rw [← hx] at c0 c1
  go_enter Tryz.func89, Tryz.ntmps89
  go_upto_region 1 with (fail)
  rw [← hW, ← hx]
  clear hW
  by_cases q2 : n ≤ 8
  case neg =>
    have e : A = false := by rw [HA.out]; exact fm_no2 (by rw [← HN.out]; exact q2)
    have d : decide ((n : Int) > 8) = true := decide_eq_true (by omega)
    subst e
    clear hx q2
    go_wp2_with (go_at_call 35; refine (NM.out _).mono ?_; clear NM; rintro e W ⟨rfl, rfl⟩)
    go_ret
    exact ⟨rfl, bW.out⟩
  have d : decide ((n : Int) > 8) = false := decide_eq_false (by omega)
  clear hx
  go_wp2_with (go_at_call 35; refine (NM.out _).mono ?_; clear NM; rintro e W ⟨rfl, rfl⟩)
  have C0 := Lib.hid c0
  have C1 := Lib.hid c1
  clear c0 c1
  go_loopw [3, 17] (fun _ i wr => ∃ k : Nat, k ≤ n ∧ i = .int .i64 (k : Nat) ∧ Hid (∀ j, j < k → tagOk L j = true) ∧ Hid (Below W.heap.size W wr)) (fun _ i _ => n - (intOf i).toNat)
  case atStart => exact ⟨0, Nat.zero_le _, rfl, Lib.hid (fun j hj => by omega), Lib.hid (Below.refl _ _)⟩
  case round =>
    obtain ⟨k, hk, rfl, HA2, BW⟩ := hrel
    by_cases hkn : k < n
    case neg =>
      obtain rfl : k = n := by omega
      have e : A = true := by rw [HA.out]; exact fm_yes q1 (by rw [← HN.out]; exact q2) (fun i hi => HA2.out i (by rw [HN.out]; exact hi))
      subst e
      clear hkn
      go_wp2_with fail
      go_ret
      exact ⟨rfl, bW.out.trans (BW.out.mono (by rw [SW.out]; omega))⟩
    obtain ⟨b, off, rfl, hnc, hb, hT⟩ := HG.out k hkn
    have bwr := bW.out.trans (BW.out.mono (by rw [SW.out]; omega))
    obtain ⟨x0, x1⟩ := hT wr bwr
    obtain ⟨⟨ka, va⟩, hkv⟩ : ∃ y, y = L.getD k t0 := ⟨_, rfl⟩
    rw [← hkv] at x0 x1
    have TO := Lib.hid (tagOk_at hkv.symm)
    obtain ⟨za, zb⟩ : (ka.size ≤ 140737488355328) ∧ (va.size ≤ 140737488355328) := by
      have hm : L.getD k t0 ∈ L := by
        have hk2 : k < L.length := by rw [← HN.out]; exact hkn
        rw [List.getD_eq_getElem?_getD, List.getElem?_eq_getElem hk2]; exact List.getElem_mem hk2
      rw [← hkv] at hm
      exact HZ.out _ hm
    have NK := Lib.hid (fun (y : World) => name24 y ka za)
    have NV := Lib.hid (fun (y : World) => name24 y va zb)
    have z0 : wr.cell? ⟨x, 0, none⟩ = some (.string nm) := (BW.out.cell (p := ⟨x, 0, none⟩) (by rw [SW.out, ← HX.out]; exact Nat.lt_succ_self _)).trans C0.out
    have z1 : wr.cell? ⟨x, 1, none⟩ = some (.slice (some ⟨b, off, none⟩) n c) := (BW.out.cell (p := ⟨x, 1, none⟩) (by rw [SW.out, ← HX.out]; exact Nat.lt_succ_self _)).trans C1.out
    have hp : ∃ kp : ByteArray, (0 < k → wr.cell? ⟨b, off + (k - 1) * 2, none⟩ = some (.string kp)) ∧ kp = (L.getD (k - 1) t0).1 := by
      refine ⟨(L.getD (k - 1) t0).1, fun h0 => ?_, rfl⟩
      obtain ⟨b', off', e, _, _, hT'⟩ := HG.out (k - 1) (by omega)
      cases e
      exact (hT' wr bwr).1
    obtain ⟨kp, hp0, hkp⟩ := hp
    have BWR := Lib.hid bwr
    have HKP := Lib.hid hkp
    have hk0 : (0 : Int) ≤ (k : Int) := by omega
    clear bwr hkv hT hkp
    have TO2 := Lib.hid (show tagOk L k = (isNm ka && isNm va && (decide (k = 0) || lt kp ka)) by rw [HKP.out]; exact TO.out)
    clear TO
    have BAD := Lib.hid (fun (h : tagOk L k = false) => (HA.out.trans (fm_no3 (s := (nm, L)) (by rw [← HN.out]; exact hkn) h) : A = false))
    by_cases q3 : isNm ka = true
    case neg =>
      have q3' : isNm ka = false := by simpa using q3
      rw [q3'] at NK
      have e := BAD.out (by rw [TO2.out, q3']; rfl)
      subst e
      clear q3 q3' NV
      go_wp2_with fail
      go_quiet (first | (go_at_call 35; exact Calls.quiet_of_same (NK.out _)))
      go_wp2_with fail
      go_ret
      exact ⟨rfl, bdn BWR.out _⟩
    clear NK NV
    have NN := Lib.hid (fun (y : World) (s : ByteArray) (hs : s.size ≤ 140737488355328) => name24 y s hs)
    by_cases q4 : isNm va = true
    case neg =>
      have q4' : isNm va = false := by simpa using q4
      have e := BAD.out (by rw [TO2.out, q3, q4']; rfl)
      subst e
      clear q4
      go_wp2_with fail
      go_quiet ((go_at_call 35; exact Calls.quiet_of_same (NN.out _ _ (by assumption))))
      go_wp2_with fail
      go_ret
      exact ⟨rfl, bdn BWR.out _⟩
    by_cases h0 : k = 0
    · have d0 : decide ((k : Int) > 0) = false := decide_eq_false (by omega)
      have d1 : decide (0 < (k : Int)) = false := decide_eq_false (by omega)
      have d2 : decide (0 < k) = false := decide_eq_false (by omega)
      have ok := Lib.hid (show tagOk L k = true by rw [TO2.out, q3, q4, decide_eq_true h0]; rfl)
      clear h0
      go_wp2_with fail
      go_quiet ((go_at_call 35; exact Calls.quiet_of_same (NN.out _ _ (by assumption))))
      go_wp2_with fail
      go_roundw
      case rel =>
        refine ⟨k + 1, by omega, by go_num, Lib.hid fun j hj => ?_, Lib.hid (bdn BW.out _)⟩
        by_cases e : j = k
        · rw [e]; exact ok.out
        · exact HA2.out j (by omega)
      case measure => simp [intOf]; omega
    · have d0 : decide ((k : Int) > 0) = true := decide_eq_true (by omega)
      have d1 : decide (0 < (k : Int)) = true := decide_eq_true (by omega)
      have d2 : decide (0 < k) = true := decide_eq_true (by omega)
      have p0 := hp0 (by omega)
      have hk1 : IntKind.i64.wrap ((k : Int) - 1) = ((k - 1 : Nat) : Int) := by
        have : ((k : Int) - 1) = ((k - 1 : Nat) : Int) := by omega
        rw [this]
        exact wr64 _ (by omega)
      have kn1 : k - 1 < n := by omega
      have HK0 := Lib.hid h0
      clear h0 hp0
      by_cases q5 : lt kp ka = true
      · have ok := Lib.hid (show tagOk L k = true by rw [TO2.out, q3, q4, q5]; simp)
        have l1 : Op.bytesLess kp.toList ka.toList = true := q5
        clear q5
        go_wp2_with fail
        go_quiet ((go_at_call 35; exact Calls.quiet_of_same (NN.out _ _ (by assumption))))
        go_wp2_with fail
        go_roundw
        case rel =>
          refine ⟨k + 1, by omega, by go_num, Lib.hid fun j hj => ?_, Lib.hid (bdn BW.out _)⟩
          by_cases e : j = k
          · rw [e]; exact ok.out
          · exact HA2.out j (by omega)
        case measure => simp [intOf]; omega
      · have q5' : lt kp ka = false := by simpa using q5
        have l1 : Op.bytesLess kp.toList ka.toList = false := q5'
        have e := BAD.out (by rw [TO2.out, q3, q4, q5', decide_eq_false HK0.out]; rfl)
        subst e
        clear q5 q5'
        go_wp2_with fail
        go_quiet ((go_at_call 35; exact Calls.quiet_of_same (NN.out _ _ (by assumption))))
        go_wp2_with fail
        go_ret
        exact ⟨rfl, bdn BWR.out _⟩
end Sf
end Go.Proofs.YtbnicnhkakbglaaGreatDoor

/- The program's Text. -/
namespace Go.Proofs.YtbnicnhkakbglaaGreatDoor
open Go.RowKit
namespace Sg
open Jb Sa Sb Sc Sd Se Sf

/-- What Text answers. -/
def tstr (s : Sr) : ByteArray := if fm s then ba (txt s) else ⟨#[]⟩
def terr (s : Sr) : Int := if fm s then 0 else 1
theorem fm_parts {s : Sr} (h : fm s = true) : s.1.size ≤ 64 ∧ s.2.length ≤ 8 ∧ ∀ i, i < s.2.length → (s.2.getD i t0).1.size ≤ 64 ∧ (s.2.getD i t0).2.size ≤ 64 := by
  unfold fm at h
  simp only [Bool.and_eq_true, decide_eq_true_eq] at h
  obtain ⟨⟨h1, h2⟩, h3⟩ := h
  refine ⟨isNm_size h1, h2, fun i hi => ?_⟩
  have := h3 i hi
  unfold tagOk at this
  simp only [Bool.and_eq_true] at this
  exact ⟨isNm_size this.1.1, isNm_size this.1.2⟩
theorem pre_len (s : Sr) (h : fm s = true) (k : Nat) : (esc (bl s.1) ++ tagst (s.2.take k)).length ≤ 2192 := by
  obtain ⟨h1, h2, h3⟩ := fm_parts h
  have := txt_len (s.1, s.2.take k) h1 (by rw [List.length_take]; have := Nat.min_le_right k s.2.length; omega) (fun x hx => by
    have hx' := List.mem_of_mem_take hx
    obtain ⟨i, hi, rfl⟩ := List.getElem_of_mem hx'
    have := h3 i hi
    rw [List.getD_eq_getElem?_getD, List.getElem?_eq_getElem hi] at this
    exact this)
  exact this
/-- The tag's copy. -/
def Cp (w : World) (y : Nat) (ka va : ByteArray) : Prop := w.heap[y]? = some (.cells #[.string ka, .string va] 81 (0, 0))
theorem Cp.c0 {w : World} {y : Nat} {ka va : ByteArray} (h : Cp w y ka va) : w.cell? ⟨y, 0, none⟩ = some (.string ka) := by rw [Lib.cell_of_heap h]; rfl
theorem Cp.c1 {w : World} {y : Nat} {ka va : ByteArray} (h : Cp w y ka va) : w.cell? ⟨y, 1, none⟩ = some (.string va) := by rw [Lib.cell_of_heap h]; rfl
theorem Cp.kept {w w' : World} {y b : Nat} {ka va : ByteArray} (h : Cp w y ka va) (hb : y ≠ b) (k : Lib.OthersKept 5 (some b) w w') : Cp w' y ka va :=
  k y _ h (fun e => hb (Option.some.inj e)) (fun c fz e => by simp at e)
theorem bd_lt {w : World} {B b : Nat} {l : List UInt8} (h : Bd w B b l) : b < w.heap.size := h.elim (fun h => h.lt) (fun h => h.lt)
theorem bd_alloc {w : World} {B b : Nat} {l : List UInt8} (h : Bd w B b l) (o : Obj) : Bd (w.alloc o) B b l := Lib.IsBuilderF.alloc h o
theorem cp_new (w : World) (ka va : ByteArray) : Cp (w.alloc (.cells #[.string ka, .string va] 81)) w.heap.size ka va := heap_alloc_new _ _
set_option maxRecDepth 100000 in
theorem text10 (w : World) (nm : ByteArray) (v : Value) (L : List Tg) (h : Ti w v L) (hn : nm.size ≤ 140737488355328) (hz : ∀ x ∈ L, x.1.size ≤ 140737488355328 ∧ x.2.size ≤ 140737488355328) (hl : L.length ≤ 140737488355328) :
    Calls Tryz.prog 42 #[.agg #[.string nm, v]] w fun e w' => e = .returned (.tuple #[.string (tstr (nm, L)), .int .i64 (terr (nm, L))]) ∧ Below w.heap.size w w' := by
  obtain ⟨a, c, rfl, hg⟩ := h.get
  obtain ⟨n, hN⟩ : ∃ n, n = L.length := ⟨_, rfl⟩
  obtain ⟨A, hA⟩ : ∃ A, A = tstr (nm, L) := ⟨_, rfl⟩
  obtain ⟨E, hE⟩ : ∃ E, E = terr (nm, L) := ⟨_, rfl⟩
  have HA := Lib.hid hA
  have HE := Lib.hid hE
  have HG := Lib.hid hg
  have HN := Lib.hid hN
  rw [← hA, ← hE]
  obtain ⟨W, hW⟩ : ∃ W, W = w.alloc (.cells #[.string nm, .slice a L.length c] 32) := ⟨_, rfl⟩
  have bW := (show Below w.heap.size w W by rw [hW]; exact (Below.refl _ w).alloc (Nat.le_refl _) _)
  have FM := Lib.hid (formed11 W nm _ L (h.below bW) hn hz hl)
  rw [← hN] at HG hl hW FM ⊢
  have c0 : W.cell? ⟨w.heap.size, 0, none⟩ = some (.string nm) := by rw [hW]; exact new_cell _ _ _ 0 _ rfl
  have c1 : W.cell? ⟨w.heap.size, 1, none⟩ = some (.slice a n c) := by rw [hW]; exact new_cell _ _ _ 1 _ rfl
  have sW : W.heap.size = w.heap.size + 1 := by rw [hW]; simp
  obtain ⟨x, hx⟩ : ∃ x, x = w.heap.size := ⟨_, rfl⟩
  have HX := Lib.hid hx
  have SW := Lib.hid sW
  have HBW := Lib.hid bW
  have hn9 := Nat.lt_of_le_of_lt hl (by decide : 140737488355328 < 9223372036854775807)
  clear h hg hN hA hE hz hn sW bW
  rw [← hx] at c0 c1
  by_cases q1 : fm (nm, L) = true
  case neg =>
    have q1' : fm (nm, L) = false := by simpa using q1
    have e : A = ⟨#[]⟩ := by rw [HA.out, tstr, q1']; rfl
    have e2 : E = 1 := by rw [HE.out, terr, q1']; rfl
    subst e e2
    rw [q1'] at FM
    clear q1 q1' HA HE
    go_enter Tryz.func42, Tryz.ntmps42
    go_upto_region 1 with (fail)
    rw [← hW, ← hx]
    clear hW hx
    go_wp2_with (go_at_call 76; refine FM.out.mono ?_; clear FM; rintro e w1 ⟨rfl, b1⟩; have B1 := Lib.hid b1; clear b1)
    go_ret2
    exact ⟨rfl, HBW.out.trans (B1.out.mono (by rw [SW.out]; omega))⟩
  have e : A = ba (txt (nm, L)) := by rw [HA.out, tstr, q1]; rfl
  have e2 : E = 0 := by rw [HE.out, terr, q1]; rfl
  have PL := Lib.hid (fun k => pre_len (nm, L) q1 k)
  have FP := Lib.hid (fm_parts q1)
  rw [q1] at FM
  have HA2 := Lib.hid e
  subst e2
  clear q1 HA HE e
  go_enter Tryz.func42, Tryz.ntmps42
  go_upto_region 1 with (fail)
  rw [← hW, ← hx]
  clear hW hx
  go_upto_region 3 with (go_at_call 76; refine FM.out.mono ?_; clear FM; rintro e w1 ⟨rfl, b1⟩; have B1 := Lib.hid b1; clear b1)
  obtain ⟨b, hb⟩ : ∃ b, b = w1.heap.size := ⟨_, rfl⟩
  obtain ⟨w2, hw2⟩ : ∃ w2, w2 = w1.alloc (.cells #[.pointer none, .slice none 0 0] 121) := ⟨_, rfl⟩
  have b2 : Below w1.heap.size w1 w2 := by rw [hw2]; exact (Below.refl _ w1).alloc (Nat.le_refl _) _
  have b02 := B1.out.trans (b2.mono B1.out.size)
  have z0 : w2.cell? ⟨x, 0, none⟩ = some (.string nm) := (b02.cell (p := ⟨x, 0, none⟩) (by rw [SW.out, ← HX.out]; exact Nat.lt_succ_self _)).trans c0
  have z1 : w2.cell? ⟨x, 1, none⟩ = some (.slice a n c) := (b02.cell (p := ⟨x, 1, none⟩) (by rw [SW.out, ← HX.out]; exact Nat.lt_succ_self _)).trans c1
  have D0 := (show Bd w2 b b [] by rw [hw2, hb]; exact bd_new w1)
  have hbs : b ≤ w2.heap.size := by rw [hb]; exact b2.size
  have WN := Lib.hid (writeName20 w2 b b [] nm D0 (by have := FP.out.1; simp only [List.length_nil]; omega) hbs)
  have BW2 := Lib.hid (HBW.out.trans (b02.mono (by rw [SW.out]; omega)))
  have B02 := Lib.hid b02
  have HBS := Lib.hid hbs
  have HWB := Lib.hid (show W.heap.size ≤ b by rw [hb]; exact B1.out.size)
  have C0 := Lib.hid c0
  have C1 := Lib.hid c1
  clear c0 c1 b2 b02 D0 hbs
  go_upto_region 4 with (fail)
  rw [← hw2, ← hb]
  clear hw2 hb
  go_upto_region 6 with (go_at_call 78; refine WN.out.mono ?_; clear WN; rintro e w3 ⟨rfl, d, b3, k3⟩; have D3 := Lib.hid d; have B3 := Lib.hid b3; clear d b3 k3; have z3 : w3.cell? ⟨x, 1, none⟩ = some (.slice a n c) := (B3.out.cell (p := ⟨x, 1, none⟩) (by have h1 := HWB.out; rw [SW.out] at h1; rw [HX.out]; exact h1)).trans z1)
  have B03 := Lib.hid (BW2.out.trans (B3.out.mono (by have h1 := HWB.out; rw [SW.out] at h1; exact Nat.le_trans (Nat.le_succ _) h1)))
  clear z0 z1 z3
  go_loopw [6, 16] (fun _ i wr => ∃ k : Nat, k ≤ n ∧ i = .int .i64 (k : Nat) ∧ Hid (Bd wr b b (esc (bl nm) ++ tagst (L.take k))) ∧ Hid (Below b w3 wr)) (fun _ i _ => n - (intOf i).toNat)
  case atStart => exact ⟨0, Nat.zero_le _, rfl, Lib.hid (by have := D3.out; simpa [tagst] using this), Lib.hid (Below.refl _ _)⟩
  case round =>
    obtain ⟨k, hk, rfl, HD, BW⟩ := hrel
    have LE := Lib.hid (show w.heap.size ≤ b by have h1 := HWB.out; rw [SW.out] at h1; exact Nat.le_trans (Nat.le_succ _) h1)
    have B0r := Lib.hid (B03.out.trans (BW.out.mono LE.out))
    have HBr := Lib.hid (Nat.le_of_lt (bd_lt HD.out))
    by_cases hkn : k < n
    case neg =>
      obtain rfl : k = n := by omega
      have DE := Lib.hid (show Bd wr b b (txt (nm, L)) by
        have := HD.out
        rwa [List.take_of_length_le (by rw [← HN.out]; exact Nat.le_refl _)] at this)
      have ST := Lib.hid (bd_string DE.out HBr.out)
      clear hkn
      go_wp2_with (go_at_call 80; refine ST.out.mono ?_; clear ST; rintro e w4 ⟨rfl, _, b4⟩; have B4 := Lib.hid b4; clear b4)
      go_ret2
      exact ⟨HA2.out ▸ rfl, B0r.out.trans (B4.out.mono LE.out)⟩
    obtain ⟨q, off, rfl, hnc, hq, hT⟩ := HG.out k hkn
    obtain ⟨x0, x1⟩ := hT wr B0r.out
    obtain ⟨⟨ka, va⟩, hkv⟩ : ∃ y, y = L.getD k t0 := ⟨_, rfl⟩
    rw [← hkv] at x0 x1
    have hk2 : k < L.length := by rw [← HN.out]; exact hkn
    have SZ := Lib.hid (show ka.size ≤ 64 ∧ va.size ≤ 64 by have := FP.out.2.2 k hk2; rw [← hkv] at this; exact this)
    have TK := Lib.hid (show tagst (L.take (k + 1)) = tagst (L.take k) ++ (44 :: (esc (bl ka) ++ 61 :: esc (bl va))) by
      rw [take_snoc L hk2, tagst_snoc, ← hkv]; rfl)
    have PK := Lib.hid (PL.out k)
    have hk0 : (0 : Int) ≤ (k : Int) := by omega
    clear hkv hT hk2
    go_upto_region 8 with (fail)
    obtain ⟨wa, hwa⟩ : ∃ wa, wa = wr.alloc (.cells #[.string ka, .string va] 81) := ⟨_, rfl⟩
    obtain ⟨y, hy⟩ : ∃ y, y = wr.heap.size := ⟨_, rfl⟩
    have CP := Lib.hid (show Cp wa y ka va by rw [hwa, hy]; exact cp_new _ _ _)
    have DA := Lib.hid (show Bd wa b b (esc (bl nm) ++ tagst (L.take k)) by rw [hwa]; exact bd_alloc HD.out _)
    have YB := Lib.hid (show y ≠ b by have := bd_lt HD.out; omega)
    have BA := Lib.hid (show Below b w3 wa by rw [hwa]; exact BW.out.alloc HBr.out _)
    have HBa := Lib.hid (Nat.le_of_lt (bd_lt DA.out))
    rw [← hwa, ← hy]
    clear hwa hy x0 x1
    have W1 := Lib.hid (bd_write DA.out 44 (by have := PK.out; omega) HBa.out)
    go_upto_region 9 with (go_at_call 79; refine W1.out.mono ?_; rintro e v1 ⟨rfl, d1, b1, k1⟩; have D1 := Lib.hid d1; have B1a := Lib.hid b1; have P1 := Lib.hid (CP.out.kept YB.out k1); clear d1 b1 k1)
    clear W1
    have y0 := P1.out.c0
    have S1 := Lib.hid (Nat.le_trans HBa.out B1a.out.size)
    have W2 := Lib.hid (writeName20 v1 b b _ ka D1.out (by have := PK.out; have := SZ.out.1; rw [List.length_append, List.length_cons, List.length_nil]; omega) S1.out)
    go_upto_region 10 with (go_at_call 78; refine W2.out.mono ?_; rintro e v2 ⟨rfl, d2, b2, k2⟩; have D2 := Lib.hid d2; have B2a := Lib.hid b2; have P2 := Lib.hid (P1.out.kept YB.out k2); clear d2 b2 k2)
    clear W2 y0
    have S2 := Lib.hid (Nat.le_trans S1.out B2a.out.size)
    have W3 := Lib.hid (bd_write D2.out 61 (by have := PK.out; have := SZ.out.1; have := (esc_len (bl ka)).2; rw [bl_len] at this; simp only [List.length_append, List.length_cons, List.length_nil] at *; omega) S2.out)
    go_upto_region 11 with (go_at_call 79; refine W3.out.mono ?_; rintro e v3 ⟨rfl, d3, b3, k3⟩; have D4 := Lib.hid d3; have B3a := Lib.hid b3; have P3 := Lib.hid (P2.out.kept YB.out k3); clear d3 b3 k3)
    clear W3
    have y1 := P3.out.c1
    have S3 := Lib.hid (Nat.le_trans S2.out B3a.out.size)
    have W4 := Lib.hid (writeName20 v3 b b _ va D4.out (by have := PK.out; have := SZ.out; have := (esc_len (bl ka)).2; rw [bl_len] at this; simp only [List.length_append, List.length_cons, List.length_nil] at *; omega) S3.out)
    go_wp2_with (go_at_call 78; refine W4.out.mono ?_; clear W4; rintro e v4 ⟨rfl, d4, b4, _⟩; have D5 := Lib.hid d4; have B4a := Lib.hid b4; clear d4 b4)
    go_roundw
    case rel =>
      refine ⟨k + 1, by omega, by go_num, Lib.hid ?_, Lib.hid ((((BA.out.trans B1a.out).trans B2a.out).trans B3a.out).trans B4a.out)⟩
      rw [TK.out]
      have := D5.out
      simpa only [List.append_assoc, List.cons_append, List.nil_append] using this
    case measure => simp [intOf]; omega
end Sg
end Go.Proofs.YtbnicnhkakbglaaGreatDoor

/- The document's Escape. -/
namespace Go.Proofs.YtbnicnhkakbglaaGreatDoor
open Go.RowKit
namespace Sh
open Jb Sa Sb Sc Sd Se Sf Sg

theorem bc_snoc (l : List UInt8) (c : UInt8) : Lib.byteCells (l ++ [c]) = Lib.byteCells l ++ [.int .u8 (c.toNat : Nat)] := by simp [Lib.byteCells]
theorem bc_u8s (l : List UInt8) : Lib.byteCells l = u8s (l.map UInt8.toNat) := by simp [Lib.byteCells, u8s]
theorem str_ba (l : List UInt8) : str (l.map UInt8.toNat) = ba l := by
  apply bl_inj
  rw [bl_ba]
  unfold bl str
  rw [strOfNums_data]
  simp only [List.map_map]
  have : ((fun n : Int => UInt8.ofNat n.toNat) ∘ (fun b : Nat => (b : Int)) ∘ UInt8.toNat) = id := by funext c; simp
  rw [this, List.map_id]
/-- A slice of one's own with these bytes. -/
def Ob (w : World) (B : Nat) (v : Value) (l : List UInt8) : Prop := w.ownsRow B 5 1 v l.length (Lib.byteCells l)
theorem Ob.forms {w : World} {B : Nat} {v : Value} {l : List UInt8} (h : Ob w B v l) : ∃ a m c, v = .slice a m c ∧ m = l.length := by
  obtain ⟨a, c, e⟩ := own_forms h
  exact ⟨a, _, c, e, rfl⟩
theorem ob_nil (w : World) (B : Nat) : Ob w B (.slice none 0 0) [] := World.ownsRow_nil _ _ _ _
theorem Ob.conv {w : World} {B : Nat} {v : Value} {l : List UInt8} (h : Ob w B v l) : (convert 58 9 v).run Tryz.prog w = .ok (.string (ba l)) w := by
  unfold Ob at h
  rw [bc_u8s] at h
  have := conv_own (bs := l.map UInt8.toNat) (by simpa using h)
  rwa [str_ba] at this
/-- One byte more. -/
theorem app1 {ops : Array Oper} {rest : List Oper} {o : Oper} {a : Act} {Q : Exit → Act → World → Prop} (hgd : o.guard = none) (s x : Operand)
    (ho : o.op = .call { callee := .builtin .append, args := #[s, x], argTypes := #[58, 58] }) (w : World) (B : Nat) (v : Value) (l : List UInt8) (c : UInt8) (hs : a.eval s = v)
    (hx : a.eval x = .slice (some ⟨w.heap.size, 0, none⟩) 1 1) (hown : Ob w B v l) (hB : B ≤ w.heap.size) (hl : l.length + 1 + (l.length + 1) / 4 + 192 ≤ 281474976710656)
    (h : ∀ v' w', Ob w' B v' (l ++ [c]) → Below B w w' → wpList Tryz.prog ops Q rest (a.put o.dst v') w') : wpList Tryz.prog ops Q (o :: rest) a (w.alloc (.cells #[.int .u8 (c.toNat : Nat)] 5)) := by
  obtain ⟨i0, hi, hz0, hz1, hz2⟩ := info_parts info5
  refine wpList_append_own_wide _ hgd s x 58 ho B 5 i0 (.int .u8 0) 1 1 Tryz.underlying58 hi hz0 hz1 hz2 rfl (by decide) v l.length _ hs (hown.alloc _) ⟨w.heap.size, 0, none⟩ 1 1 [.int .u8 (c.toNat : Nat)] hx rfl ?_ ?_ ?_ ?_ ?_ ?_
  · intro j u hj
    match j, hj with
    | 0, hj => simp at hj; subst hj; exact new_cell _ _ _ 0 _ rfl
  · intro u hu; simp at hu; subst hu; rfl
  · unfold maxLen; omega
  · omega
  · simp; omega
  · intro v' w' h1 h2 _
    refine h v' w' (by unfold Ob; rw [bc_snoc]; simpa using h1) ?_
    exact ((Below.refl B w).alloc hB _).grown h2 (by simp; omega) (fun k hk => (hown.lt k hk).1)
set_option maxRecDepth 100000 in
theorem escape14 (w : World) (s : ByteArray) (hs : s.size ≤ 70368744177664) :
    Calls Tryz.prog 53 #[.string s] w fun e w' => e = .returned (.string (ba (esc (bl s)))) ∧ Below w.heap.size w w' := by
  have HQ := Lib.hid (fun (y : World) (k : Nat) (hk : k < s.size) => idx y s k hk)
  obtain ⟨n, hn⟩ : ∃ n, n = s.size := ⟨_, rfl⟩
  have hlen : ∀ (ty : TypeId) (y : World), (Builtin.len_ #[9] ty #[.string s]).run Tryz.prog y = .ok (.int .i64 (n : Nat)) y := fun ty y => by rw [hn]; exact run_len_string y 9 ty s Tryz.underlying9
  rw [← hn] at hs
  have HN := Lib.hid hn
  have HS := Lib.hid hs
  have EB := Lib.hid (fun (y : World) (c : Nat) => special25 y c)
  have hn9 : n ≤ 140737488355328 := by omega
  obtain ⟨B, hB⟩ : ∃ B, B = w.heap.size := ⟨_, rfl⟩
  have HBE := Lib.hid hB
  rw [← hB]
  clear hn hs hB
  go_enter Tryz.func53, Tryz.ntmps53
  go_wp2_with fail
  go_loopw [3, 4] (fun o i wr => ∃ k, k ≤ n ∧ i = .int .i64 (k : Nat) ∧ Hid (Ob wr B o (esc ((bl s).take k))) ∧ Hid (Below B w wr)) (fun _ i _ => n - (intOf i).toNat)
  case atStart => exact ⟨0, Nat.zero_le _, rfl, Lib.hid (ob_nil _ _), Lib.hid (Below.refl _ _)⟩
  case round =>
    obtain ⟨k, hk, rfl, HO, BW⟩ := hrel
    obtain ⟨oa, ol, oc, rfl, hol⟩ := HO.out.forms
    have HW := Lib.hid (show B ≤ wr.heap.size from Nat.le_trans (by rw [HBE.out]; exact Nat.le_refl _) BW.out.size)
    by_cases hkn : k < n
    case neg =>
      obtain rfl : k = n := by omega
      have CV := (show (convert 58 9 (.slice oa ol oc)).run Tryz.prog wr = .ok (.string (ba (esc (bl s)))) wr by
        have := HO.out.conv
        rwa [List.take_of_length_le (by rw [bl_len, ← HN.out]; exact Nat.le_refl _)] at this)
      clear hkn hol
      go_wp2_with fail
      go_ret
      exact ⟨rfl, BW.out⟩
    have hi := fun (y : World) => HQ.out y k (by rw [← HN.out]; exact hkn)
    obtain ⟨c, hc1, hc2, hc3⟩ := drop_cons s k (by rw [← HN.out]; exact hkn)
    obtain ⟨q, hq⟩ : ∃ q, q = by8 s k := ⟨_, rfl⟩
    rw [← hq] at hi hc2
    have hk0 : (0 : Int) ≤ (k : Int) := by omega
    have LT := Lib.hid (show (esc ((bl s).take k)).length + 2 ≤ 140737488355330 by
      have h1 := (esc_len ((bl s).take k)).2
      have h2 := HS.out
      rw [List.length_take, bl_len] at h1
      have : min k s.size ≤ k := Nat.min_le_left _ _
      omega)
    have EN := Lib.hid (show esc ((bl s).take (k + 1)) = esc ((bl s).take k) ++ (if sp c then [92, c] else [c]) by rw [hc3, esc_app, esc_one])
    have HC := Lib.hid hc2
    by_cases hs : sp c = true
    · have hsn : spn q = true := by rw [← hc2]; exact hs
      have EE := Lib.hid (EN.out.trans (by rw [if_pos hs] : _ = esc ((bl s).take k) ++ [92, c]))
      have EQ := Lib.hid (show ∀ y, Calls Tryz.prog 68 #[.int .u8 (q : Nat)] y fun e w' => e = .returned (.bool true) ∧ w' = y from fun y => hsn ▸ EB.out y q)
      clear hq hc1 hc2 hc3 hs EN hsn EB hol
      go_wp2_with (first
        | (go_at_call 68; refine (EQ.out _).mono ?_; clear EQ; rintro e wr ⟨rfl, rfl⟩)
        | (at_builtin; refine app1 rfl (.tmp 15) (.tmp 16) rfl wr B _ _ 92 rfl rfl HO.out HW.out (by have := LT.out; omega) ?_; intro o1 w1 h1 b1; have W1 := Lib.hid (Nat.le_trans HW.out b1.size); clear HO HW; obtain ⟨a1, m1, c1, rfl, e1⟩ := h1.forms; clear e1; have H1 := Lib.hid h1; have B1 := Lib.hid b1; clear h1 b1)
        | (at_builtin; rw [← HC.out]; refine app1 rfl (.tmp 18) (.tmp 22) rfl w1 B _ _ c rfl rfl H1.out W1.out (by have := LT.out; simp only [List.length_append, List.length_cons, List.length_nil]; omega) ?_; intro o2 w2 h2 b2; clear H1; obtain ⟨a2, m2, c2, rfl, e2⟩ := h2.forms; clear e2; have H2 := Lib.hid h2; have B2 := Lib.hid b2; clear h2 b2))
      go_roundw
      case rel =>
        refine ⟨k + 1, by omega, by go_num, Lib.hid ?_, Lib.hid ((BW.out.trans B1.out).trans B2.out)⟩
        have := H2.out
        rw [EE.out]
        rw [List.append_assoc] at this
        exact this
      case measure => simp [intOf]; omega
    · have hs' : sp c = false := by simpa using hs
      have hsn : spn q = false := by rw [← hc2]; exact hs'
      have EE := Lib.hid (EN.out.trans (by rw [if_neg hs] : _ = esc ((bl s).take k) ++ [c]))
      have EQ := Lib.hid (show ∀ y, Calls Tryz.prog 68 #[.int .u8 (q : Nat)] y fun e w' => e = .returned (.bool false) ∧ w' = y from fun y => hsn ▸ EB.out y q)
      clear hq hc1 hc2 hc3 hs EN hsn EB hol hs'
      go_wp2_with (first
        | (go_at_call 68; refine (EQ.out _).mono ?_; clear EQ; rintro e wr ⟨rfl, rfl⟩)
        | (at_builtin; rw [← HC.out]; refine app1 rfl (.tmp 18) (.tmp 22) rfl wr B _ _ c rfl rfl HO.out HW.out (by have := LT.out; omega) ?_; intro o2 w2 h2 b2; clear HO; obtain ⟨a2, m2, c2, rfl, e2⟩ := h2.forms; clear e2; have H2 := Lib.hid h2; have B2 := Lib.hid b2; clear h2 b2))
      go_roundw
      case rel =>
        refine ⟨k + 1, by omega, by go_num, Lib.hid ?_, Lib.hid (BW.out.trans B2.out)⟩
        have := H2.out
        rw [EE.out]
        exact this
      case measure => simp [intOf]; omega
end Sh
end Go.Proofs.YtbnicnhkakbglaaGreatDoor

/- The document's Text. -/
namespace Go.Proofs.YtbnicnhkakbglaaGreatDoor
open Go.RowKit
namespace Si
open Jb Sa Sb Sc Sd Se Sf Sg Sh

theorem add_run (a b : List UInt8) (h : a.length + b.length ≤ 9223372036854775807) (y : World) : (Op.stringOp .add (ba a) (ba b)).run Tryz.prog y = .ok (.string (ba (a ++ b))) y := by
  have e : ba a ++ ba b = ba (a ++ b) := by apply bl_inj; rw [bl_ba]; simp [bl, ba]
  unfold Op.stringOp
  simp only [ba_size]
  rw [if_neg (by have : IntKind.i64.max = 9223372036854775807 := by decide
                 rw [this]; omega), e]
  rfl
set_option maxRecDepth 100000 in
theorem text9 (w : World) (nm : ByteArray) (v : Value) (L : List Tg) (h : Ti w v L) (hn : nm.size ≤ 140737488355328) (hz : ∀ x ∈ L, x.1.size ≤ 140737488355328 ∧ x.2.size ≤ 140737488355328) (hl : L.length ≤ 140737488355328) :
    Calls Tryz.prog 51 #[.agg #[.string nm, v]] w fun e w' => e = .returned (.tuple #[.string (tstr (nm, L)), .int .i64 (terr (nm, L))]) ∧ Below w.heap.size w w' := by
  obtain ⟨a, c, rfl, hg⟩ := h.get
  obtain ⟨n, hN⟩ : ∃ n, n = L.length := ⟨_, rfl⟩
  obtain ⟨A, hA⟩ : ∃ A, A = tstr (nm, L) := ⟨_, rfl⟩
  obtain ⟨E, hE⟩ : ∃ E, E = terr (nm, L) := ⟨_, rfl⟩
  have HA := Lib.hid hA
  have HE := Lib.hid hE
  have HG := Lib.hid hg
  have HN := Lib.hid hN
  rw [← hA, ← hE]
  obtain ⟨W, hW⟩ : ∃ W, W = w.alloc (.cells #[.string nm, .slice a L.length c] 32) := ⟨_, rfl⟩
  have bW := (show Below w.heap.size w W by rw [hW]; exact (Below.refl _ w).alloc (Nat.le_refl _) _)
  have FM := Lib.hid (formed12 W nm _ L (h.below bW) hn hz hl)
  rw [← hN] at HG hl hW FM ⊢
  have c0 : W.cell? ⟨w.heap.size, 0, none⟩ = some (.string nm) := by rw [hW]; exact new_cell _ _ _ 0 _ rfl
  have c1 : W.cell? ⟨w.heap.size, 1, none⟩ = some (.slice a n c) := by rw [hW]; exact new_cell _ _ _ 1 _ rfl
  have sW : W.heap.size = w.heap.size + 1 := by rw [hW]; simp
  obtain ⟨x, hx⟩ : ∃ x, x = w.heap.size := ⟨_, rfl⟩
  have HX := Lib.hid hx
  have SW := Lib.hid sW
  have HBW := Lib.hid bW
  have hn9 := Nat.lt_of_le_of_lt hl (by decide : 140737488355328 < 9223372036854775807)
  clear h hg hN hA hE hz hn sW bW
  rw [← hx] at c0 c1
  by_cases q1 : fm (nm, L) = true
  case neg =>
    have q1' : fm (nm, L) = false := by simpa using q1
    have e : A = ⟨#[]⟩ := by rw [HA.out, tstr, q1']; rfl
    have e2 : E = 1 := by rw [HE.out, terr, q1']; rfl
    subst e e2
    rw [q1'] at FM
    clear q1 q1' HA HE
    go_enter Tryz.func51, Tryz.ntmps51
    go_upto_region 1 with (fail)
    rw [← hW, ← hx]
    clear hW hx
    go_wp2_with (go_at_call 89; refine FM.out.mono ?_; clear FM; rintro e w1 ⟨rfl, b1⟩; have B1 := Lib.hid b1; clear b1)
    go_ret2
    exact ⟨rfl, HBW.out.trans (B1.out.mono (by rw [SW.out]; omega))⟩
  have e : A = ba (txt (nm, L)) := by rw [HA.out, tstr, q1]; rfl
  have e2 : E = 0 := by rw [HE.out, terr, q1]; rfl
  have PL := Lib.hid (fun k => pre_len (nm, L) q1 k)
  have FP := Lib.hid (fm_parts q1)
  rw [q1] at FM
  have HA2 := Lib.hid e
  subst e2
  clear q1 HA HE e
  go_enter Tryz.func51, Tryz.ntmps51
  go_upto_region 1 with (fail)
  rw [← hW, ← hx]
  clear hW hx
  go_upto_region 3 with (go_at_call 89; refine FM.out.mono ?_; clear FM; rintro e w1 ⟨rfl, b1⟩; have B1 := Lib.hid b1; clear b1)
  have z0 : w1.cell? ⟨x, 0, none⟩ = some (.string nm) := (B1.out.cell (p := ⟨x, 0, none⟩) (by rw [SW.out, ← HX.out]; exact Nat.lt_succ_self _)).trans c0
  have z1 : w1.cell? ⟨x, 1, none⟩ = some (.slice a n c) := (B1.out.cell (p := ⟨x, 1, none⟩) (by rw [SW.out, ← HX.out]; exact Nat.lt_succ_self _)).trans c1
  have C1 := Lib.hid c1
  clear c0 c1
  have WN := Lib.hid (escape14 w1 nm (by have := FP.out.1; omega))
  have XL := Lib.hid (show x < W.heap.size by rw [SW.out, ← HX.out]; exact Nat.lt_succ_self _)
  go_upto_region 5 with (go_at_call 53; refine WN.out.mono ?_; clear WN; rintro e w3 ⟨rfl, b3⟩; have B3 := Lib.hid (B1.out.trans (b3.mono B1.out.size)); clear b3; have z3 : w3.cell? ⟨x, 1, none⟩ = some (.slice a n c) := (B3.out.cell (p := ⟨x, 1, none⟩) XL.out).trans C1.out)
  clear z0 z1 z3 B1
  go_loopw [4, 5, 15] (fun s _ i wr => ∃ k : Nat, k ≤ n ∧ i = .int .i64 (k : Nat) ∧ s = .string (ba (esc (bl nm) ++ tagst (L.take k))) ∧ Hid (Below W.heap.size W wr)) (fun _ _ i _ => n - (intOf i).toNat)
  case atStart => exact ⟨0, Nat.zero_le _, rfl, by simp [tagst], B3⟩
  case round =>
    obtain ⟨k, hk, rfl, rfl, BW⟩ := hrel
    have B0r := Lib.hid (HBW.out.trans (BW.out.mono (by rw [SW.out]; omega)))
    by_cases hkn : k < n
    case neg =>
      obtain rfl : k = n := by omega
      have DE := Lib.hid (show ba (esc (bl nm) ++ tagst (L.take k)) = A by
        rw [HA2.out, List.take_of_length_le (by rw [← HN.out]; exact Nat.le_refl _)]; rfl)
      obtain ⟨S, hS⟩ : ∃ S, S = ba (esc (bl nm) ++ tagst (L.take k)) := ⟨_, rfl⟩
      rw [← hS] at DE ⊢
      obtain rfl := DE.out
      clear hkn DE hS
      go_wp2_with fail
      go_ret2
      exact ⟨rfl, B0r.out⟩
    obtain ⟨q, off, rfl, hnc, hq, hT⟩ := HG.out k hkn
    obtain ⟨⟨ka, va⟩, hkv⟩ : ∃ y, y = L.getD k t0 := ⟨_, rfl⟩
    rw [← hkv] at hT
    have hk2 : k < L.length := by rw [← HN.out]; exact hkn
    obtain ⟨za, zb⟩ := (show ka.size ≤ 64 ∧ va.size ≤ 64 by have := FP.out.2.2 k hk2; rw [← hkv] at this; exact this)
    have TK := Lib.hid (show tagst (L.take (k + 1)) = tagst (L.take k) ++ (44 :: (esc (bl ka) ++ 61 :: esc (bl va))) by
      rw [take_snoc L hk2, tagst_snoc, ← hkv]; rfl)
    have PK := Lib.hid (PL.out k)
    have hk0 : (0 : Int) ≤ (k : Int) := by omega
    have ES := Lib.hid (fun (y : World) (s : ByteArray) (hs : s.size ≤ 64) => escape14 y s (by omega))
    have HB := Lib.hid (fun (y : World) (hy : Below wr.heap.size wr.drew y) => (show y.cell? ⟨x, 1, none⟩ = some (.slice (some ⟨q, off, none⟩) n c) ∧ y.cell? ⟨q, off + k * 2, none⟩ = some (.string ka) ∧ y.cell? ⟨q, off + k * 2 + 1, none⟩ = some (.string va) from by
      have hy' : Below wr.heap.size wr y := ⟨hy.os, hy.tape, hy.output, hy.size, hy.block⟩
      have hB := BW.out.trans (hy'.mono BW.out.size)
      have h0 := HBW.out.trans (hB.mono (by rw [SW.out]; omega))
      exact ⟨(hB.cell (p := ⟨x, 1, none⟩) XL.out).trans C1.out, (hT y h0).1, (hT y h0).2⟩))
    obtain ⟨x0, x1, x2⟩ := HB.out wr.drew (Below.refl _ _)
    clear hkv hT hk2
    have LK := Lib.hid (show (esc (bl ka)).length ≤ 128 ∧ (esc (bl va)).length ≤ 128 by
      have h1 := (esc_len (bl ka)).2
      have h2 := (esc_len (bl va)).2
      rw [bl_len] at h1 h2
      omega)
    obtain ⟨S, hS⟩ : ∃ S, S = ba (esc (bl nm) ++ tagst (L.take k)) := ⟨_, rfl⟩
    obtain ⟨S1, hS1⟩ : ∃ S1, S1 = ba (esc (bl nm) ++ tagst (L.take k) ++ [44]) := ⟨_, rfl⟩
    obtain ⟨S2, hS2⟩ : ∃ S2, S2 = ba (esc (bl nm) ++ tagst (L.take k) ++ [44] ++ esc (bl ka)) := ⟨_, rfl⟩
    obtain ⟨S3, hS3⟩ : ∃ S3, S3 = ba (esc (bl nm) ++ tagst (L.take k) ++ [44] ++ esc (bl ka) ++ [61]) := ⟨_, rfl⟩
    obtain ⟨S4, hS4⟩ : ∃ S4, S4 = ba (esc (bl nm) ++ tagst (L.take k) ++ [44] ++ esc (bl ka) ++ [61] ++ esc (bl va)) := ⟨_, rfl⟩
    have a1 : ∀ y, (Op.stringOp .add S ⟨#[44]⟩).run Tryz.prog y = .ok (.string S1) y := fun y => by rw [hS, hS1]; exact add_run _ [44] (by have := PK.out; simp only [List.length_cons, List.length_nil]; omega) y
    have a2 : ∀ y, (Op.stringOp .add S1 (ba (esc (bl ka)))).run Tryz.prog y = .ok (.string S2) y := fun y => by rw [hS1, hS2]; exact add_run _ _ (by have := PK.out; have := LK.out.1; rw [List.length_append, List.length_cons, List.length_nil]; omega) y
    have a3 : ∀ y, (Op.stringOp .add S2 ⟨#[61]⟩).run Tryz.prog y = .ok (.string S3) y := fun y => by rw [hS2, hS3]; exact add_run _ [61] (by have := PK.out; have := LK.out.1; simp only [List.length_append, List.length_cons, List.length_nil] at *; omega) y
    have a4 : ∀ y, (Op.stringOp .add S3 (ba (esc (bl va)))).run Tryz.prog y = .ok (.string S4) y := fun y => by rw [hS3, hS4]; exact add_run _ _ (by have := PK.out; have := LK.out; simp only [List.length_append, List.length_cons, List.length_nil] at *; omega) y
    have E4 := Lib.hid (show S4 = ba (esc (bl nm) ++ tagst (L.take (k + 1))) by rw [hS4, TK.out]; simp)
    rw [← hS]
    clear hS hS1 hS2 hS3 hS4
    go_upto_region 7 with (fail)
    go_region_held (fun y => y.cell? ⟨x, 1, none⟩ = some (.slice (some ⟨q, off, none⟩) n c) ∧ y.cell? ⟨q, off + k * 2, none⟩ = some (.string ka) ∧ y.cell? ⟨q, off + k * 2 + 1, none⟩ = some (.string va)) (first | exact ⟨x0, x1, x2⟩ | exact ⟨y10, y11, y12⟩ | exact ⟨z10, z11, z12⟩)
      (first
      | (go_at_call 53; refine (ES.out y1 _ (by assumption)).mono ?_; rintro e y2 ⟨rfl, b2⟩; have G2 := Lib.hid (G1.out.trans (b2.mono G1.out.size)); obtain ⟨z10, z11, z12⟩ := HB.out y2 G2.out; clear b2)
      | (go_at_call 53; refine (ES.out wr.drew _ (by assumption)).mono ?_; rintro e y1 ⟨rfl, b1⟩; have G1 := Lib.hid b1; obtain ⟨y10, y11, y12⟩ := HB.out y1 b1; clear b1))
    all_goals
      go_wp2_with fail
      go_roundw
      case rel => exact ⟨k + 1, by omega, by go_num, by rw [E4.out], Lib.hid (BW.out.trans (Below.mono (show Below wr.heap.size wr _ from ⟨G2.out.os, G2.out.tape, G2.out.output, G2.out.size, G2.out.block⟩) BW.out.size))⟩
      case measure => simp [intOf]; omega
end Si
end Go.Proofs.YtbnicnhkakbglaaGreatDoor
