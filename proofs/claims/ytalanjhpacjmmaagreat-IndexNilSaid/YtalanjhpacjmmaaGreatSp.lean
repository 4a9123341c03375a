/- Tag, of both sides. -/
import Derived.Test.YtalanjhpacjmmaaGreatSi
namespace Go.Proofs.YtalanjhpacjmmaaGreat
set_option maxRecDepth 100000
open Go.RowKit
namespace Sp
open Jb Sa Sb Sc Sd Se Sf Sg Sh Si

/-- What a tag is found as. -/
def tgf (L : List Tg) (key : ByteArray) : ByteArray × Bool := match L.find? (fun x => decide (x.1 = key)) with
  | some x => (x.2, true)
  | none => (⟨#[]⟩, false)
theorem tgf_yes {L : List Tg} {key : ByteArray} {k : Nat} (hk : k < L.length) (h : ∀ j, j < k → (L.getD j t0).1 ≠ key) (he : (L.getD k t0).1 = key) : tgf L key = ((L.getD k t0).2, true) := by
  induction L generalizing k with
  | nil => simp at hk
  | cons y r ih =>
    cases k with
    | zero =>
      have e : y.1 = key := by simpa using he
      simp [tgf, List.find?, e]
    | succ k =>
      have h0 : y.1 ≠ key := by simpa using h 0 (Nat.succ_pos _)
      have := ih (k := k) (by simpa using hk) (fun j hj => by simpa [List.getD_eq_getElem?_getD] using h (j + 1) (by omega)) (by simpa [List.getD_eq_getElem?_getD] using he)
      have e : tgf (y :: r) key = tgf r key := by simp [tgf, List.find?, h0]
      rw [e, this]
      simp [List.getD_eq_getElem?_getD]
theorem tgf_no {L : List Tg} {key : ByteArray} (h : ∀ j, j < L.length → (L.getD j t0).1 ≠ key) : tgf L key = (⟨#[]⟩, false) := by
  induction L with
  | nil => rfl
  | cons y r ih =>
    have h0 : y.1 ≠ key := by simpa using h 0 (by simp)
    have e : tgf (y :: r) key = tgf r key := by simp [tgf, List.find?, h0]
    rw [e]
    exact ih fun j hj => by simpa [List.getD_eq_getElem?_getD] using h (j + 1) (by simpa using hj)
set_option maxRecDepth 100000 in
theorem clone28 (w : World) (s : ByteArray) (hs : s.size ≤ 281474976710656) : Calls Tryz.prog 60 #[.string s] w fun e w' => e = .returned (.string s) ∧ Below w.heap.size w w' := by
  have CL := Lib.hid (fun y => Tryz.stringslite_Clone s y hs)
  clear hs
  go_enter Tryz.func60, Tryz.ntmps60
  go_wp2_with (go_at_call 97; refine (CL.out _).mono ?_; clear CL; rintro e w1 ⟨rfl, b1⟩; have B1 := Lib.hid b1; clear b1)
  go_ret
  exact ⟨rfl, B1.out⟩
set_option maxRecDepth 100000 in
theorem tag18 (w : World) (nm key : ByteArray) (v : Value) (L : List Tg) (h : Ti w v L) (hz : ∀ x ∈ L, x.2.size ≤ 140737488355328) (hl : L.length ≤ 140737488355328) :
    Calls Tryz.prog 94 #[.agg #[.string nm, v], .string key] w fun e w' => e = .returned (.tuple #[.string (tgf L key).1, .bool (tgf L key).2]) ∧ Below w.heap.size w w' := by
  obtain ⟨a, c, rfl, hg⟩ := h.get
  obtain ⟨n, hN⟩ : ∃ n, n = L.length := ⟨_, rfl⟩
  obtain ⟨A1, hA1⟩ : ∃ A, A = (tgf L key).1 := ⟨_, rfl⟩
  obtain ⟨A2, hA2⟩ : ∃ A, A = (tgf L key).2 := ⟨_, rfl⟩
  have YES := Lib.hid (fun k (hk : k < L.length) (h : ∀ j, j < k → (L.getD j t0).1 ≠ key) (he : (L.getD k t0).1 = key) => (show A1 = (L.getD k t0).2 ∧ A2 = true by rw [hA1, hA2, tgf_yes hk h he]; exact ⟨rfl, rfl⟩))
  have NO := Lib.hid (fun (h : ∀ j, j < L.length → (L.getD j t0).1 ≠ key) => (show A1 = ⟨#[]⟩ ∧ A2 = false by rw [hA1, hA2, tgf_no h]; exact ⟨rfl, rfl⟩))
  have HG := Lib.hid hg
  have HN := Lib.hid hN
  have HZ := Lib.hid hz
  rw [← hA1, ← hA2]
  rw [← hN] at HG hl YES NO ⊢
  obtain ⟨W, hW⟩ : ∃ W, W = w.alloc (.cells #[.string nm, .slice a n c] 30) := ⟨_, rfl⟩
  have c0 : W.cell? ⟨w.heap.size, 0, none⟩ = some (.string nm) := by rw [hW]; exact new_cell _ _ _ 0 _ rfl
  have c1 : W.cell? ⟨w.heap.size, 1, none⟩ = some (.slice a n c) := by rw [hW]; exact new_cell _ _ _ 1 _ rfl
  have bW := Lib.hid (show Below w.heap.size w W by rw [hW]; exact (Below.refl _ w).alloc (Nat.le_refl _) _)
  have SW := Lib.hid (show w.heap.size ≤ W.heap.size by rw [hW]; simp)
  obtain ⟨x, hx⟩ : ∃ x, x = w.heap.size := ⟨_, rfl⟩
  have HX := Lib.hid hx
  rw [← hx] at c0 c1
  clear h hg hN hz hA1 hA2
  go_enter Tryz.func94, Tryz.ntmps94
  go_upto_region 1 with (fail)
  rw [← hW, ← hx]
  clear hW hx
  go_wp2_with fail
  clear c0 c1
  go_loopw [7, 11] (fun _ i wr => ∃ k : Nat, k ≤ n ∧ i = .int .i64 (k : Nat) ∧ Hid (∀ j, j < k → (L.getD j t0).1 ≠ key) ∧ Hid (Below w.heap.size w wr)) (fun _ i _ => n - (intOf i).toNat)
  case atStart => exact ⟨0, Nat.zero_le _, rfl, Lib.hid (fun j hj => by omega), bW⟩
  case round =>
    obtain ⟨k, hk, rfl, HA, BW⟩ := hrel
    by_cases hkn : k < n
    case neg =>
      obtain rfl : k = n := by omega
      obtain ⟨e1, e2⟩ := NO.out HA.out
      subst e1 e2
      clear hkn
      go_wp2_with fail
      go_ret2
      exact ⟨rfl, BW.out⟩
    obtain ⟨b, off, rfl, hnc, hb, hT⟩ := HG.out k hkn
    obtain ⟨x0, x1⟩ := hT wr BW.out
    obtain ⟨⟨ka, va⟩, hkv⟩ : ∃ y, y = L.getD k t0 := ⟨_, rfl⟩
    rw [← hkv] at x0 x1
    have hk0 : (0 : Int) ≤ (k : Int) := by omega
    have HKV := Lib.hid hkv
    have hvz := (show va.size ≤ 281474976710656 by
      have hk2 : k < L.length := by rw [← HN.out]; exact hkn
      have hm : L.getD k t0 ∈ L := by rw [List.getD_eq_getElem?_getD, List.getElem?_eq_getElem hk2]; exact List.getElem_mem hk2
      rw [← hkv] at hm
      have := HZ.out _ hm
      simp only at this
      omega)
    have CL := Lib.hid (fun y => clone28 y va hvz)
    clear hkv hT hvz
    go_upto_region 4 with (fail)
    obtain ⟨wa, hwa⟩ : ∃ wa, wa = wr.alloc (.cells #[.string ka, .string va] 36) := ⟨_, rfl⟩
    obtain ⟨y, hy⟩ : ∃ y, y = wr.heap.size := ⟨_, rfl⟩
    have y0 : wa.cell? ⟨y, 0, none⟩ = some (.string ka) := by rw [hwa, hy]; exact new_cell _ _ _ 0 _ rfl
    have y1 : wa.cell? ⟨y, 1, none⟩ = some (.string va) := by rw [hwa, hy]; exact new_cell _ _ _ 1 _ rfl
    have Ba := Lib.hid (show Below w.heap.size w wa by rw [hwa]; exact BW.out.alloc BW.out.size _)
    rw [← hwa, ← hy]
    clear hwa hy x0 x1
    by_cases he : ka = key
    · have q : (ka.toList == key.toList) = true := toList_eq he
      obtain ⟨e1, e2⟩ := YES.out k hkn HA.out (by rw [← HKV.out]; exact he)
      rw [← HKV.out] at e1
      have e1' : A1 = va := e1
      subst e1' e2
      clear he e1
      go_wp2_with (go_at_call 60; refine (CL.out _).mono ?_; clear CL; rintro e w2 ⟨rfl, b2⟩; have B2 := Lib.hid b2; clear b2)
      go_ret2
      exact ⟨rfl, Ba.out.trans (B2.out.mono Ba.out.size)⟩
    · have q : (ka.toList == key.toList) = false := toList_ne he
      have HNE := Lib.hid he
      clear he
      go_wp2_with fail
      go_roundw
      case rel =>
        refine ⟨k + 1, by omega, by go_num, Lib.hid fun j hj => ?_, Ba⟩
        by_cases e : j = k
        · rw [e, ← HKV.out]; exact HNE.out
        · exact HA.out j (by omega)
      case measure => simp [intOf]; omega
set_option maxRecDepth 100000 in
theorem tag19 (w : World) (nm key : ByteArray) (v : Value) (L : List Tg) (h : Ti w v L) (hl : L.length ≤ 140737488355328) :
    Calls Tryz.prog 64 #[.agg #[.string nm, v], .string key] w fun e w' => e = .returned (.tuple #[.string (tgf L key).1, .bool (tgf L key).2]) ∧ Below w.heap.size w w' := by
  obtain ⟨a, c, rfl, hg⟩ := h.get
  obtain ⟨n, hN⟩ : ∃ n, n = L.length := ⟨_, rfl⟩
  obtain ⟨A1, hA1⟩ : ∃ A, A = (tgf L key).1 := ⟨_, rfl⟩
  obtain ⟨A2, hA2⟩ : ∃ A, A = (tgf L key).2 := ⟨_, rfl⟩
  have YES := Lib.hid (fun k (hk : k < L.length) (h : ∀ j, j < k → (L.getD j t0).1 ≠ key) (he : (L.getD k t0).1 = key) => (show A1 = (L.getD k t0).2 ∧ A2 = true by rw [hA1, hA2, tgf_yes hk h he]; exact ⟨rfl, rfl⟩))
  have NO := Lib.hid (fun (h : ∀ j, j < L.length → (L.getD j t0).1 ≠ key) => (show A1 = ⟨#[]⟩ ∧ A2 = false by rw [hA1, hA2, tgf_no h]; exact ⟨rfl, rfl⟩))
  have HG := Lib.hid hg
  rw [← hA1, ← hA2]
  rw [← hN] at HG hl YES NO ⊢
  obtain ⟨W, hW⟩ : ∃ W, W = w.alloc (.cells #[.string nm, .slice a n c] 30) := ⟨_, rfl⟩
  have c1 : W.cell? ⟨w.heap.size, 1, none⟩ = some (.slice a n c) := by rw [hW]; exact new_cell _ _ _ 1 _ rfl
  have bW := Lib.hid (show Below w.heap.size w W by rw [hW]; exact (Below.refl _ w).alloc (Nat.le_refl _) _)
  obtain ⟨x, hx⟩ : ∃ x, x = w.heap.size := ⟨_, rfl⟩
  rw [← hx] at c1
  clear h hg hN hA1 hA2
  go_enter Tryz.func64, Tryz.ntmps64
  go_upto_region 1 with (fail)
  rw [← hW, ← hx]
  clear hW hx
  go_wp2_with fail
  go_loopw [6, 10] (fun _ i wr => ∃ k : Nat, k ≤ n ∧ i = .int .i64 (k : Nat) ∧ Hid (∀ j, j < k → (L.getD j t0).1 ≠ key) ∧ wr = W) (fun _ i _ => n - (intOf i).toNat)
  case atStart => exact ⟨0, Nat.zero_le _, rfl, Lib.hid (fun j hj => by omega), by first | rfl | trivial⟩
  case round =>
    obtain ⟨k, hk, rfl, HA, rfl⟩ := hrel
    by_cases hkn : k < n
    case neg =>
      obtain rfl : k = n := by omega
      obtain ⟨e1, e2⟩ := NO.out HA.out
      subst e1 e2
      clear hkn
      go_wp2_with fail
      go_ret2
      exact ⟨rfl, bW.out⟩
    obtain ⟨b, off, rfl, hnc, hb, hT⟩ := HG.out k hkn
    obtain ⟨x0, x1⟩ := hT _ bW.out
    obtain ⟨⟨ka, va⟩, hkv⟩ : ∃ y, y = L.getD k t0 := ⟨_, rfl⟩
    rw [← hkv] at x0 x1
    have hk0 : (0 : Int) ≤ (k : Int) := by omega
    have HKV := Lib.hid hkv
    clear hkv hT
    by_cases he : ka = key
    · have q : (ka.toList == key.toList) = true := toList_eq he
      obtain ⟨e1, e2⟩ := YES.out k hkn HA.out (by rw [← HKV.out]; exact he)
      rw [← HKV.out] at e1
      have e1' : A1 = va := e1
      subst e1' e2
      clear he e1
      go_wp2_with fail
      go_ret2
      exact ⟨rfl, bW.out⟩
    · have q : (ka.toList == key.toList) = false := toList_ne he
      have HNE := Lib.hid he
      clear he
      go_wp2_with fail
      go_roundw
      case rel =>
        refine ⟨k + 1, by omega, by go_num, Lib.hid fun j hj => ?_, by first | rfl | trivial⟩
        by_cases e : j = k
        · rw [e, ← HKV.out]; exact HNE.out
        · exact HA.out j (by omega)
      case measure => simp [intOf]; omega
end Sp
end Go.Proofs.YtalanjhpacjmmaaGreat
