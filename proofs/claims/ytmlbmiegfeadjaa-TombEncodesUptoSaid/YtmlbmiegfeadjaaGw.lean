/- Covers, of both sides; awake. -/
import Derived.Test.YtmlbmiegfeadjaaGu
namespace Go.Proofs.Ytmlbmiegfeadjaa
open Go.RowKit
namespace Gw
open Jb Ca Cz Ga Gm Gn Gt

theorem beq_eq (a b : ByteArray) : (a.toList == b.toList) = decide (a = b) := by
  by_cases h : a = b
  · subst h; simp
  · rw [toList_ne h, decide_eq_false h]
theorem nil_iff (f : ByteArray) : f.toList = [] ↔ f = ⟨#[]⟩ := by
  constructor
  · intro h
    exact toList_inj (h.trans (by simp))
  · rintro rfl; simp
theorem nil_no {f : ByteArray} (h : f ≠ ⟨#[]⟩) : f.toList.isEmpty = false ∧ (f.toList = []) = False := by
  have h2 : ¬ f.toList = [] := fun e => h ((nil_iff f).1 e)
  refine ⟨?_, eq_false h2⟩
  cases hl : f.toList with
  | nil => exact absurd hl h2
  | cons _ _ => rfl
theorem cov_true {L : List Tmb} {i : Nat} {k : Ky} {t : Int} (hi : i < L.length) (h : hit (L.getD i t0) k t = true) : cov L k t = true := by
  unfold cov
  rw [List.any_eq_true]
  refine ⟨L.getD i t0, ?_, h⟩
  rw [List.getD_eq_getElem?_getD, List.getElem?_eq_getElem hi]
  exact List.getElem_mem hi
theorem cov_false {L : List Tmb} {k : Ky} {t : Int} (h : ∀ i, i < L.length → hit (L.getD i t0) k t = false) : cov L k t = false := by
  unfold cov
  rw [List.any_eq_false]
  intro x hx
  obtain ⟨i, hi, rfl⟩ := List.getElem_of_mem hx
  have := h i hi
  rw [List.getD_eq_getElem?_getD, List.getElem?_eq_getElem hi] at this
  simpa using this
/-- Of this column. -/
def isOf (x : Tmb) (k : Ky) : Bool := decide (x.1 = k.1) && (decide (x.2.1 = ⟨#[]⟩) || decide (x.2.1 = k.2))
theorem hit_eq (x : Tmb) (k : Ky) (t : Int) : hit x k t = (isOf x k && (decide (x.2.2.1 ≤ t) && decide (t ≤ x.2.2.2))) := rfl
set_option maxRecDepth 100000
set_option maxHeartbeats 4000000
theorem isOf32 (w : World) (x : Tmb) (k : Ky) : Calls Try.prog 32 #[ta x, .string k.1, .string k.2] w fun e w' => e = .returned (.bool (isOf x k)) ∧ Below w.heap.size w w' := by
  obtain ⟨s, f, a, b⟩ := x
  obtain ⟨k1, k2⟩ := k
  unfold ta isOf
  simp only
  have e1 := beq_eq s k1
  have e3 := beq_eq f k2
  by_cases h1 : s = k1
  · rw [decide_eq_true h1] at e1 ⊢
    by_cases h2 : f = ⟨#[]⟩
    · rw [decide_eq_true h2]
      have e2 := (nil_iff f).2 h2
      clear e3 h1 h2
      go_enter Try.func32, Try.ntmps32
      go_wp2_with fail
      go_ret
      exact ⟨rfl, (Below.refl _ _).alloc (Nat.le_refl _) _⟩
    · rw [decide_eq_false h2]
      obtain ⟨e2, e4⟩ := nil_no h2
      rw [Bool.true_and, Bool.false_or]
      clear h1 h2
      go_enter Try.func32, Try.ntmps32
      go_wp2_with fail
      go_ret
      exact ⟨rfl, (Below.refl _ _).alloc (Nat.le_refl _) _⟩
  · rw [decide_eq_false h1] at e1 ⊢
    rw [Bool.false_and]
    clear e3 h1
    go_enter Try.func32, Try.ntmps32
    go_wp2_with fail
    go_ret
    exact ⟨rfl, (Below.refl _ _).alloc (Nat.le_refl _) _⟩
theorem covers20 (w : World) (v : Value) (L : List Tmb) (h : Ti w v L) (k : Ky) (t : Int) (hn : L.length * 48 ≤ 140737488355328) :
    Calls Try.prog 20 #[v, .string k.1, .string k.2, .int .i64 t] w fun e w' => e = .returned (.bool (cov L k t)) ∧ Below w.heap.size w w' := by
  obtain ⟨a, c, rfl, hg⟩ := h.get
  obtain ⟨n, hN⟩ : ∃ n, n = L.length := ⟨_, rfl⟩
  have CT := Lib.hid (fun i (hi : i < n) hh => cov_true (L := L) (i := i) (k := k) (t := t) (by omega) hh)
  have CF := Lib.hid (fun (hh : ∀ i, i < n → hit (L.getD i t0) k t = false) => cov_false (L := L) (k := k) (t := t) (fun i hi => hh i (by omega)))
  have HG := Lib.hid hg
  rw [← hN] at hn HG ⊢
  obtain ⟨C, hC⟩ : ∃ C, C = cov L k t := ⟨_, rfl⟩
  rw [← hC] at CT CF ⊢
  have I32 := Lib.hid (fun (y : World) x => isOf32 y x k)
  clear h hg hN hC
  obtain ⟨k1, k2⟩ := k
  simp only at I32 ⊢
  go_enter Try.func20, Try.ntmps20
  go_wp2_with fail
  go_loopw [13] (fun i wr => ∃ q, q ≤ n ∧ i = .int .i64 (q : Nat) ∧ Hid (∀ j, j < q → hit (L.getD j t0) (k1, k2) t = false) ∧ Hid (Below w.heap.size w wr)) (fun i _ => n - (intOf i).toNat)
  case atStart => exact ⟨0, Nat.zero_le _, rfl, Lib.hid (fun j hj => by omega), Lib.hid (Below.refl _ _)⟩
  case round =>
    obtain ⟨q, hq, rfl, HA, HB⟩ := hrel
    by_cases hqn : q < n
    case neg =>
      obtain rfl : q = n := by omega
      have e := Lib.hid (CF.out HA.out)
      go_wp2_with fail
      go_ret
      exact ⟨by rw [e.out]; rfl, HB.out⟩
    obtain ⟨b, off, rfl, hnc, hb, hT⟩ := HG.out q hqn
    obtain ⟨wa, rfl⟩ : ∃ wa, wa = wr := ⟨_, rfl⟩
    obtain ⟨x0, x1, x2, x3⟩ := hT wa HB.out
    have XT := Lib.hid (show hit (L.getD q t0) (k1, k2) t = true → C = true from fun hh => CT.out q hqn hh)
    have XF := Lib.hid (show hit (L.getD q t0) (k1, k2) t = false → ∀ j, j < q + 1 → hit (L.getD j t0) (k1, k2) t = false from fun hh j hj => by
      by_cases e : j = q
      · rw [e]; exact hh
      · exact HA.out j (by omega))
    generalize L.getD q t0 = x at x0 x1 x2 x3 XT XF hT
    clear hT HG CT CF HA
    obtain ⟨s, f, lo, hi⟩ := x
    simp only at x0 x1 x2 x3
    have zb := HB.out.size
    have hbz : b < wa.heap.size := by omega
    have K := Lib.hid (I32.out (wa.alloc (.cells #[.string s, .string f, .int .i64 lo, .int .i64 hi] 57)) (s, f, lo, hi))
    have ha := heap_alloc_new wa (.cells #[.string s, .string f, .int .i64 lo, .int .i64 hi] 57)
    have bA := (Below.refl wa.heap.size wa).alloc (Nat.le_refl _) (.cells #[.string s, .string f, .int .i64 lo, .int .i64 hi] 57)
    have ZC := Lib.hid (show ∀ y, Below (wa.alloc (.cells #[.string s, .string f, .int .i64 lo, .int .i64 hi] 57)).heap.size (wa.alloc (.cells #[.string s, .string f, .int .i64 lo, .int .i64 hi] 57)) y → Below w.heap.size w y ∧ y.cell? ⟨wa.heap.size, 2, none⟩ = some (.int .i64 lo) ∧ y.cell? ⟨wa.heap.size, 3, none⟩ = some (.int .i64 hi) from fun y hy => by
      refine ⟨HB.out.trans ((bA.trans (hy.mono (by simp))).mono zb), ?_, ?_⟩
      · rw [World.cell?_of_block (hy.block wa.heap.size (by simp))]; exact cell_at ha 2
      · rw [World.cell?_of_block (hy.block wa.heap.size (by simp))]; exact cell_at ha 3)
    clear ha bA I32
    have hE := hit_eq (s, f, lo, hi) (k1, k2) t
    unfold ta at K
    simp only at K hE
    cases hI : isOf (s, f, lo, hi) (k1, k2) with
    | false =>
      rw [hI] at K hE
      rw [Bool.false_and] at hE
      have XF2 := Lib.hid (XF.out hE)
      clear XF XT hE hI
      go_wp2_with (go_at_call 32; refine K.out.mono ?_; rintro e w2 ⟨rfl, b2⟩; have B2 := Lib.hid (ZC.out w2 b2).1; clear b2)
      go_roundw
      case rel => exact ⟨q + 1, by omega, by go_num, Lib.hid XF2.out, Lib.hid B2.out⟩
      case measure => simp [intOf]; omega
    | true =>
      rw [hI] at K hE
      rw [Bool.true_and] at hE
      by_cases h1 : lo ≤ t
      · by_cases h2 : t ≤ hi
        · rw [decide_eq_true h1, decide_eq_true h2] at hE
          have XT2 := Lib.hid (XT.out hE)
          clear XF XT hE hI
          go_wp2_with (go_at_call 32; refine K.out.mono ?_; rintro e w2 ⟨rfl, b2⟩; obtain ⟨b3, y2, y3⟩ := ZC.out w2 b2; have B2 := Lib.hid b3; clear b2 b3)
          go_ret
          exact ⟨by rw [XT2.out]; rfl, B2.out⟩
        · rw [decide_eq_true h1, decide_eq_false h2] at hE
          have XF2 := Lib.hid (XF.out hE)
          clear XF XT hE hI
          go_wp2_with (go_at_call 32; refine K.out.mono ?_; rintro e w2 ⟨rfl, b2⟩; obtain ⟨b3, y2, y3⟩ := ZC.out w2 b2; have B2 := Lib.hid b3; clear b2 b3)
          go_roundw
          case rel => exact ⟨q + 1, by omega, by go_num, Lib.hid XF2.out, Lib.hid B2.out⟩
          case measure => simp [intOf]; omega
      · rw [decide_eq_false h1] at hE
        have XF2 := Lib.hid (XF.out hE)
        clear XF XT hE hI
        go_wp2_with (go_at_call 32; refine K.out.mono ?_; rintro e w2 ⟨rfl, b2⟩; obtain ⟨b3, y2, y3⟩ := ZC.out w2 b2; have B2 := Lib.hid b3; clear b2 b3)
        go_roundw
        case rel => exact ⟨q + 1, by omega, by go_num, Lib.hid XF2.out, Lib.hid B2.out⟩
        case measure => simp [intOf]; omega
theorem refcovers21 (w : World) (v : Value) (L : List Tmb) (h : Ti w v L) (k : Ky) (t : Int) (hn : L.length * 48 ≤ 140737488355328) :
    Calls Try.prog 21 #[v, .string k.1, .string k.2, .int .i64 t] w fun e w' => e = .returned (.bool (cov L k t)) ∧ w' = w := by
  obtain ⟨a, c, rfl, hg⟩ := h.get
  obtain ⟨n, hN⟩ : ∃ n, n = L.length := ⟨_, rfl⟩
  have CT := Lib.hid (fun i (hi : i < n) hh => cov_true (L := L) (i := i) (k := k) (t := t) (by omega) hh)
  have CF := Lib.hid (fun (hh : ∀ i, i < n → hit (L.getD i t0) k t = false) => cov_false (L := L) (k := k) (t := t) (fun i hi => hh i (by omega)))
  have HG := Lib.hid hg
  rw [← hN] at hn HG ⊢
  obtain ⟨C, hC⟩ : ∃ C, C = cov L k t := ⟨_, rfl⟩
  rw [← hC] at CT CF ⊢
  clear h hg hN hC
  obtain ⟨k1, k2⟩ := k
  simp only
  go_enter Try.func21, Try.ntmps21
  go_wp2_with fail
  go_loop [12] (fun i => ∃ q, q ≤ n ∧ i = .int .i64 (q : Nat) ∧ Hid (∀ j, j < q → hit (L.getD j t0) (k1, k2) t = false)) (fun i => n - (intOf i).toNat)
  case atStart => exact ⟨0, Nat.zero_le _, rfl, Lib.hid (fun j hj => by omega)⟩
  case round =>
    obtain ⟨q, hq, rfl, HA⟩ := hrel
    by_cases hqn : q < n
    case neg =>
      obtain rfl : q = n := by omega
      have e := Lib.hid (CF.out HA.out)
      go_wp2_with fail
      go_ret
      exact ⟨by rw [e.out]; rfl, rfl⟩
    obtain ⟨b, off, rfl, hnc, hb, hT⟩ := HG.out q hqn
    obtain ⟨x0, x1, x2, x3⟩ := hT w (Below.refl _ _)
    have XT := Lib.hid (show hit (L.getD q t0) (k1, k2) t = true → C = true from fun hh => CT.out q hqn hh)
    have XF := Lib.hid (show hit (L.getD q t0) (k1, k2) t = false → ∀ j, j < q + 1 → hit (L.getD j t0) (k1, k2) t = false from fun hh j hj => by
      by_cases e : j = q
      · rw [e]; exact hh
      · exact HA.out j (by omega))
    generalize L.getD q t0 = x at x0 x1 x2 x3 XT XF hT
    clear hT HG CT CF HA
    obtain ⟨s, f, lo, hi⟩ := x
    simp only at x0 x1 x2 x3
    have hE := hit_eq (s, f, lo, hi) (k1, k2) t
    unfold isOf at hE
    simp only at hE
    have e1 := beq_eq s k1
    have e3 := beq_eq f k2
    by_cases h1 : s = k1
    · rw [decide_eq_true h1] at e1 hE
      rw [Bool.true_and] at hE
      by_cases h2 : f = ⟨#[]⟩
      · rw [decide_eq_true h2, Bool.true_or, Bool.true_and] at hE
        have e2 := (nil_iff f).2 h2
        clear e3 h1 h2
        by_cases h3 : lo ≤ t
        · by_cases h4 : t ≤ hi
          · rw [decide_eq_true h3, decide_eq_true h4] at hE
            have XT2 := Lib.hid (XT.out hE)
            clear XF XT hE
            go_wp2_with fail
            go_ret
            exact ⟨by rw [XT2.out]; rfl, rfl⟩
          · rw [decide_eq_true h3, decide_eq_false h4] at hE
            have XF2 := Lib.hid (XF.out hE)
            clear XF XT hE
            go_wp2_with fail
            go_round
            case rel => exact ⟨q + 1, by omega, by go_num, Lib.hid XF2.out⟩
            case measure => simp [intOf]; omega
        · rw [decide_eq_false h3] at hE
          have XF2 := Lib.hid (XF.out hE)
          clear XF XT hE
          go_wp2_with fail
          go_round
          case rel => exact ⟨q + 1, by omega, by go_num, Lib.hid XF2.out⟩
          case measure => simp [intOf]; omega
      · rw [decide_eq_false h2, Bool.false_or] at hE
        obtain ⟨e2, e4⟩ := nil_no h2
        clear h1 h2
        by_cases h3 : f = k2
        · rw [decide_eq_true h3] at e3 hE
          rw [Bool.true_and] at hE
          clear h3
          by_cases h3 : lo ≤ t
          · by_cases h4 : t ≤ hi
            · rw [decide_eq_true h3, decide_eq_true h4] at hE
              have XT2 := Lib.hid (XT.out hE)
              clear XF XT hE
              go_wp2_with fail
              go_ret
              exact ⟨by rw [XT2.out]; rfl, rfl⟩
            · rw [decide_eq_true h3, decide_eq_false h4] at hE
              have XF2 := Lib.hid (XF.out hE)
              clear XF XT hE
              go_wp2_with fail
              go_round
              case rel => exact ⟨q + 1, by omega, by go_num, Lib.hid XF2.out⟩
              case measure => simp [intOf]; omega
          · rw [decide_eq_false h3] at hE
            have XF2 := Lib.hid (XF.out hE)
            clear XF XT hE
            go_wp2_with fail
            go_round
            case rel => exact ⟨q + 1, by omega, by go_num, Lib.hid XF2.out⟩
            case measure => simp [intOf]; omega
        · rw [decide_eq_false h3] at e3 hE
          rw [Bool.false_and] at hE
          have XF2 := Lib.hid (XF.out hE)
          clear XF XT hE h3
          go_wp2_with fail
          go_round
          case rel => exact ⟨q + 1, by omega, by go_num, Lib.hid XF2.out⟩
          case measure => simp [intOf]; omega
    · rw [decide_eq_false h1] at e1 hE
      rw [Bool.false_and, Bool.false_and] at hE
      have XF2 := Lib.hid (XF.out hE)
      clear XF XT hE e3 h1
      go_wp2_with fail
      go_round
      case rel => exact ⟨q + 1, by omega, by go_num, Lib.hid XF2.out⟩
      case measure => simp [intOf]; omega
end Gw
end Go.Proofs.Ytmlbmiegfeadjaa
