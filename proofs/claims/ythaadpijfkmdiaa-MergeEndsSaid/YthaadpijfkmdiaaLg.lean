/- The law MergeEnds. -/
import Derived.Test.YthaadpijfkmdiaaLf
namespace Go.Proofs.Ythaadpijfkmdiaa
open Go.RowKit
namespace Lg
open Jb La Lb Lc Ld Le Lf

/-- A step of the plan. -/
def stp (M : List Inf) (A n : Nat) (l : Int) : List Inf := M.take A ++ [(l, false)] ++ M.drop (A + n)
theorem stp_len {M : List Inf} {A n : Nat} {l : Int} (h : A + n ≤ M.length) : (stp M A n l).length = M.length - n + 1 := by
  unfold stp; simp; omega
/-- What holds ahead of the round k. -/
def Inv (N k : Nat) (M : List Inf) : Prop := M.length + k ≤ N ∨ (M.length = 1 ∧ tm M 0 = false ∧ M.length + k ≤ N + 1)
theorem plan_cases {N k : Nat} {M : List Inf} {a n l : Int} (h : Inv N k M) (p : Pl M a n l) (hl : -9223372036854775808 ≤ l ∧ l ≤ 9223372036854775807) :
    (n = 0 ∧ (M.length = 0 ∨ M.length = 1 ∧ tm M 0 = false)) ∨ ∃ A B : Nat, a = A ∧ n = B ∧ 1 ≤ B ∧ A + B ≤ M.length ∧ Inv N (k + 1) (stp M A B l) ∧ ((∀ x ∈ M, Wi x) → ∀ x ∈ stp M A B l, Wi x) := by
  have W : ∀ A B, (∀ x ∈ M, Wi x) → ∀ x ∈ stp M A B l, Wi x := fun A B hM x hx => by
    unfold stp at hx
    rcases List.mem_append.1 hx with hx | hx
    · rcases List.mem_append.1 hx with hx | hx
      · exact hM x (List.mem_of_mem_take hx)
      · obtain rfl := List.mem_singleton.1 hx; exact hl
    · exact hM x (List.mem_of_mem_drop hx)
  rcases p with ⟨j, h1, h2, rfl, rfl, rfl⟩ | ⟨h1, h2, rfl, rfl, rfl⟩ | ⟨h1, h2, h3, rfl, rfl, rfl⟩ | ⟨h1, h2, rfl, rfl, rfl⟩
  · refine .inr ⟨j, 4, rfl, rfl, by decide, h1.1, .inl ?_, W _ _⟩
    rw [stp_len h1.1]
    have := h1.1
    rcases h with h | h <;> omega
  · refine .inr ⟨0, M.length, rfl, rfl, by omega, by omega, .inl ?_, W _ _⟩
    rw [stp_len (by omega)]
    rcases h with h | h <;> omega
  · refine .inr ⟨0, 1, rfl, rfl, by decide, by omega, .inr ⟨?_, ?_, ?_⟩, W _ _⟩
    · rw [stp_len (by omega)]; omega
    · unfold stp tm; simp
    · rw [stp_len (by omega)]
      rcases h with h | ⟨_, h, _⟩
      · omega
      · rw [h3] at h; cases h
  · exact .inl ⟨rfl, h2⟩
theorem fi_take {w : World} {a : Option Addr} {n c k : Nat} {L : List Inf} (h : Fi w (.slice a n c) L) (hk : k ≤ L.length) : Fi w (.slice a k c) (L.take k) := by
  refine ⟨fun x hx => h.1 x (List.mem_of_mem_take hx), ?_⟩
  have hl : (L.take k).length = k := by rw [List.length_take]; omega
  rcases h.2 with ⟨a', c', e, rfl⟩ | ⟨b, off, c', e, h1, h2, h3⟩
  · cases e
    simp only [List.length_nil, Nat.le_zero] at hk
    subst hk
    exact .inl ⟨_, _, rfl, rfl⟩
  · cases e
    refine .inr ⟨b, off, c, by rw [hl], by omega, h2, fun i hi => ?_⟩
    rw [hl] at hi
    have := h3 i (by omega)
    rw [List.getD_eq_getElem?_getD, List.getElem?_take_of_lt hi, ← List.getD_eq_getElem?_getD]
    exact this
theorem fi_cells {w : World} {ad : Addr} {n c : Nat} {L : List Inf} (h : Fi w (.slice (some ad) n c) L) : ∀ j u, (fcs L)[j]? = some u → w.cell? (ad.add j) = some u := by
  intro j u hj
  rcases h.2 with ⟨_, _, e, rfl⟩ | ⟨b, off, c', e, h1, h2, h3⟩
  · simp [fcs] at hj
  · cases e
    have hjl : j < L.length * 2 := by rw [← fcs_len]; exact (List.getElem?_eq_some_iff.1 hj).1
    obtain ⟨i, r, rfl, hr⟩ : ∃ i r, j = i * 2 + r ∧ r < 2 := ⟨j / 2, j % 2, by omega, by omega⟩
    rw [fcs_get L i r (by omega) hr] at hj
    obtain ⟨x0, x1⟩ := h3 i (by omega)
    have e2 : (⟨b, off, none⟩ : Addr).add (i * 2 + r) = ⟨b, off + i * 2 + r, none⟩ := by
      unfold Addr.add; split
      · rename_i e; rw [show i * 2 = 0 by omega, show r = 0 by omega]; rfl
      · simp; omega
    rw [e2]
    match r, hj with
    | 0, hj => cases hj; exact x0
    | 1, hj => cases hj; exact x1
theorem fi_drop {w : World} {b off n c k : Nat} {L : List Inf} (h : Fi w (.slice (some ⟨b, off, none⟩) n c) L) (hk : k ≤ L.length) : Fi w (.slice (some ⟨b, off + k * 2, none⟩) (n - k) (c - k)) (L.drop k) := by
  refine ⟨fun x hx => h.1 x (List.mem_of_mem_drop hx), ?_⟩
  have hl : (L.drop k).length = L.length - k := List.length_drop
  rcases h.2 with ⟨a', c', e, rfl⟩ | ⟨b', off', c', e, h1, h2, h3⟩
  · cases e
    exact .inl ⟨_, _, by rw [show 0 - k = 0 by omega], by simp⟩
  · cases e
    refine .inr ⟨b, off + k * 2, c - k, by rw [hl], by omega, h2, fun i hi => ?_⟩
    rw [hl] at hi
    have := h3 (k + i) (by omega)
    rw [List.getD_eq_getElem?_getD, List.getElem?_drop, ← List.getD_eq_getElem?_getD, show off + k * 2 + i * 2 = off + (k + i) * 2 by omega]
    exact this
set_option maxRecDepth 100000
set_option maxHeartbeats 8000000
theorem ends5 (w : World) (v : Value) (L : List Inf) (h : Fi w v L) (hn : L.length * 16 ≤ 140737488355328) :
    Calls Try.prog 5 #[v] w fun e w' => e = .returned (.bool true) ∧ Below w.heap.size w w' := by
  obtain ⟨i0, hi, hz0, hz1, hz2⟩ := info_parts info37
  have A6 := Lib.hid (awake6 w)
  have HL := Lib.hid h.1
  have T10 := Lib.hid (fun (y : World) (hy : Below w.heap.size w y) => theirs10 y v L (h.below hy) hn)
  have P9 := Lib.hid (fun (y : World) (r : Value) (M : List Inf) (hr : Fi y r M) (hm : M.length ≤ 300) => plan9 y r M hr (by omega))
  obtain ⟨n, hN⟩ : ∃ n, n = L.length := ⟨_, rfl⟩
  have HN := Lib.hid hN
  rw [← hN] at hn T10
  clear h hN
  go_enter Try.func5, Try.ntmps5
  go_wp2_with fail
  refine A6.out.mono ?_
  rintro e w1 ⟨rfl, b1⟩
  have B1 := Lib.hid b1
  have A1 := Lib.hid (T10.out w1 b1)
  clear b1 A6
  go_wp2_with fail
  refine A1.out.mono ?_
  rintro e w2 ⟨r, rfl, ho, b2⟩
  have B2 := Lib.hid (B1.out.trans (b2.mono B1.out.size))
  have F2 := Lib.hid (fi_own (L := L) (by rw [HN.out] at ho; exact ho) HL.out)
  obtain ⟨ra, rc, rfl⟩ := own_forms ho
  have hrc : n ≤ rc := by
    rcases ho.2 with ⟨e, e2⟩ | ⟨_, _, _, e, _, _, hc, _⟩
    · omega
    · cases e; exact hc
  clear ho b2 A1 T10 hn
  by_cases h3 : 300 < n
  · have d3 : decide ((n : Int) > 300) = true := decide_eq_true (by omega)
    have hrc3 : 300 ≤ rc := by omega
    go_wp2_with fail
    go_loopw [3, 23, 4, 5, 6, 7] (fun o i u4 u5 u6 u7 wr => ∃ (k : Nat) (M : List Inf), i = .int .i64 (k : Nat) ∧ k ≤ 300 + 1 ∧ M.length ≤ 300 ∧ Hid (Fi wr o M) ∧ Hid (Inv 300 k M) ∧ Hid (Below w.heap.size w wr)) (fun _ i _ _ _ _ _ => 300 + 1 - (intOf i).toNat)
    case atStart => exact ⟨0, _, rfl, by omega, by rw [List.length_take, ← HN.out]; omega, Lib.hid (fi_take F2.out (k := 300) (by rw [← HN.out]; omega)), Lib.hid (.inl (by rw [List.length_take, ← HN.out]; omega)), B2⟩
    case round =>
      obtain ⟨k, M, rfl, hk, hm3, HF, HI, HB⟩ := hrel
      obtain ⟨wa, rfl⟩ : ∃ wa, wa = wr := ⟨_, rfl⟩
      by_cases hkn : k < 300 + 1
      case neg =>
        exfalso
        rcases HI.out with h | ⟨h1, h2, h3⟩ <;> omega
      have A3 := Lib.hid (P9.out wa _ M HF.out hm3)
      obtain ⟨fa, fc9, rfl, hg⟩ := HF.out.get
      obtain ⟨m, hme⟩ : ∃ m, m = M.length := ⟨_, rfl⟩
      have HM := Lib.hid hme
      have HG := Lib.hid hg
      rw [← hme] at hm3 A3 HG
      clear hg hme
      rw [← HM.out]
      go_wp2_with fail
      refine A3.out.mono ?_
      rintro e w3 ⟨a, nn, l, rfl, p1, hl, b3⟩
      have B3 := Lib.hid (HB.out.trans (b3.mono HB.out.size))
      have F3 := Lib.hid (HF.out.below b3)
      rw [← HM.out] at F3
      rcases plan_cases HI.out p1 hl with ⟨rfl, hz⟩ | ⟨A, B, rfl, rfl, hB, hAB, HI2, HW2⟩
      · clear p1 A3 HI
        rw [← HM.out] at hz
        by_cases h0 : m = 0
        · subst h0
          go_wp2_with fail
          go_ret
          exact ⟨rfl, B3.out⟩
        · have h1 : m = 1 := by rcases hz with h | h <;> omega
          have ht : tm M 0 = false := by rcases hz with h | h; exact absurd h h0; exact h.2
          subst h1
          obtain ⟨b, off, rfl, hnc, hb, hT⟩ := HG.out 0 (by decide)
          obtain ⟨x0, x1⟩ := hT w3 b3
          have ET : (M.getD 0 n0).2 = tm M 0 := rfl
          rw [ET, ht] at x1
          simp only [Nat.zero_mul, Nat.add_zero] at x1
          clear hT x0 ET hz
          go_wp2_with fail
          go_ret
          exact ⟨rfl, B3.out⟩
      · rw [← HM.out] at hAB
        obtain ⟨b, off, rfl, hnc, hb, hT⟩ := HG.out 0 (by omega)
        have HI3 := Lib.hid HI2
        have HW3 := Lib.hid HW2
        have hb3 : b < w3.heap.size := Nat.lt_of_lt_of_le hb b3.size
        clear p1 A3 HI HI2 HW2 hT HG b3
        have bA := (Below.refl w3.heap.size w3).alloc (Nat.le_refl _) (.cells #[] 37)
        have OWN0 : (w3.alloc (.cells #[] 37)).ownsRow w3.heap.size 37 2 (.slice (some ⟨w3.heap.size, 0, none⟩) 0 0) 0 [] := World.ownsRow_lit (size := 2) w3 #[] 0 (Nat.le_refl _) (by decide) rfl
        have NEW1 := fi_cells (fi_take (F3.out.below bA) (k := A) (by rw [← HM.out]; omega))
        have lenA : (fcs (M.take A)).length = A * 2 := by rw [fcs_len, List.length_take, ← HM.out]; omega
        go_wp2_with (at_builtin; (refine wpList_append_own _ rfl (.tmp 58) (.tmp 61) 32 rfl w3.heap.size 37 i0 _ 2 16 Try.underlying32 hi hz0 hz1 hz2 rfl (by decide) (.slice (some ⟨w3.heap.size, 0, none⟩) 0 0) 0 [] (by simp [Act.eval]) OWN0 ⟨b, off, none⟩ A fc9 (fcs (M.take A)) (by simp [Act.eval]) lenA NEW1 (fcs_one _) (by unfold maxLen; omega) (by omega) (by simp) ?_))
        intro v1 w4 o1 g1 _
        obtain ⟨a1, c1, rfl⟩ := own_forms o1
        have b4 : Below w3.heap.size w3 w4 := bA.grown g1 (by simp) (fun j ej => by cases ej; exact Nat.le_refl _)
        have O1 := Lib.hid o1
        have B4 := Lib.hid (B3.out.trans (b4.mono B3.out.size))
        have Q4 := Lib.hid b4
        have F4 := Lib.hid (F3.out.below b4)
        have z4 := b4.size
        clear o1 g1 OWN0 NEW1 lenA bA b4
        have bA := (Below.refl w4.heap.size w4).alloc (Nat.le_refl _) (.cells #[.int .i64 l, .bool false] 37)
        have hh := heap_alloc_new w4 (.cells #[.int .i64 l, .bool false] 37)
        have OWN1 := Lib.hid (O1.out.alloc (.cells #[.int .i64 l, .bool false] 37))
        have NEW1 : ∀ j u, (fc (l, false))[j]? = some u → (w4.alloc (.cells #[.int .i64 l, .bool false] 37)).cell? ((⟨w4.heap.size, 0, none⟩ : Addr).add j) = some u := fun j u hj => by
          match j, hj with
          | 0, hj => cases hj; exact cell_at hh 0
          | 1, hj => cases hj; exact cell_at hh 1
        go_wp2_with (at_builtin; (refine wpList_append_own _ rfl (.tmp 63) (.tmp 66) 32 rfl w3.heap.size 37 i0 _ 2 16 Try.underlying32 hi hz0 hz1 hz2 rfl (by decide) (.slice a1 A c1) A (fcs (M.take A)) (by simp [Act.eval]) OWN1.out ⟨w4.heap.size, 0, none⟩ 1 1 (fc (l, false)) (by simp [Act.eval]) rfl NEW1 (fc_one _) (by unfold maxLen; omega) (by omega) (by simp; omega) ?_))
        intro v2 w5 o2 g2 _
        obtain ⟨a2, c2, rfl⟩ := own_forms o2
        have B5 := Lib.hid ((B4.out.alloc B4.out.size (.cells #[.int .i64 l, .bool false] 37)).grown g2 (by simp; have := B4.out.size; omega) (fun j ej => by have := (La.own_lt OWN1.out ej).1; have := B3.out.size; omega))
        have F5 := Lib.hid (F3.out.below (((Below.refl w3.heap.size w3).trans (show Below w3.heap.size w3 w5 from by
          have h1 := (show Below w3.heap.size w3 (w4.alloc (.cells #[.int .i64 l, .bool false] 37)) from (Q4.out.alloc Q4.out.size _))
          exact h1.grown g2 (by simp; omega) (fun j ej => (La.own_lt OWN1.out ej).1)))))
        have O2 := Lib.hid o2
        have z5 : w3.heap.size ≤ w5.heap.size := by have := g2.size; simp at this; omega
        clear o2 g2 OWN1 NEW1 bA hh O1
        obtain ⟨S, hS⟩ : ∃ S, S = A + B := ⟨_, rfl⟩
        have hSi : (A : Int) + (B : Int) = (S : Int) := by omega
        have hSm : S ≤ m := by omega
        have FIN := Lib.hid (show ∀ v' w6, w6.ownsRow w3.heap.size 37 2 v' (A + 1 + (m - S)) (fcs (M.take A) ++ fc (l, false) ++ fcs (M.drop S)) → Fi w6 v' (stp M A B l) ∧ (stp M A B l).length ≤ 300 from fun v' w6 h => by
          have hl : (stp M A B l).length = m - B + 1 := by rw [stp_len (by rw [← HM.out]; omega), ← HM.out]
          refine ⟨fi_own (B := w3.heap.size) (t := 37) ?_ (HW3.out F3.out.1), by omega⟩
          rw [hl, show m - B + 1 = A + 1 + (m - S) by omega]
          unfold stp
          rw [fcs_app, fcs_app, ← hS]
          simpa [fcs] using h)
        have lenS : (fcs (M.drop S)).length = (m - S) * 2 := by rw [fcs_len, List.length_drop, ← HM.out]
        have NEW5 := fi_cells (fi_drop F5.out (k := S) (by rw [← HM.out]; omega))
        have BND := Lib.hid (show A + 1 + (m - S) ≤ 301 by omega)
        clear hS
        by_cases hcS : fc9 = S
        · subst hcS
          have hm0 : m = fc9 := by omega
          subst hm0
          go_wp2_with (at_builtin; (refine wpList_append_own _ rfl (.tmp 68) (.tmp 73) 32 rfl w3.heap.size 37 i0 _ 2 16 Try.underlying32 hi hz0 hz1 hz2 rfl (by decide) (.slice a2 (A + 1) c2) (A + 1) (fcs (M.take A) ++ fc (l, false)) (by simp [Act.eval]) O2.out ⟨b, off, none⟩ 0 0 [] (by simp [Act.eval]) rfl (fun j u hj => by simp at hj) (fun u hu => by cases hu) (by unfold maxLen; omega) (by omega) z5 ?_))
          intro v6 w6 o6 g6 _
          have B6 := Lib.hid (B5.out.grown g6 B5.out.size (fun j ej => by have := (La.own_lt O2.out ej).1; have := B3.out.size; omega))
          have F6 := Lib.hid (FIN.out v6 w6 (by have h := o6; rw [show A + 1 + 0 = A + 1 + (m - m) by omega] at h; rw [show fcs (M.drop m) = [] by rw [HM.out, List.drop_length]; rfl, List.append_nil]; exact h))
          clear o6 g6
          go_wp2_with fail
          go_roundw
          case rel => exact ⟨k + 1, _, by go_num, by omega, F6.out.2, Lib.hid F6.out.1, HI3, B6⟩
          case measure => simp [intOf]; omega
        · have hcS2 : S < fc9 := by omega
          go_wp2_with (at_builtin; (refine wpList_append_own _ rfl (.tmp 68) (.tmp 73) 32 rfl w3.heap.size 37 i0 _ 2 16 Try.underlying32 hi hz0 hz1 hz2 rfl (by decide) (.slice a2 (A + 1) c2) (A + 1) (fcs (M.take A) ++ fc (l, false)) (by simp [Act.eval]) O2.out ⟨b, off + S * 2, none⟩ (m - S) (fc9 - S) (fcs (M.drop S)) (by simp [Act.eval]) lenS NEW5 (fcs_one _) (by unfold maxLen; have := BND.out; omega) (by have := BND.out; omega) z5 ?_))
          intro v6 w6 o6 g6 _
          have B6 := Lib.hid (B5.out.grown g6 B5.out.size (fun j ej => by have := (La.own_lt O2.out ej).1; have := B3.out.size; omega))
          have F6 := Lib.hid (FIN.out v6 w6 (by rw [List.append_assoc]; exact o6))
          clear o6 g6
          go_wp2_with fail
          go_roundw
          case rel => exact ⟨k + 1, _, by go_num, by omega, F6.out.2, Lib.hid F6.out.1, HI3, B6⟩
          case measure => simp [intOf]; omega
  · have d3 : decide ((n : Int) > 300) = false := decide_eq_false (by omega)
    go_wp2_with fail
    go_loopw [3, 23, 4, 5, 6, 7] (fun o i u4 u5 u6 u7 wr => ∃ (k : Nat) (M : List Inf), i = .int .i64 (k : Nat) ∧ k ≤ n + 1 ∧ M.length ≤ 300 ∧ Hid (Fi wr o M) ∧ Hid (Inv n k M) ∧ Hid (Below w.heap.size w wr)) (fun _ i _ _ _ _ _ => n + 1 - (intOf i).toNat)
    case atStart => exact ⟨0, _, rfl, by omega, by rw [← HN.out]; omega, Lib.hid (F2.out), Lib.hid (.inl (by rw [← HN.out]; omega)), B2⟩
    case round =>
      obtain ⟨k, M, rfl, hk, hm3, HF, HI, HB⟩ := hrel
      obtain ⟨wa, rfl⟩ : ∃ wa, wa = wr := ⟨_, rfl⟩
      by_cases hkn : k < n + 1
      case neg =>
        exfalso
        rcases HI.out with h | ⟨h1, h2, h3⟩ <;> omega
      have A3 := Lib.hid (P9.out wa _ M HF.out hm3)
      obtain ⟨fa, fc9, rfl, hg⟩ := HF.out.get
      obtain ⟨m, hme⟩ : ∃ m, m = M.length := ⟨_, rfl⟩
      have HM := Lib.hid hme
      have HG := Lib.hid hg
      rw [← hme] at hm3 A3 HG
      clear hg hme
      rw [← HM.out]
      go_wp2_with fail
      refine A3.out.mono ?_
      rintro e w3 ⟨a, nn, l, rfl, p1, hl, b3⟩
      have B3 := Lib.hid (HB.out.trans (b3.mono HB.out.size))
      have F3 := Lib.hid (HF.out.below b3)
      rw [← HM.out] at F3
      rcases plan_cases HI.out p1 hl with ⟨rfl, hz⟩ | ⟨A, B, rfl, rfl, hB, hAB, HI2, HW2⟩
      · clear p1 A3 HI
        rw [← HM.out] at hz
        by_cases h0 : m = 0
        · subst h0
          go_wp2_with fail
          go_ret
          exact ⟨rfl, B3.out⟩
        · have h1 : m = 1 := by rcases hz with h | h <;> omega
          have ht : tm M 0 = false := by rcases hz with h | h; exact absurd h h0; exact h.2
          subst h1
          obtain ⟨b, off, rfl, hnc, hb, hT⟩ := HG.out 0 (by decide)
          obtain ⟨x0, x1⟩ := hT w3 b3
          have ET : (M.getD 0 n0).2 = tm M 0 := rfl
          rw [ET, ht] at x1
          simp only [Nat.zero_mul, Nat.add_zero] at x1
          clear hT x0 ET hz
          go_wp2_with fail
          go_ret
          exact ⟨rfl, B3.out⟩
      · rw [← HM.out] at hAB
        obtain ⟨b, off, rfl, hnc, hb, hT⟩ := HG.out 0 (by omega)
        have HI3 := Lib.hid HI2
        have HW3 := Lib.hid HW2
        have hb3 : b < w3.heap.size := Nat.lt_of_lt_of_le hb b3.size
        clear p1 A3 HI HI2 HW2 hT HG b3
        have bA := (Below.refl w3.heap.size w3).alloc (Nat.le_refl _) (.cells #[] 37)
        have OWN0 : (w3.alloc (.cells #[] 37)).ownsRow w3.heap.size 37 2 (.slice (some ⟨w3.heap.size, 0, none⟩) 0 0) 0 [] := World.ownsRow_lit (size := 2) w3 #[] 0 (Nat.le_refl _) (by decide) rfl
        have NEW1 := fi_cells (fi_take (F3.out.below bA) (k := A) (by rw [← HM.out]; omega))
        have lenA : (fcs (M.take A)).length = A * 2 := by rw [fcs_len, List.length_take, ← HM.out]; omega
        go_wp2_with (at_builtin; (refine wpList_append_own _ rfl (.tmp 58) (.tmp 61) 32 rfl w3.heap.size 37 i0 _ 2 16 Try.underlying32 hi hz0 hz1 hz2 rfl (by decide) (.slice (some ⟨w3.heap.size, 0, none⟩) 0 0) 0 [] (by simp [Act.eval]) OWN0 ⟨b, off, none⟩ A fc9 (fcs (M.take A)) (by simp [Act.eval]) lenA NEW1 (fcs_one _) (by unfold maxLen; omega) (by omega) (by simp) ?_))
        intro v1 w4 o1 g1 _
        obtain ⟨a1, c1, rfl⟩ := own_forms o1
        have b4 : Below w3.heap.size w3 w4 := bA.grown g1 (by simp) (fun j ej => by cases ej; exact Nat.le_refl _)
        have O1 := Lib.hid o1
        have B4 := Lib.hid (B3.out.trans (b4.mono B3.out.size))
        have Q4 := Lib.hid b4
        have F4 := Lib.hid (F3.out.below b4)
        have z4 := b4.size
        clear o1 g1 OWN0 NEW1 lenA bA b4
        have bA := (Below.refl w4.heap.size w4).alloc (Nat.le_refl _) (.cells #[.int .i64 l, .bool false] 37)
        have hh := heap_alloc_new w4 (.cells #[.int .i64 l, .bool false] 37)
        have OWN1 := Lib.hid (O1.out.alloc (.cells #[.int .i64 l, .bool false] 37))
        have NEW1 : ∀ j u, (fc (l, false))[j]? = some u → (w4.alloc (.cells #[.int .i64 l, .bool false] 37)).cell? ((⟨w4.heap.size, 0, none⟩ : Addr).add j) = some u := fun j u hj => by
          match j, hj with
          | 0, hj => cases hj; exact cell_at hh 0
          | 1, hj => cases hj; exact cell_at hh 1
        go_wp2_with (at_builtin; (refine wpList_append_own _ rfl (.tmp 63) (.tmp 66) 32 rfl w3.heap.size 37 i0 _ 2 16 Try.underlying32 hi hz0 hz1 hz2 rfl (by decide) (.slice a1 A c1) A (fcs (M.take A)) (by simp [Act.eval]) OWN1.out ⟨w4.heap.size, 0, none⟩ 1 1 (fc (l, false)) (by simp [Act.eval]) rfl NEW1 (fc_one _) (by unfold maxLen; omega) (by omega) (by simp; omega) ?_))
        intro v2 w5 o2 g2 _
        obtain ⟨a2, c2, rfl⟩ := own_forms o2
        have B5 := Lib.hid ((B4.out.alloc B4.out.size (.cells #[.int .i64 l, .bool false] 37)).grown g2 (by simp; have := B4.out.size; omega) (fun j ej => by have := (La.own_lt OWN1.out ej).1; have := B3.out.size; omega))
        have F5 := Lib.hid (F3.out.below (((Below.refl w3.heap.size w3).trans (show Below w3.heap.size w3 w5 from by
          have h1 := (show Below w3.heap.size w3 (w4.alloc (.cells #[.int .i64 l, .bool false] 37)) from (Q4.out.alloc Q4.out.size _))
          exact h1.grown g2 (by simp; omega) (fun j ej => (La.own_lt OWN1.out ej).1)))))
        have O2 := Lib.hid o2
        have z5 : w3.heap.size ≤ w5.heap.size := by have := g2.size; simp at this; omega
        clear o2 g2 OWN1 NEW1 bA hh O1
        obtain ⟨S, hS⟩ : ∃ S, S = A + B := ⟨_, rfl⟩
        have hSi : (A : Int) + (B : Int) = (S : Int) := by omega
        have hSm : S ≤ m := by omega
        have FIN := Lib.hid (show ∀ v' w6, w6.ownsRow w3.heap.size 37 2 v' (A + 1 + (m - S)) (fcs (M.take A) ++ fc (l, false) ++ fcs (M.drop S)) → Fi w6 v' (stp M A B l) ∧ (stp M A B l).length ≤ 300 from fun v' w6 h => by
          have hl : (stp M A B l).length = m - B + 1 := by rw [stp_len (by rw [← HM.out]; omega), ← HM.out]
          refine ⟨fi_own (B := w3.heap.size) (t := 37) ?_ (HW3.out F3.out.1), by omega⟩
          rw [hl, show m - B + 1 = A + 1 + (m - S) by omega]
          unfold stp
          rw [fcs_app, fcs_app, ← hS]
          simpa [fcs] using h)
        have lenS : (fcs (M.drop S)).length = (m - S) * 2 := by rw [fcs_len, List.length_drop, ← HM.out]
        have NEW5 := fi_cells (fi_drop F5.out (k := S) (by rw [← HM.out]; omega))
        have BND := Lib.hid (show A + 1 + (m - S) ≤ 301 by omega)
        clear hS
        by_cases hcS : fc9 = S
        · subst hcS
          have hm0 : m = fc9 := by omega
          subst hm0
          go_wp2_with (at_builtin; (refine wpList_append_own _ rfl (.tmp 68) (.tmp 73) 32 rfl w3.heap.size 37 i0 _ 2 16 Try.underlying32 hi hz0 hz1 hz2 rfl (by decide) (.slice a2 (A + 1) c2) (A + 1) (fcs (M.take A) ++ fc (l, false)) (by simp [Act.eval]) O2.out ⟨b, off, none⟩ 0 0 [] (by simp [Act.eval]) rfl (fun j u hj => by simp at hj) (fun u hu => by cases hu) (by unfold maxLen; omega) (by omega) z5 ?_))
          intro v6 w6 o6 g6 _
          have B6 := Lib.hid (B5.out.grown g6 B5.out.size (fun j ej => by have := (La.own_lt O2.out ej).1; have := B3.out.size; omega))
          have F6 := Lib.hid (FIN.out v6 w6 (by have h := o6; rw [show A + 1 + 0 = A + 1 + (m - m) by omega] at h; rw [show fcs (M.drop m) = [] by rw [HM.out, List.drop_length]; rfl, List.append_nil]; exact h))
          clear o6 g6
          go_wp2_with fail
          go_roundw
          case rel => exact ⟨k + 1, _, by go_num, by omega, F6.out.2, Lib.hid F6.out.1, HI3, B6⟩
          case measure => simp [intOf]; omega
        · have hcS2 : S < fc9 := by omega
          go_wp2_with (at_builtin; (refine wpList_append_own _ rfl (.tmp 68) (.tmp 73) 32 rfl w3.heap.size 37 i0 _ 2 16 Try.underlying32 hi hz0 hz1 hz2 rfl (by decide) (.slice a2 (A + 1) c2) (A + 1) (fcs (M.take A) ++ fc (l, false)) (by simp [Act.eval]) O2.out ⟨b, off + S * 2, none⟩ (m - S) (fc9 - S) (fcs (M.drop S)) (by simp [Act.eval]) lenS NEW5 (fcs_one _) (by unfold maxLen; have := BND.out; omega) (by have := BND.out; omega) z5 ?_))
          intro v6 w6 o6 g6 _
          have B6 := Lib.hid (B5.out.grown g6 B5.out.size (fun j ej => by have := (La.own_lt O2.out ej).1; have := B3.out.size; omega))
          have F6 := Lib.hid (FIN.out v6 w6 (by rw [List.append_assoc]; exact o6))
          clear o6 g6
          go_wp2_with fail
          go_roundw
          case rel => exact ⟨k + 1, _, by go_num, by omega, F6.out.2, Lib.hid F6.out.1, HI3, B6⟩
          case measure => simp [intOf]; omega
end Lg
end Go.Proofs.Ythaadpijfkmdiaa
