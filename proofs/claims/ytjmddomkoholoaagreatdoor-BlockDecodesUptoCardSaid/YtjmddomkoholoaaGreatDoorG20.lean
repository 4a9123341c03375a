import Derived.Test.YtjmddomkoholoaaGreatDoorG03

/- The document's side: place. -/
namespace Go.Proofs.YtjmddomkoholoaaGreatDoor
open Go.RowKit
namespace Ch
open Lm Lc Bs Fa Fb

def bef (b : List Nat) (j : Nat) : Int := if j + 1 < b.length then (pb b (p2 b j) j : Int) - 1 else 0

set_option maxRecDepth 100000 in
set_option maxHeartbeats 2000000 in
theorem place16 (w : World) (R : Nat → Prop) (v : Value) (b : List Nat) (O a : Nat) (hS : Src w R v b) (hX : ∀ x ∈ b, x < 256) (hA : Arr w O b.length (bef b)) (ha : a < b.length) (hl : b.length ≤ 17592186044416) :
    Calls Tryz.prog 144 #[v, .slice (some ⟨O, 0, none⟩) b.length b.length, .int .i64 (a : Nat)] w fun e w' => e = .returned (.int .i64 (plc b a)) ∧ ∃ m, w' = w.drewN m := by
  rcases hS with ⟨rfl, _⟩ | ⟨h0, q, off, c, rfl, hc, hR, hcell⟩
  · simp at ha
  obtain ⟨n, hn⟩ : ∃ n, n = b.length := ⟨_, rfl⟩
  by_cases h4 : a + 4 ≤ b.length
  · have HW1 : Hid (∀ k, (∀ q, k ≤ q → q < a → ¬ Same b q a) → pb b (p2 b a) k = 0 → plc b a = -1) := Lib.hid fun k h1 h2 => walk_end h1 h2
    have HW2 : Hid (∀ k p, (∀ q, k ≤ q → q < a → ¬ Same b q a) → pb b (p2 b a) k = p + 1 → ¬ a - p ≤ 65535 → plc b a = -1) := Lib.hid fun k p h1 h2 h3 => walk_far h1 h2 h3
    have HW3 : Hid (∀ k p, k ≤ a → (∀ q, k ≤ q → q < a → ¬ Same b q a) → pb b (p2 b a) k = p + 1 → a - p ≤ 65535 → g b (p + 2) = g b (a + 2) → g b (p + 3) = g b (a + 3) → plc b a = (p : Nat)) := Lib.hid fun k p h1 h2 h3 h5 h6 h7 => walk_hit hX h1 h4 h2 h3 h5 h6 h7
    have HW4 : Hid (∀ k p, (∀ q, k ≤ q → q < a → ¬ Same b q a) → pb b (p2 b a) k = p + 1 → ¬ (g b (p + 2) = g b (a + 2) ∧ g b (p + 3) = g b (a + 3)) → ∀ q, p ≤ q → q < a → ¬ Same b q a) := Lib.hid fun k p h1 h2 h3 => walk_on h1 h2 h3
    have HA : Hid (∀ j, j < b.length → w.cell? ⟨O, j, none⟩ = some (.int .i64 (bef b j))) := Lib.hid fun j hj => (hA.2 j hj).1
    have hba := HA.out a ha
    have hb2 : bef b a = (pb b (p2 b a) a : Int) - 1 := by unfold bef; rw [if_pos (by omega)]
    rw [hb2] at hba
    have HBF : Hid (∀ k p, k ≤ a → pb b (p2 b a) k = p + 1 → p < a ∧ bef b p = (pb b (p2 b a) p : Int) - 1) := Lib.hid fun k p hk h => by
      obtain ⟨h1, h2, _⟩ := pb_succ h
      refine ⟨by omega, ?_⟩
      unfold bef
      rw [if_pos (by omega), h2]
    rw [← hn] at h4 ha hl hc HA hcell ⊢
    have HC := Lib.hid hcell
    obtain ⟨V, hV⟩ : ∃ V, V = pb b (p2 b a) a := ⟨_, rfl⟩
    have HV := Lib.hid hV
    have hVn := pb_le b (p2 b a) a
    rw [← hV] at hba hVn
    have h4i : ¬ (a : Int) + 4 > (n : Int) := by omega
    clear hcell hn hR hX hA hb2 hV h0
    go_enter Tryz.func144, Tryz.ntmps144
    go_wp2_with fail
    go_loopw [7] (fun p wr => ∃ k, k ≤ a ∧ p = .int .i64 ((pb b (p2 b a) k : Int) - 1) ∧ (∀ q, k ≤ q → q < a → ¬ Same b q a) ∧ ∃ m, wr = w.drewN m) (fun p _ => (intOf p + 1).toNat)
    case atStart => exact ⟨a, Nat.le_refl _, by rw [HV.out], fun q h1 h2 => by omega, 0, rfl⟩
    case round =>
      obtain ⟨k, hk, rfl, hno, hm⟩ := hrel
      have HNO := Lib.hid hno
      have HM := Lib.hid hm
      cases hP : pb b (p2 b a) k with
      | zero =>
        have HE := Lib.hid (HW1.out k hno hP)
        clear hno hm hP
        go_wp2_with fail
        go_ret
        exact ⟨by rw [HE.out]; rfl, HM.out⟩
      | succ p =>
        obtain ⟨hpa, hbp⟩ := HBF.out k p hk hP
        have hsl : ((p + 1 : Nat) : Int) - 1 = (p : Int) := by omega
        rw [hsl]
        have HP := Lib.hid hP
        by_cases hf : a - p ≤ 65535
        · have hfi : (a : Int) - (p : Int) ≤ 65535 := by omega
          have e0 : wr.cell? ⟨O, p, none⟩ = some (.int .i64 ((pb b (p2 b a) p : Int) - 1)) := by obtain ⟨m, rfl⟩ := hm; rw [← hbp]; exact HA.out p (by omega)
          have e1 : wr.cell? ⟨q, off + (p + 2), none⟩ = some (.int .u8 (g b (p + 2) : Nat)) := by obtain ⟨m, rfl⟩ := hm; exact HC.out (p + 2) (by omega)
          have e2 : wr.cell? ⟨q, off + (a + 2), none⟩ = some (.int .u8 (g b (a + 2) : Nat)) := by obtain ⟨m, rfl⟩ := hm; exact HC.out (a + 2) (by omega)
          have e3 : wr.cell? ⟨q, off + (p + 3), none⟩ = some (.int .u8 (g b (p + 3) : Nat)) := by obtain ⟨m, rfl⟩ := hm; exact HC.out (p + 3) (by omega)
          have e4 : wr.cell? ⟨q, off + (a + 3), none⟩ = some (.int .u8 (g b (a + 3) : Nat)) := by obtain ⟨m, rfl⟩ := hm; exact HC.out (a + 3) (by omega)
          have H3 := Lib.hid (HW3.out k p hk hno hP hf)
          have H4 := Lib.hid (HW4.out k p hno hP)
          have hVp := pb_le b (p2 b a) p
          obtain ⟨Z, hZ⟩ : ∃ Z, Z = pb b (p2 b a) p := ⟨_, rfl⟩
          have HZ := Lib.hid hZ
          rw [← hZ] at e0 hVp
          obtain ⟨X2, hX2⟩ : ∃ X, X = g b (p + 2) := ⟨_, rfl⟩
          obtain ⟨Y2, hY2⟩ : ∃ X, X = g b (a + 2) := ⟨_, rfl⟩
          obtain ⟨X3, hX3⟩ : ∃ X, X = g b (p + 3) := ⟨_, rfl⟩
          obtain ⟨Y3, hY3⟩ : ∃ X, X = g b (a + 3) := ⟨_, rfl⟩
          rw [← hX2] at e1 H3 H4
          rw [← hY2] at e2 H3 H4
          rw [← hX3] at e3 H3 H4
          rw [← hY3] at e4 H3 H4
          clear hno hm hP hbp hsl hZ hX2 hY2 hX3 hY3
          by_cases c2 : X2 = Y2
          · by_cases c3 : X3 = Y3
            · have HE := Lib.hid (H3.out c2 c3)
              have g2 : ((X2 : Int) == (Y2 : Int)) = true := by rw [beq_iff_eq]; omega
              have g3 : ((X3 : Int) == (Y3 : Int)) = true := by rw [beq_iff_eq]; omega
              clear c2 c3
              go_wp2_with fail
              go_quiet (fail)
              go_wp2_with fail
              go_ret
              refine ⟨by rw [HE.out]; rfl, ?_⟩
              obtain ⟨m, rfl⟩ := HM.out
              exact ⟨m + nq, by rw [World.drewN_drewN]⟩
            · have HN := Lib.hid (H4.out (fun h => c3 h.2))
              have g2 : ((X2 : Int) == (Y2 : Int)) = true := by rw [beq_iff_eq]; omega
              have g3 : ((X3 : Int) == (Y3 : Int)) = false := by rw [beq_eq_false_iff_ne]; omega
              clear c2 c3
              go_wp2_with fail
              go_quiet (fail)
              go_wp2_with fail
              go_roundw
              case rel => exact ⟨p, by omega, by rw [← HZ.out], HN.out, by obtain ⟨m, rfl⟩ := HM.out; exact ⟨m + nq, by rw [World.drewN_drewN]⟩⟩
              case measure => simp [intOf]; omega
          · have HN := Lib.hid (H4.out (fun h => c2 h.1))
            have g2 : ((X2 : Int) == (Y2 : Int)) = false := by rw [beq_eq_false_iff_ne]; omega
            clear c2
            go_wp2_with fail
            go_quiet (fail)
            go_wp2_with fail
            go_roundw
            case rel => exact ⟨p, by omega, by rw [← HZ.out], HN.out, by obtain ⟨m, rfl⟩ := HM.out; exact ⟨m + nq, by rw [World.drewN_drewN]⟩⟩
            case measure => simp [intOf]; omega
        · have HE := Lib.hid (HW2.out k p hno hP hf)
          have hfi : ¬ (a : Int) - (p : Int) ≤ 65535 := by omega
          clear hno hm hP hbp hsl
          go_wp2_with fail
          go_ret
          exact ⟨by rw [HE.out]; rfl, HM.out⟩
  · have HE := Lib.hid (plc_none (latest_end (b := b) (a := a) (by omega)))
    rw [← hn] at h4 ha hl ⊢
    have h4i : (a : Int) + 4 > (n : Int) := by omega
    clear hcell hn hR hX hA h0 hc
    go_enter Tryz.func144, Tryz.ntmps144
    go_wp2_with fail
    go_ret
    exact ⟨by rw [HE.out]; rfl, 0, rfl⟩
end Ch
end Go.Proofs.YtjmddomkoholoaaGreatDoor

/- The document's Pack. -/
namespace Go.Proofs.YtjmddomkoholoaaGreatDoor
open Go.RowKit
namespace Pb
open Lm Lc Bs Fa Fb Ch Pa

/-- What holds ahead of each round of the document's Pack. -/
def Rel (w wr : World) (b : List Nat) (O B o a : Nat) (p t : Value) (out : List Nat) : Prop :=
  wr.ownsRow B 5 1 p out.length (u8s out) ∧ wr.ownsRow B 5 1 t (mid b o a).length (u8s (mid b o a)) ∧ (∀ k, p.ownBlock = some k → t.ownBlock ≠ some k) ∧ Arr wr O b.length (bef b) ∧ Below w.heap.size w wr ∧ (B ≤ wr.heap.size ∧ O < B ∧ w.heap.size ≤ B) ∧ out ++ rest b o a = packs b ∧ out.length ≤ 2 * o

theorem rel_plain {w wr w' : World} {b : List Nat} {O B o a : Nat} {p t t' : Value} {out : List Nat} (h : Rel w wr b O B o a p t out) (hoa : o ≤ a) (ha : a < b.length) (hla : latest b a = none) (hg : Gr wr w' t t') (ho : w'.ownsRow B 5 1 t' ((mid b o a).length + 1) (u8s (mid b o a) ++ [.int .u8 (g b a : Nat)])) : Rel w w' b O B o (a + 1) p t' out := by
  obtain ⟨h1, h2, h3, h4, h5, ⟨h6, h7, h8⟩, h9, h10⟩ := h
  have ht : ∀ k, t.ownBlock = some k → B ≤ k := fun k e => (h2.lt k e).1
  refine ⟨own_block h1 fun k e => hg.block (h1.lt k e).2 (h3 k e), ?_, fun k e => own_ne hg.2 (h3 k e) (h1.lt k e).2, h4.of_block (hg.block h4.1 fun e => by have := ht O e; omega) hg.size, h5.trans (hg.below (by omega) fun k e => by have := ht k e; omega), ⟨Nat.le_trans h6 hg.size, h7, h8⟩, by rw [← rest_none ha hla]; exact h9, h10⟩
  rw [mid_step hoa ha, u8s_snoc, List.length_append]
  exact ho
theorem rel_out {w wr w' : World} {b : List Nat} {O B o a : Nat} {p p' t : Value} {out : List Nat} (h : Rel w wr b O B o a p t out) (hg : Gr wr w' p p') : Arr w' O b.length (bef b) ∧ Below w.heap.size w w' ∧ (B ≤ w'.heap.size ∧ O < B ∧ w.heap.size ≤ B) := by
  obtain ⟨h1, h2, h3, h4, h5, ⟨h6, h7, h8⟩, h9, h10⟩ := h
  have ht : ∀ k, p.ownBlock = some k → B ≤ k := fun k e => (h1.lt k e).1
  exact ⟨h4.of_block (hg.block h4.1 fun e => by have := ht O e; omega) hg.size, h5.trans (hg.below (by omega) fun k e => by have := ht k e; omega), ⟨Nat.le_trans h6 hg.size, h7, h8⟩⟩

theorem rel_drewN {w wr : World} {b : List Nat} {O B o a : Nat} {p t : Value} {out : List Nat} (h : Rel w wr b O B o a p t out) (m : Nat) : Rel w (wr.drewN m) b O B o a p t out := by
  obtain ⟨h1, h2, h3, h4, h5, h6, h9, h10⟩ := h
  exact ⟨own_block h1 fun _ _ => rfl, own_block h2 fun _ _ => rfl, h3, h4.drewN m, below_drewN h5 m, h6, h9, h10⟩

theorem rel_copy {w w4 w5 : World} {b : List Nat} {O B o a N D : Nat} {r3 r5 : Value} {out : List Nat} (h3 : Arr w4 O b.length (bef b) ∧ Below w.heap.size w w4 ∧ (B ≤ w4.heap.size ∧ O < B ∧ w.heap.size ≤ B)) (ho3 : ∀ k, r3.ownBlock = some k → B ≤ k) (hg : Gr w4 w5 r3 r5)
    (ho5 : w5.ownsRow B 5 1 r5 (out ++ own (mid b o a) ++ cp D N).length (u8s (out ++ own (mid b o a) ++ cp D N))) (heq : out ++ rest b o a = packs b) (hr : rest b o a = own (mid b o a) ++ (cp D N ++ rest b (a + N) (a + N))) (hlen : out.length ≤ 2 * o) (hml : (mid b o a).length = a - o) (hoa : o ≤ a) (hN : 4 ≤ N) :
    Rel w w5 b O B (a + N) (a + N) r5 (.slice none 0 0) (out ++ own (mid b o a) ++ cp D N) := by
  obtain ⟨h4, h5, h6, h7, h8⟩ := h3
  refine ⟨ho5, by rw [mid_self]; exact World.ownsRow_nil _ _ _ _, fun k _ e => (by cases e), h4.of_block (hg.block h4.1 fun e => by have := ho3 O e; omega) hg.size, h5.trans (hg.below (by omega) fun k e => by have := ho3 k e; omega), ⟨Nat.le_trans h6 hg.size, h7, h8⟩, by rw [← heq, hr]; simp, ?_⟩
  have := own_len (mid b o a)
  rw [hml] at this
  simp only [List.length_append, cp, List.length_cons, List.length_nil]
  omega

set_option maxRecDepth 100000 in
set_option maxHeartbeats 4000000 in
theorem refpack8 (w : World) (R : Nat → Prop) (v : Value) (b : List Nat) (hS : Src w R v b) (hX : ∀ x ∈ b, x < 256) (hl : b.length ≤ 17592186044416) :
    Calls Tryz.prog 107 #[v] w fun e w' => ∃ r, e = .returned r ∧ w'.ownsRow w.heap.size 5 1 r (packs b).length (u8s (packs b)) ∧ Below w.heap.size w w' := by
  obtain ⟨i0, hi, hz0, hz1, hz2⟩ := info_parts info5
  have hS1 := src_lt hS
  clear hS
  have F15 := Lib.hid (chains15 w _ v b hS1 (fun k hk => hk) hX hl)
  have F16 : Hid (∀ x O a, Below w.heap.size w x → Arr x O b.length (bef b) → a < b.length → Calls Tryz.prog 144 #[v, .slice (some ⟨O, 0, none⟩) b.length b.length, .int .i64 (a : Nat)] x fun e w' => e = .returned (.int .i64 (plc b a)) ∧ ∃ m, w' = x.drewN m) :=
    Lib.hid fun x O a h1 h2 h3 => place16 x (fun k => k < w.heap.size) v b O a (hS1.below h1 fun k hk => hk) hX h2 h3 hl
  have F17 : Hid (∀ x B p t pre l, x.ownsRow B 5 1 p pre.length (u8s pre) → x.ownsRow B 5 1 t l.length (u8s l) → (∀ k, p.ownBlock = some k → t.ownBlock ≠ some k) → B ≤ x.heap.size → pre.length + 2 * l.length ≤ 70368744177664 → Calls Tryz.prog 145 #[p, t] x fun e w' => ∃ r, e = .returned r ∧ w'.ownsRow B 5 1 r (pre ++ own l).length (u8s (pre ++ own l)) ∧ Gr x w' p r) :=
    Lib.hid fun x B p t pre l h1 h2 h3 h4 h5 => flush17 x B (fun k => B ≤ k ∧ t.ownBlock = some k) p t pre l h1 (src_own h2) (fun k hk => ⟨fun e => h3 k e hk.2, (h2.lt k hk.2).2⟩) h4 h5
  obtain ⟨ad, c, hv⟩ := hS1.forms
  obtain ⟨n, hn⟩ : ∃ n, n = b.length := ⟨_, rfl⟩
  have HS := Lib.hid hS1
  subst hv
  rw [← hn] at hl F15 F16 HS ⊢
  have HN := Lib.hid hn
  have HX := Lib.hid hX
  clear hS1 hX hn
  go_enter Tryz.func107, Tryz.ntmps107
  go_wp2_with (go_at_call 143; refine F15.out.mono ?_; rintro e w1 ⟨O, rfl, ha1, ho1, hb1⟩)
  have R1 : Hid (Rel w w1 b O w1.heap.size 0 0 (.slice none 0 0) (.slice none 0 0) []) := Lib.hid ⟨World.ownsRow_nil _ _ _ _, by rw [mid_self]; exact World.ownsRow_nil _ _ _ _, fun k e => by simp [Value.ownBlock] at e, by have h := HN.out; rw [← h]; exact ha1.ext fun j hj => by unfold bef; rw [← h], hb1, ⟨Nat.le_refl _, ha1.1, hb1.size⟩, rfl, by simp⟩
  obtain ⟨B, hB⟩ : ∃ B, B = w1.heap.size := ⟨_, rfl⟩
  rw [← hB] at R1
  clear ha1 ho1 hb1 hB
  go_loopw [3, 4, 6] (fun p t a' wr => ∃ o a out, o ≤ a ∧ a ≤ n ∧ a' = .int .i64 (a : Nat) ∧ Rel w wr b O B o a p t out) (fun _ _ a' _ => n - (intOf a').toNat)
  case atStart => exact ⟨0, 0, [], Nat.le_refl _, Nat.zero_le _, rfl, R1.out⟩
  case round =>
    obtain ⟨o, a, out, hoa, han, rfl, hR⟩ := hrel
    by_cases hlt : a < n
    · have F16a := Lib.hid (F16.out wr O a hR.2.2.2.2.1 (by have h := HN.out; have := hR.2.2.2.1; rw [← h] at this; exact this) hlt)
      have HR := Lib.hid hR
      clear hR
      have hsrc := HS.out.below HR.out.2.2.2.2.1 (fun k hk => hk)
      rcases hsrc with ⟨rfl, _⟩ | ⟨h0, q, off, c', he, hnc, hq, hcell⟩
      · have := HN.out; simp at this; omega
      injection he with e1 e2 e3
      subst e1
      subst e3
      have hnc' : n ≤ c := by have := HN.out; omega
      have HCE : Hid (∀ x m, x = wr.drewN m → ∀ i, i < n → x.cell? ⟨q, off + i, none⟩ = some (.int .u8 (g b i : Nat))) := Lib.hid fun x m hx i hi => by subst hx; exact hcell i (by have := HN.out; omega)
      clear hcell hq h0 e2 hnc
      cases hla : latest b a with
      | none =>
        rw [plc_none hla] at F16a
        have HLA := Lib.hid hla
        clear hla
        go_wp2_with fail
        refine F16a.out.mono ?_
        rintro e w2 ⟨rfl, m, hm⟩
        have HM2 := Lib.hid hm
        clear hm
        have R2 : Hid (Rel w w2 b O B o a u3 u4 out) := Lib.hid (by rw [HM2.out]; exact rel_drewN HR.out m)
        have e1 := HCE.out w2 m HM2.out a hlt
        have hown := R2.out.2.1
        have hbs := R2.out.2.2.2.2.2.1.1
        obtain ⟨K, hK⟩ : ∃ K, K = (mid b o a).length := ⟨_, rfl⟩
        have hK2 : K ≤ n := by rw [hK, mid_len (by have := HN.out; omega)]; omega
        obtain ⟨P, hP⟩ : ∃ P, P = u8s (mid b o a) := ⟨_, rfl⟩
        obtain ⟨X, hX⟩ : ∃ X, X = g b a := ⟨_, rfl⟩
        have HKP : Hid (K = (mid b o a).length ∧ P = u8s (mid b o a) ∧ X = g b a) := Lib.hid ⟨hK, hP, hX⟩
        rw [← hK, ← hP] at hown
        rw [← hX] at e1
        clear hK hP hX
        go_wp2_with (at_builtin; refine wpList_append_own_at _ rfl (.tmp 21) (.tmp 26) 22 rfl B 5 i0 (.int .u8 0) 1 1 Tryz.underlying22 hi hz0 hz1 hz2 rfl (by decide) _ K _ rfl (hown.alloc _) ⟨w2.heap.size, 0, none⟩ 1 1 [.int .u8 (X : Nat)] rfl rfl ?c1 ?c2 ?c3 ?c4 ?c5 ?_)
        case c1 => exact cell_one_new _ _ _
        case c2 => intro u hu; simp at hu; subst hu; rfl
        case c3 => unfold maxLen; omega
        case c4 => omega
        case c5 => simp; omega
        intro t3 w3 hown3 hgrow3 _ hat3
        have G3 := Lib.hid (gr_alloc _ (gr_at hgrow3 (by simpa using hat3)))
        have R3 : Hid (Rel w w3 b O B o (a + 1) u3 t3 out) := Lib.hid (by
          obtain ⟨k1, k2, k3⟩ := HKP.out
          rw [k1, k2, k3] at hown3
          exact rel_plain R2.out hoa (by have := HN.out; omega) HLA.out G3.out hown3)
        clear hown3 hgrow3 hat3 hown e1 hbs
        go_wp2_with fail
        go_roundw
        case rel => exact ⟨o, a + 1, out, by omega, by omega, by go_num, R3.out⟩
        case measure => simp [intOf]; omega
      | some p =>
        have hsp := latest_spec hla
        have hbl := HN.out
        have hRS := Lib.hid (rest_some (o := o) (by omega) hla)
        have hal := alike_le b p a
        have hal4 := alike_ge hsp.2.2.1 hsp.1
        have HALS : Hid (∀ k, k < alike b p a → g b (p + k) = g b (a + k)) := Lib.hid fun k hk => (al_spec (b := b) (m := min (b.length - a) 131) (p := p) (a := a)).2 k hk
        have HAST : Hid (∀ k, k = alike b p a → k = 131 ∨ a + k = n ∨ g b (p + k) ≠ g b (a + k)) := Lib.hid fun k hk => by
          by_cases hm : k < min (b.length - a) 131
          · have h := al_stop (b := b) (m := min (b.length - a) 131) (p := p) (a := a) (by unfold alike at hk; omega)
            have hk' : al b p a (min (b.length - a) 131) = k := hk.symm
            rw [hk'] at h
            exact .inr (.inr h)
          · omega
        rw [plc_some hla] at F16a
        have hpa : p < a := hsp.2.1
        have hD2 := hsp.2.2.2
        have hml : (mid b o a).length = a - o := mid_len (by omega)
        obtain ⟨N, hN⟩ : ∃ N, N = alike b p a := ⟨_, rfl⟩
        obtain ⟨D, hD⟩ : ∃ D, D = a - p := ⟨_, rfl⟩
        have hDi : (a : Int) - (p : Int) = (D : Int) := by omega
        rw [← hN] at hRS hal hal4 HALS HAST
        rw [← hD] at hRS hD2
        have haN : a + N ≤ n := by omega
        have HML := Lib.hid hml
        have hol : out.length ≤ 2 * o := HR.out.2.2.2.2.2.2.2
        have hb1 : out.length + 2 * (a - o) ≤ 70368744177664 := by omega
        clear hla hsp hbl hN hD hml
        go_wp2_with (go_at_call 144; refine F16a.out.mono ?_; rintro e w2 ⟨rfl, m, hm⟩; have HM2 := Lib.hid hm; clear hm)
        have R2 : Hid (Rel w w2 b O B o a u3 u4 out) := Lib.hid (by rw [HM2.out]; exact rel_drewN HR.out m)
        refine (F17.out w2 B u3 u4 out (mid b o a) R2.out.1 R2.out.2.1 R2.out.2.2.1 R2.out.2.2.2.2.2.1.1 (by rw [HML.out]; exact hb1)).mono ?_
        rintro e w3 ⟨r3, rfl, o3, g3⟩
        have O3 := Lib.hid o3
        have Q3 := Lib.hid (rel_out R2.out g3)
        have HC3 : Hid (∀ x m, x = w3.drewN m → ∀ i, i < n → x.cell? ⟨q, off + i, none⟩ = some (.int .u8 (g b i : Nat))) := Lib.hid fun x m' hx i hi => by
          subst hx
          obtain ⟨m, hm⟩ : ∃ m, w2 = wr.drewN m := ⟨m, HM2.out⟩
          have hc := HCE.out w2 m hm i hi
          have hqb : q < w.heap.size := by
            rcases HS.out with ⟨hb0, _⟩ | ⟨h0, q', off', c'', he, _, hq', _⟩
            · have := HN.out; rw [hb0] at this; simp at this; omega
            · injection he with h1 _ _
              cases h1
              exact hq'
          exact (World.cell?_of_block (g3.block (cell_lt hc) (fun e => by have := (R2.out.1.lt q e).1; have := R2.out.2.2.2.2.2.1.2.2; omega))).trans hc
        clear o3 g3
        go_wp2_with fail
        have h1 : 128 + (N : Int) - 4 = ((124 + N : Nat) : Int) := by omega
        have h2 : (D : Int) / 256 = ((D / 256 : Nat) : Int) := by omega
        have h3 : (D : Int) % 256 = ((D % 256 : Nat) : Int) := by omega
        obtain ⟨K, hK⟩ : ∃ K, K = (out ++ own (mid b o a)).length := ⟨_, rfl⟩
        obtain ⟨P, hP⟩ : ∃ P, P = u8s (out ++ own (mid b o a)) := ⟨_, rfl⟩
        have hK2 : K ≤ out.length + 2 * (a - o) := by have := own_len (mid b o a); rw [HML.out] at this; rw [hK, List.length_append]; omega
        obtain ⟨X, hX⟩ : ∃ X, X = 124 + N := ⟨_, rfl⟩
        obtain ⟨Y, hY⟩ : ∃ Y, Y = D / 256 := ⟨_, rfl⟩
        obtain ⟨Z, hZ⟩ : ∃ Z, Z = D % 256 := ⟨_, rfl⟩
        have hX2 : X < 256 := by omega
        have hY2 : Y < 256 := by omega
        have hZ2 : Z < 256 := by omega
        rw [← hX] at h1
        rw [← hY] at h2
        rw [← hZ] at h3
        have HPT : Hid (u8s (out ++ own (mid b o a) ++ cp D N) = P ++ [.int .u8 (X : Nat), .int .u8 (Y : Nat), .int .u8 (Z : Nat)] ∧ (out ++ own (mid b o a) ++ cp D N).length = K + 3) := Lib.hid ⟨by rw [u8s_app, hP, hX, hY, hZ]; rfl, by rw [List.length_append, hK]; rfl⟩
        have O3' : Hid (w3.ownsRow B 5 1 r3 K P) := Lib.hid (by rw [hK, hP]; exact O3.out)
        have hKb : K ≤ 70368744177664 := by omega
        clear hX hY hZ hK hP hK2 O3
        obtain ⟨wo, rfl⟩ : ∃ wo : World, wo = wr := ⟨_, rfl⟩
        go_loopw [8] (fun n' wx => ∃ k, k ≤ N ∧ n' = .int .i64 (k : Nat) ∧ ∃ m, wx = w3.drewN m) (fun n' _ => N - (intOf n').toNat)
        case atStart => exact ⟨4, hal4, rfl, 0, rfl⟩
        case round =>
          obtain ⟨k, hk, rfl, m, hm⟩ := hrel
          have i1 : (0 : Int) ≤ (p : Int) + (k : Int) := by omega
          have i3 : ((p : Int) + (k : Int)).toNat = p + k := by omega
          have i4 : (0 : Int) ≤ (a : Int) + (k : Int) := by omega
          have i6 : ((a : Int) + (k : Int)).toNat = a + k := by omega
          by_cases hkN : k < N
          · have e1 := HC3.out wr m hm (p + k) (by omega)
            have e2 := HC3.out wr m hm (a + k) (by omega)
            rw [← HALS.out k hkN] at e2
            obtain ⟨V, hV⟩ : ∃ V, V = g b (p + k) := ⟨_, rfl⟩
            rw [← hV] at e1 e2
            have g1 : decide ((k : Int) < 131) = true := by simp; omega
            have g2 : decide ((a : Int) + (k : Int) < (n : Int)) = true := by simp; omega
            have i2 : (p : Int) + (k : Int) < (n : Int) := by omega
            have i5 : (a : Int) + (k : Int) < (n : Int) := by omega
            have HM := Lib.hid hm
            clear hV hm
            go_wp2_with fail
            go_quiet (fail)
            go_wp2_with fail
            go_roundw
            case rel => exact ⟨k + 1, by omega, by go_num, m + nq, by rw [HM.out, World.drewN_drewN]⟩
            case measure => simp [intOf]; omega
          · obtain rfl : k = N := by omega
            have hst : ¬ k < 131 ∨ (k < 131 ∧ a + k = n) ∨ (k < 131 ∧ a + k < n ∧ g b (p + k) ≠ g b (a + k)) := by
              rcases HAST.out k rfl with h | h | h
              · exact .inl (by omega)
              · by_cases h' : k < 131
                · exact .inr (.inl ⟨h', h⟩)
                · exact .inl h'
              · by_cases h' : k < 131
                · by_cases h'' : a + k < n
                  · exact .inr (.inr ⟨h', h'', h⟩)
                  · exact .inr (.inl ⟨h', by omega⟩)
                · exact .inl h'
            have HM := Lib.hid hm
            rcases hst with hst | ⟨hst, hst2⟩ | ⟨hst, hst2, hst3⟩
            case' inl =>
              have g1 : decide ((k : Int) < 131) = false := by simp; omega
              clear hm
              go_wp2_with fail
              go_quiet (fail)
            case' inr.inl =>
              have g1 : decide ((k : Int) < 131) = true := by simp; omega
              have g2 : decide ((a : Int) + (k : Int) < (n : Int)) = false := by simp; omega
              clear hm
              go_wp2_with fail
              go_quiet (fail)
            case' inr.inr =>
              have e1 := HC3.out wr m hm (p + k) (by omega)
              have e2 := HC3.out wr m hm (a + k) (by omega)
              obtain ⟨V, hV⟩ : ∃ V, V = g b (p + k) := ⟨_, rfl⟩
              obtain ⟨W, hW⟩ : ∃ W, W = g b (a + k) := ⟨_, rfl⟩
              rw [← hV] at e1 hst3
              rw [← hW] at e2 hst3
              have g1 : decide ((k : Int) < 131) = true := by simp; omega
              have g2 : decide ((a : Int) + (k : Int) < (n : Int)) = true := by simp; omega
              have g3 : ((V : Int) == (W : Int)) = false := by rw [beq_eq_false_iff_ne]; omega
              have i2 : (p : Int) + (k : Int) < (n : Int) := by omega
              have i5 : (a : Int) + (k : Int) < (n : Int) := by omega
              clear hm hV hW hst3
              go_wp2_with fail
              go_quiet (fail)
            all_goals
              obtain ⟨w4, hw4⟩ : ∃ w4, w4 = wr.drewN nq := ⟨_, rfl⟩
              have hw : w4 = w3.drewN (m + nq) := by rw [hw4, HM.out, World.drewN_drewN]
              have O4 : Hid (w4.ownsRow B 5 1 r3 K P) := Lib.hid (by rw [hw]; exact own_block O3'.out fun _ _ => rfl)
              have Q4 : Hid (Arr w4 O b.length (bef b) ∧ Below w.heap.size w w4 ∧ (B ≤ w4.heap.size ∧ O < B ∧ w.heap.size ≤ B)) := Lib.hid (by rw [hw]; exact ⟨Q3.out.1.drewN _, below_drewN Q3.out.2.1 _, Q3.out.2.2⟩)
              rw [← hw4]
              clear hw4 hw
              have hown := O4.out
              have hbs := Q4.out.2.2.1
              go_wp2_with (at_builtin; refine wpList_append_own_at _ rfl (.tmp 60) (.tmp 74) 22 rfl B 5 i0 (.int .u8 0) 1 1 Tryz.underlying22 hi hz0 hz1 hz2 rfl (by decide) _ K _ rfl (hown.alloc _) ⟨w4.heap.size, 0, none⟩ 3 3 [.int .u8 (X : Nat), .int .u8 (Y : Nat), .int .u8 (Z : Nat)] rfl rfl (cells_new _ _ _) (by intro u hu; simp at hu; rcases hu with rfl | rfl | rfl <;> rfl) (by unfold maxLen; omega) (by omega) (by simp; omega) ?_)
              intro r5 w5 hown5 hgrow5 _ hat5
              have R5 : Hid (Rel w w5 b O B (a + k) (a + k) r5 (.slice none 0 0) (out ++ own (mid b o a) ++ cp D k)) := Lib.hid (rel_copy Q4.out (fun k e => (O4.out.lt k e).1) (gr_alloc _ (gr_at hgrow5 (by simpa using hat5))) (by rw [HPT.out.1, HPT.out.2]; exact hown5) R2.out.2.2.2.2.2.2.1 hRS.out hol HML.out hoa hal4)
              clear hgrow5 hat5 hown hown5 hbs
              go_wp2_with fail
              go_roundw
              case rel => exact ⟨a + k, a + k, _, Nat.le_refl _, haN, by go_num, R5.out⟩
              case measure => simp [intOf]; omega
    · obtain rfl : a = n := by omega
      have hol := hR.2.2.2.2.2.2.2
      have hml : (mid b o a).length = a - o := mid_len (by have := HN.out; omega)
      have HE : Hid (out ++ own (mid b o a) = packs b) := Lib.hid (by
        have h := HN.out
        rw [← hR.2.2.2.2.2.2.1, rest_end (by omega), h, mid_end])
      have F17a := Lib.hid (F17.out wr B u3 u4 out (mid b o a) hR.1 hR.2.1 hR.2.2.1 hR.2.2.2.2.2.1.1 (by rw [hml]; omega))
      have HR := Lib.hid hR
      clear hR hml
      go_wp2_with fail
      refine F17a.out.mono ?_
      rintro e w2 ⟨r, rfl, ho, hg⟩
      have HO := Lib.hid ho
      have HB := Lib.hid (rel_out HR.out hg)
      clear ho hg
      go_wp2_with fail
      go_ret
      refine ⟨r, rfl, ?_, HB.out.2.1⟩
      have h := HO.out
      rw [HE.out] at h
      exact Go.Joins.ownsRow_le h HB.out.2.2.2.2
end Pb
end Go.Proofs.YtjmddomkoholoaaGreatDoor
