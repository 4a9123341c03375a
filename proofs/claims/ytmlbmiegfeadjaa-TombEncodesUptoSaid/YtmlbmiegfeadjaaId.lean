/- Tombs read out of bytes: plain mathematics. -/
import Derived.Test.YtmlbmiegfeadjaaIb
namespace Go.Proofs.Ytmlbmiegfeadjaa
open Go.RowKit
namespace Ix
open Jb hiding Own
open Ga Gm Gt
open Mt (eight eight_lt num8)
open Ia Ib

def n2 (bs : List Nat) (p : Nat) : Nat := bs.getD p 0 * 256 + bs.getD (p + 1) 0
/-- The text at p, and where it ends; none with more than m bytes, or where there is too little. -/
def gtx (m : Nat) (bs : List Nat) (p : Nat) : Option (ByteArray × Nat) :=
  if p + 2 ≤ bs.length ∧ n2 bs p ≤ m ∧ p + 2 + n2 bs p ≤ bs.length then some (str ((bs.drop (p + 2)).take (n2 bs p)), p + 2 + n2 bs p) else none
def gtb (m : Nat) (bs : List Nat) (p : Nat) : Option (Tmb × Nat) :=
  (gtx m bs p).bind fun a => (gtx m bs a.2).bind fun b => if b.2 + 16 ≤ bs.length then some ((a.1, b.1, wrap64 (num8 bs b.2), wrap64 (num8 bs (b.2 + 8))), b.2 + 16) else none
/-- Where k tombs end, and they. -/
def it (m : Nat) (bs : List Nat) : Nat → Option (Nat × List Tmb)
  | 0 => some (0, [])
  | k + 1 => (it m bs k).bind fun a => if a.1 < bs.length then (gtb m bs a.1).map fun t => (t.2, a.2 ++ [t.1]) else none
theorem getD_pre {a b c : List Nat} {j : Nat} (h : j < b.length) : (a ++ b ++ c).getD (a.length + j) 0 = b.getD j 0 := by
  rw [List.append_assoc, Ia.getD_app_right, Ia.getD_app_left h]
theorem n2_two {a c : List Nat} {n : Nat} (hn : n < 65536) {r : List Nat} : n2 (a ++ (two n ++ r) ++ c) a.length = n := by
  unfold n2
  have h0 := getD_pre (a := a) (b := two n ++ r) (c := c) (j := 0) (by simp [two])
  have h1 := getD_pre (a := a) (b := two n ++ r) (c := c) (j := 1) (by simp [two])
  rw [Nat.add_zero] at h0
  rw [h0, h1]
  simp [two]
  omega
theorem gtx_enc {m : Nat} (a c : List Nat) (S : ByteArray) (h1 : S.size ≤ m) (h2 : S.size < 65536) : gtx m (a ++ txt S ++ c) a.length = some (S, a.length + (txt S).length) := by
  have hn : n2 (a ++ txt S ++ c) a.length = S.size := n2_two h2
  have hl := txt_len S
  unfold gtx
  rw [hn, if_pos ⟨by simp only [List.length_append]; omega, h1, by simp only [List.length_append]; omega⟩]
  have e : ((a ++ txt S ++ c).drop (a.length + 2)).take S.size = nums S := by
    rw [List.append_assoc, ← List.drop_drop, List.drop_left]
    have e2 : (txt S ++ c).drop 2 = nums S ++ c := by
      show ([_, _] ++ nums S ++ c).drop 2 = _
      rfl
    rw [e2, ← nums_len S, List.take_left]
  rw [e, str_nums, hl]
  congr 2; omega
theorem num8_eight {a c : List Nat} {x : Nat} (hx : x < 18446744073709551616) : num8 (a ++ eight x ++ c) a.length = x := by
  have g : ∀ j, j < 8 → (a ++ eight x ++ c).getD (a.length + j) 0 = (eight x).getD j 0 := fun j hj => getD_pre (by simpa [eight] using hj)
  have g0 := g 0 (by decide)
  rw [Nat.add_zero] at g0
  unfold num8
  rw [g0, g 1 (by decide), g 2 (by decide), g 3 (by decide), g 4 (by decide), g 5 (by decide), g 6 (by decide), g 7 (by decide)]
  simp [eight]
  omega
theorem wrap_ut {x : Int} (h : -9223372036854775808 ≤ x ∧ x ≤ 9223372036854775807) : wrap64 ((ut x : Nat) : Int) = x := by unfold wrap64 ut; omega
theorem gtb_enc {m : Nat} (a c : List Nat) (x : Tmb) (h1 : x.1.size ≤ m) (h2 : x.2.1.size ≤ m) (hm : m < 65536) (hw : Wt x) : gtb m (a ++ enc x ++ c) a.length = some (x, a.length + (enc x).length) := by
  obtain ⟨s, f, lo, hi⟩ := x
  simp only at h1 h2
  have hs := txt_len s
  have hf := txt_len f
  have g1 := gtx_enc (m := m) a (txt f ++ eight (ut lo) ++ eight (ut hi) ++ c) s h1 (by omega)
  have g2 := gtx_enc (m := m) (a ++ txt s) (eight (ut lo) ++ eight (ut hi) ++ c) f h2 (by omega)
  have g3 := num8_eight (a := a ++ txt s ++ txt f) (c := eight (ut hi) ++ c) (ut_lt lo)
  have g4 := num8_eight (a := a ++ txt s ++ txt f ++ eight (ut lo)) (c := c) (ut_lt hi)
  have E1 : a ++ txt s ++ (txt f ++ eight (ut lo) ++ eight (ut hi) ++ c) = a ++ enc (s, f, lo, hi) ++ c := by simp only [enc, List.append_assoc]
  have E2 : a ++ txt s ++ txt f ++ (eight (ut lo) ++ eight (ut hi) ++ c) = a ++ enc (s, f, lo, hi) ++ c := by simp only [enc, List.append_assoc]
  have E3 : a ++ txt s ++ txt f ++ eight (ut lo) ++ (eight (ut hi) ++ c) = a ++ enc (s, f, lo, hi) ++ c := by simp only [enc, List.append_assoc]
  have E4 : a ++ txt s ++ txt f ++ eight (ut lo) ++ eight (ut hi) ++ c = a ++ enc (s, f, lo, hi) ++ c := by simp only [enc, List.append_assoc]
  rw [E1] at g1
  rw [E2] at g2
  rw [E3] at g3
  rw [E4] at g4
  have hl := enc_len (s, f, lo, hi)
  have l1 : (a ++ txt s).length = a.length + (txt s).length := List.length_append
  have l2 : (a ++ txt s ++ txt f).length = a.length + (txt s).length + (txt f).length := by rw [List.length_append, List.length_append]
  have l3 : (a ++ txt s ++ txt f ++ eight (ut lo)).length = a.length + (txt s).length + (txt f).length + 8 := by rw [List.length_append, l2]; rfl
  rw [l1] at g2
  rw [l2] at g3
  rw [l3] at g4
  unfold gtb
  rw [g1, Option.bind_some]
  simp only
  rw [g2, Option.bind_some]
  simp only
  simp only at hl
  rw [if_pos (by simp only [List.length_append]; omega), g3, g4, wrap_ut hw.1, wrap_ut hw.2]
  congr 2; omega
theorem it_enc {m : Nat} (hm : m < 65536) (L : List Tmb) (hf : ∀ x ∈ L, x.1.size ≤ m ∧ x.2.1.size ≤ m) (hw : ∀ x ∈ L, Wt x) : ∀ k, k ≤ L.length → it m (encL L) k = some ((encL (L.take k)).length, L.take k) := by
  intro k
  induction k with
  | zero => intro _; rfl
  | succ k ih =>
    intro hk
    have hk' : k < L.length := by omega
    have hm' : L.getD k t0 ∈ L := by rw [List.getD_eq_getElem?_getD, List.getElem?_eq_getElem hk']; exact List.getElem_mem _
    have hd : encL L = encL (L.take k) ++ enc (L.getD k t0) ++ encL (L.drop (k + 1)) := by
      rw [← encL_take L hk']
      unfold encL
      rw [← List.flatMap_append, List.take_append_drop]
    have hg := gtb_enc (m := m) (encL (L.take k)) (encL (L.drop (k + 1))) (L.getD k t0) (hf _ hm').1 (hf _ hm').2 hm (hw _ hm')
    rw [← hd] at hg
    show (it m (encL L) k).bind _ = _
    rw [ih (by omega), Option.bind_some]
    simp only
    have hlt : (encL (L.take k)).length < (encL L).length := by
      rw [hd, List.length_append, List.length_append, enc_len]; omega
    rw [if_pos hlt, hg, Option.map_some, encL_take L hk', List.length_append, take_snoc L hk']
theorem it_none {m : Nat} {bs : List Nat} {k : Nat} (h : it m bs k = none) : ∀ j, k ≤ j → it m bs j = none := by
  intro j
  induction j with
  | zero => intro hj; rw [show k = 0 by omega] at h; exact h
  | succ j ih =>
    intro hj
    by_cases e : k = j + 1
    · rw [← e]; exact h
    · show (it m bs j).bind _ = none
      rw [ih (by omega)]; rfl
theorem nums_str {l : List Nat} (h : ∀ b ∈ l, b < 256) : nums (str l) = l := str_inj (nums_lt _) h (str_nums _)
theorem str_size (t : List Nat) : (str t).size = t.length := by
  show (str t).data.size = _
  rw [← Array.length_toList]
  unfold str
  rw [strOfNums_data]
  simp
theorem tk1 {bs : List Nat} {q : Nat} (h : q < bs.length) : bs.take (q + 1) = bs.take q ++ [bs.getD q 0] := by
  rw [List.take_add_one, List.getElem?_eq_getElem h, List.getD_eq_getElem?_getD, List.getElem?_eq_getElem h]; rfl
theorem take_two {bs : List Nat} {p : Nat} (h : p + 2 ≤ bs.length) : bs.take (p + 2) = bs.take p ++ [bs.getD p 0, bs.getD (p + 1) 0] := by
  have e1 := tk1 (bs := bs) (q := p) (by omega)
  have e2 := tk1 (bs := bs) (q := p + 1) (by omega)
  rw [e2, e1, List.append_assoc]; rfl
theorem gd_lt {bs : List Nat} (h : ∀ b ∈ bs, b < 256) (j : Nat) : bs.getD j 0 < 256 := Bm.getD_lt h j
theorem gtx_some {m : Nat} {bs : List Nat} (hX : ∀ b ∈ bs, b < 256) {p p' : Nat} {S : ByteArray} (h : gtx m bs p = some (S, p')) : bs.take p' = bs.take p ++ txt S ∧ S.size ≤ m ∧ p' = p + 2 + S.size ∧ p' ≤ bs.length := by
  unfold gtx at h
  split at h
  · rename_i hc
    obtain ⟨h1, h2, h3⟩ := hc
    injection h with h
    injection h with e1 e2
    have hsz : S.size = n2 bs p := by rw [← e1, str_size, List.length_take, List.length_drop]; omega
    have hn : nums S = (bs.drop (p + 2)).take (n2 bs p) := by
      rw [← e1]
      exact nums_str fun b hb => hX b (List.mem_of_mem_drop (List.mem_of_mem_take hb))
    refine ⟨?_, by omega, by omega, by omega⟩
    rw [← e2, List.take_add, take_two h1, List.append_assoc]
    congr 1
    unfold txt
    rw [hn, hsz]
    congr 1
    have l0 := gd_lt hX p
    have l1 := gd_lt hX (p + 1)
    unfold two n2
    congr 1
    · omega
    · congr 1; omega
  · cases h
theorem take_eight {bs : List Nat} (hX : ∀ b ∈ bs, b < 256) {p : Nat} (h : p + 8 ≤ bs.length) : bs.take (p + 8) = bs.take p ++ eight (num8 bs p) := by
  have s : ∀ q, q + 2 ≤ bs.length → bs.take (q + 2) = bs.take q ++ [bs.getD q 0, bs.getD (q + 1) 0] := fun q hq => take_two hq
  rw [show p + 8 = p + 6 + 2 from rfl, s (p + 6) (by omega), show p + 6 = p + 4 + 2 from rfl, s (p + 4) (by omega), show p + 4 = p + 2 + 2 from rfl, s (p + 2) (by omega), s p (by omega)]
  have l0 := gd_lt hX p
  have l1 := gd_lt hX (p + 1)
  have l2 := gd_lt hX (p + 2)
  have l3 := gd_lt hX (p + 3)
  have l4 := gd_lt hX (p + 4)
  have l5 := gd_lt hX (p + 5)
  have l6 := gd_lt hX (p + 6)
  have l7 := gd_lt hX (p + 7)
  unfold num8
  simp only [Nat.add_assoc]
  generalize bs.getD p 0 = a0 at *
  generalize bs.getD (p + 1) 0 = a1 at *
  generalize bs.getD (p + 2) 0 = a2 at *
  generalize bs.getD (p + 3) 0 = a3 at *
  generalize bs.getD (p + 4) 0 = a4 at *
  generalize bs.getD (p + 5) 0 = a5 at *
  generalize bs.getD (p + 6) 0 = a6 at *
  generalize bs.getD (p + 7) 0 = a7 at *
  simp only [List.append_assoc, List.cons_append, List.nil_append]
  congr 1
  unfold eight
  simp only [List.cons.injEq, and_true]
  refine ⟨?_, ?_, ?_, ?_, ?_, ?_, ?_, ?_⟩ <;> omega
theorem num8_lt {bs : List Nat} (hX : ∀ b ∈ bs, b < 256) (p : Nat) : num8 bs p < 18446744073709551616 := by
  have l0 := gd_lt hX p
  have l1 := gd_lt hX (p + 1)
  have l2 := gd_lt hX (p + 2)
  have l3 := gd_lt hX (p + 3)
  have l4 := gd_lt hX (p + 4)
  have l5 := gd_lt hX (p + 5)
  have l6 := gd_lt hX (p + 6)
  have l7 := gd_lt hX (p + 7)
  unfold num8
  omega
theorem ut_wrap64 {n : Nat} (h : n < 18446744073709551616) : ut (wrap64 (n : Int)) = n := by unfold ut wrap64; omega
theorem wrap_bnd (x : Int) : -9223372036854775808 ≤ wrap64 x ∧ wrap64 x ≤ 9223372036854775807 := by unfold wrap64; omega
theorem gtb_some {m : Nat} {bs : List Nat} (hX : ∀ b ∈ bs, b < 256) {p p' : Nat} {x : Tmb} (h : gtb m bs p = some (x, p')) : bs.take p' = bs.take p ++ enc x ∧ (x.1.size ≤ m ∧ x.2.1.size ≤ m) ∧ Wt x ∧ p + 20 ≤ p' ∧ p' ≤ bs.length := by
  unfold gtb at h
  cases h1 : gtx m bs p with
  | none => rw [h1] at h; cases h
  | some a =>
    obtain ⟨s, p1⟩ := a
    rw [h1, Option.bind_some] at h
    simp only at h
    cases h2 : gtx m bs p1 with
    | none => rw [h2] at h; cases h
    | some b =>
      obtain ⟨f, p2⟩ := b
      rw [h2, Option.bind_some] at h
      simp only at h
      split at h
      · rename_i hc
        injection h with h
        injection h with e1 e2
        subst e1 e2
        obtain ⟨a1, a2, a3, a4⟩ := gtx_some hX h1
        obtain ⟨b1, b2, b3, b4⟩ := gtx_some hX h2
        refine ⟨?_, ⟨a2, b2⟩, ⟨wrap_bnd _, wrap_bnd _⟩, by omega, by omega⟩
        rw [show p2 + 16 = p2 + 8 + 8 from rfl, take_eight hX (by omega), take_eight hX (by omega), b1, a1]
        unfold enc
        simp only [ut_wrap64 (num8_lt hX _), List.append_assoc]
      · cases h
theorem it_some {m : Nat} {bs : List Nat} (hX : ∀ b ∈ bs, b < 256) : ∀ {k p : Nat} {L : List Tmb}, it m bs k = some (p, L) → bs.take p = encL L ∧ (∀ x ∈ L, x.1.size ≤ m ∧ x.2.1.size ≤ m) ∧ (∀ x ∈ L, Wt x) ∧ L.length = k ∧ k * 20 ≤ p ∧ p ≤ bs.length
  | 0, p, L, h => by
    injection h with h
    injection h with e1 e2
    subst e1 e2
    exact ⟨by simp [encL], by simp, by simp, rfl, by omega, by omega⟩
  | k + 1, p, L, h => by
    have h' : (it m bs k).bind _ = some (p, L) := h
    cases h1 : it m bs k with
    | none => rw [h1] at h'; cases h'
    | some a =>
      obtain ⟨q, M⟩ := a
      rw [h1, Option.bind_some] at h'
      simp only at h'
      obtain ⟨c1, c2, c3, c4, c5, c6⟩ := it_some hX h1
      split at h'
      · cases h2 : gtb m bs q with
        | none => rw [h2] at h'; cases h'
        | some t =>
          obtain ⟨x, q'⟩ := t
          rw [h2, Option.map_some] at h'
          injection h' with h'
          injection h' with e1 e2
          subst e1 e2
          obtain ⟨d1, d2, d3, d4, d5⟩ := gtb_some hX h2
          refine ⟨?_, fun y hy => ?_, fun y hy => ?_, by simp [c4], by omega, d5⟩
          · rw [d1, c1]; simp [encL]
          · rcases List.mem_append.1 hy with hy | hy
            · exact c2 y hy
            · obtain rfl : y = x := by simpa using hy
              exact d2
          · rcases List.mem_append.1 hy with hy | hy
            · exact c3 y hy
            · obtain rfl : y = x := by simpa using hy
              exact d3
      · cases h'
theorem it_end {m : Nat} {bs : List Nat} {k p : Nat} {L : List Tmb} (h : it m bs k = some (p, L)) (hs : ¬ p < bs.length ∨ gtb m bs p = none) : it m bs (k + 1) = none := by
  show (it m bs k).bind _ = none
  rw [h, Option.bind_some]
  simp only
  rcases hs with hs | hs
  · rw [if_neg hs]
  · rw [hs]; split <;> rfl
/-- Where reading ends there is one answer. -/
theorem it_unique {m : Nat} {bs : List Nat} {k j p q : Nat} {L M : List Tmb} (h : it m bs k = some (p, L)) (hk : it m bs (k + 1) = none) (g : it m bs j = some (q, M)) (hj : it m bs (j + 1) = none) : p = q ∧ L = M := by
  have e : k = j := by
    rcases Nat.lt_trichotomy k j with c | c | c
    · rw [it_none hk j (by omega)] at g; cases g
    · exact c
    · rw [it_none hj k (by omega)] at h; cases h
  subst e
  rw [h] at g
  injection g with g
  injection g with a b
  exact ⟨a, b⟩
theorem it_all {m : Nat} (hm : m < 65536) {L : List Tmb} (hf : ∀ x ∈ L, x.1.size ≤ m ∧ x.2.1.size ≤ m) (hw : ∀ x ∈ L, Wt x) : it m (encL L) L.length = some ((encL L).length, L) ∧ it m (encL L) (L.length + 1) = none := by
  have h := it_enc hm L hf hw L.length (Nat.le_refl _)
  rw [List.take_length] at h
  exact ⟨h, it_end h (.inl (Nat.lt_irrefl _))⟩
theorem fm_sz {L : List Tmb} (h : fmL L = true) {m : Nat} (hm : 4000 ≤ m) : ∀ x ∈ L, x.1.size ≤ m ∧ x.2.1.size ≤ m := fun x hx => by
  have := List.all_eq_true.1 h x hx
  simp only [fmT, Bool.and_eq_true, decide_eq_true_eq] at this
  omega
/-- What is to be decoded: one list, or none. -/
def Of (bs : List Nat) (L : List Tmb) : Prop := fmL L = true ∧ (∀ x ∈ L, Wt x) ∧ encL L = bs
theorem of_one {bs : List Nat} {L M : List Tmb} (h : Of bs L) (g : Of bs M) : L = M := by
  obtain ⟨a1, a2, rfl⟩ := h
  obtain ⟨b1, b2, e⟩ := g
  obtain ⟨c1, c2⟩ := it_all (m := 4000) (by decide) (fm_sz a1 (Nat.le_refl _)) a2
  obtain ⟨d1, d2⟩ := it_all (m := 4000) (by decide) (fm_sz b1 (Nat.le_refl _)) b2
  rw [e] at d1 d2
  exact (it_unique c1 c2 d1 d2).2
/-- Read wholly. -/
theorem of_done {m : Nat} (hm : m < 65536) (h4 : 4000 ≤ m) {bs : List Nat} (hX : ∀ b ∈ bs, b < 256) {k : Nat} {L : List Tmb} (h : it m bs k = some (bs.length, L)) : (fmL L = true → Of bs L) ∧ (fmL L = false → ∀ M, ¬ Of bs M) := by
  obtain ⟨c1, c2, c3, c4, c5, c6⟩ := it_some hX h
  rw [List.take_length] at c1
  refine ⟨fun hf => ⟨hf, c3, c1.symm⟩, fun hf M hM => ?_⟩
  obtain ⟨b1, b2, e⟩ := hM
  obtain ⟨d1, d2⟩ := it_all hm (fm_sz b1 h4) b2
  rw [e] at d1 d2
  have := (it_unique h (it_end h (.inl (Nat.lt_irrefl _))) d1 d2).2
  rw [this, b1] at hf
  cases hf
theorem of_stuck {m : Nat} (hm : m < 65536) (h4 : 4000 ≤ m) {bs : List Nat} {k p : Nat} {L : List Tmb} (h : it m bs k = some (p, L)) (hp : p < bs.length) (hg : gtb m bs p = none) : ∀ M, ¬ Of bs M := by
  rintro M ⟨b1, b2, e⟩
  obtain ⟨d1, d2⟩ := it_all hm (fm_sz b1 h4) b2
  rw [e] at d1 d2
  have := (it_unique h (it_end h (.inr hg)) d1 d2).1
  omega
theorem of_fm {m : Nat} (hm : m = 4000) {bs : List Nat} (hX : ∀ b ∈ bs, b < 256) {k p : Nat} {L : List Tmb} (h : it m bs k = some (p, L)) : fmL L = true := by
  obtain ⟨_, c2, _⟩ := it_some hX h
  unfold fmL
  rw [List.all_eq_true]
  intro x hx
  have := c2 x hx
  simp only [fmT, Bool.and_eq_true, decide_eq_true_eq]
  omega
end Ix
end Go.Proofs.Ytmlbmiegfeadjaa
