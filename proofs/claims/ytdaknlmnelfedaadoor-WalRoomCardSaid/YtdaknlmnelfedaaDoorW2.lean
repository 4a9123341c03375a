/- A disk's names as a finite set; the sum of all lengths; what a restart leaves. -/
import Derived.Test.YtdaknlmnelfedaaDoorJ4
import Derived.Test.YtdaknlmnelfedaaDoorW1
namespace Go.Proofs.YtdaknlmnelfedaaDoor
namespace W2
open Jg J1 J2 J3 W1

theorem nm_list (s : ByteArray) : nm s.data.toList = s := by unfold nm; simp
/-- The names of all files, in any order. -/
def Cov (F : FT) (l : List (List UInt8)) : Prop := l.Nodup ∧ ∀ x, x ∈ l ↔ F (nm x) ≠ none
def ins (x : List UInt8) : List (List UInt8) → List (List UInt8)
  | [] => [x]
  | y :: r => if x < y then x :: y :: r else y :: ins x r
theorem mem_ins (x z : List UInt8) : ∀ l, z ∈ ins x l ↔ z = x ∨ z ∈ l
  | [] => by simp [ins]
  | y :: r => by
    unfold ins
    split
    · simp
    · simp only [List.mem_cons, mem_ins x z r]
      constructor
      · rintro (h | h | h)
        · exact .inr (.inl h)
        · exact .inl h
        · exact .inr (.inr h)
      · rintro (h | h | h)
        · exact .inr (.inl h)
        · exact .inl h
        · exact .inr (.inr h)
theorem lt_other {x y : List UInt8} (h : x ≠ y) (h2 : ¬ x < y) : y < x := by
  by_cases e : y < x
  · exact e
  · exact absurd (List.le_antisymm (List.not_lt.1 e) (List.not_lt.1 h2)) h
theorem ins_rise (x : List UInt8) : ∀ l, x ∉ l → l.Pairwise (· < ·) → (ins x l).Pairwise (· < ·)
  | [], _, _ => by simp [ins]
  | y :: r, hx, h => by
    obtain ⟨h1, h2⟩ := List.pairwise_cons.1 h
    unfold ins
    split
    · rename_i hxy
      refine List.pairwise_cons.2 ⟨fun z hz => ?_, h⟩
      rcases List.mem_cons.1 hz with e | e
      · subst e; exact hxy
      · exact List.lt_trans hxy (h1 z e)
    · rename_i hxy
      refine List.pairwise_cons.2 ⟨fun z hz => ?_, ins_rise x r (fun e => hx (List.mem_cons_of_mem _ e)) h2⟩
      rcases (mem_ins x z r).1 hz with e | e
      · subst e; exact lt_other (fun e => hx (by rw [e]; exact List.mem_cons_self ..)) hxy
      · exact h1 z e
theorem sorted (l : List (List UInt8)) : ∃ ns : List (List UInt8), ns.Pairwise (· < ·) ∧ ∀ x, x ∈ ns ↔ x ∈ l := by
  induction l with
  | nil => exact ⟨[], List.Pairwise.nil, fun x => Iff.rfl⟩
  | cons y r ih =>
    obtain ⟨ns, h1, h2⟩ := ih
    by_cases hy : y ∈ ns
    · refine ⟨ns, h1, fun x => ?_⟩
      rw [List.mem_cons, h2]
      constructor
      · exact .inr
      · rintro (e | e)
        · subst e; exact (h2 x).1 hy
        · exact e
    · refine ⟨ins y ns, ins_rise y ns hy h1, fun x => ?_⟩
      rw [mem_ins, List.mem_cons, h2]
theorem Cov.names {F : FT} {l : List (List UInt8)} (h : Cov F l) : ∃ ns, Names F ns := by
  obtain ⟨ns, h1, h2⟩ := sorted l
  exact ⟨ns, h1, fun x => (h2 x).trans (h.2 x)⟩
theorem Names.cov {F : FT} {l : List (List UInt8)} (h : Names F l) : Cov F l := ⟨h.nodup, h.2⟩
theorem Cov.tot {F : FT} {l m : List (List UInt8)} (h : Cov F l) (k : Cov F m) : tot F l = tot F m ∧ l.length = m.length := by
  have hp : l.Perm m := (List.perm_ext_iff_of_nodup h.1 k.1).2 fun x => (h.2 x).trans (k.2 x).symm
  exact ⟨(hp.map _).sum_nat, hp.length_eq⟩
/-- What is used is the sum of all files' lengths. -/
def UOk (V : Vw) (n : Nat) : Prop := ∃ l, Cov V.F l ∧ V.used = tot V.F l ∧ l.length ≤ n
def len (F : FT) (s : ByteArray) : Nat := ((F s).getD ([], 0)).1.length
theorem UOk.le {V : Vw} {n : Nat} (h : UOk V n) (s : ByteArray) : len V.F s ≤ V.used := by
  obtain ⟨l, h1, h2, _⟩ := h
  by_cases hs : V.F s = none
  · unfold len; rw [hs]; exact Nat.zero_le _
  · rw [h2]
    have := le_tot (F := V.F) (x := s.data.toList) (ns := l) ((h1.2 _).2 (by rw [nm_list]; exact hs))
    unfold lenAt at this
    rw [nm_list] at this
    exact this
theorem UOk.upd {V V' : Vw} {n : Nat} (h : UOk V n) (s : ByteArray) (v : List Nat × Nat) (e : V'.F = J1.upd V.F s v) (hu : V'.used + len V.F s = V.used + v.1.length) : UOk V' (n + 1) := by
  obtain ⟨l, ⟨h1, h2⟩, h3, h4⟩ := h
  have hn := nm_list s
  by_cases hs : s.data.toList ∈ l
  · refine ⟨l, ⟨h1, fun x => ?_⟩, ?_, by omega⟩
    · rw [h2, e]
      by_cases hx : nm x = s
      · rw [hx, upd_same]
        constructor
        · intro _ h; cases h
        · intro _
          rw [← hx]
          refine (h2 x).1 ?_
          have : x = s.data.toList := nm_inj (by rw [hx, hn])
          rw [this]; exact hs
      · rw [upd_other hx]
    · have := tot_upd (F := V.F) (v := v) h1 hs
      rw [hn] at this
      have e2 : lenAt V.F s.data.toList = len V.F s := by unfold lenAt len; rw [hn]
      rw [e2, ← h3] at this
      rw [e]
      omega
  · have hF : V.F s = none := by
      cases hf : V.F s with
      | none => rfl
      | some b => exact absurd ((h2 _).2 (by rw [hn, hf]; simp)) hs
    refine ⟨s.data.toList :: l, ⟨List.nodup_cons.2 ⟨hs, h1⟩, fun x => ?_⟩, ?_, by simp; omega⟩
    · rw [List.mem_cons, h2, e]
      by_cases hx : nm x = s
      · rw [hx, upd_same]
        constructor
        · intro _ h; cases h
        · intro _; exact .inl (nm_inj (by rw [hx, hn]))
      · rw [upd_other hx]
        constructor
        · rintro (e' | e')
          · exact absurd (by rw [e', hn]) hx
          · exact e'
        · exact .inr
    · have e1 : J1.tot (J1.upd V.F s v) (s.data.toList :: l) = v.1.length + J1.tot V.F l := by
        have := tot_miss (F := V.F) (v := v) hs
        rw [hn] at this
        rw [← this]
        unfold J1.tot
        rw [List.map_cons, List.sum_cons]
        congr 1
        unfold lenAt
        rw [hn, upd_same]; rfl
      rw [e, e1, ← h3]
      have : len V.F s = 0 := by unfold len; rw [hF]; rfl
      omega
def del (F : FT) (s : ByteArray) : FT := fun y => if y = s then none else F y
theorem del_same (F : FT) (s : ByteArray) : del F s s = none := if_pos rfl
theorem del_other {F : FT} {s t : ByteArray} (h : t ≠ s) : del F s t = F t := if_neg h
theorem tot_cons (F : FT) (y : List UInt8) (r : List (List UInt8)) : J1.tot F (y :: r) = lenAt F y + J1.tot F r := by simp [J1.tot]
theorem tot_same {F G : FT} {l : List (List UInt8)} (h : ∀ x ∈ l, F (nm x) = G (nm x)) : J1.tot F l = J1.tot G l := by
  unfold J1.tot
  congr 1
  refine List.map_congr_left fun y hy => ?_
  unfold lenAt
  rw [h y hy]
theorem UOk.del {V V' : Vw} {n : Nat} (h : UOk V n) (s : ByteArray) (e : V'.F = W2.del V.F s) (hu : V'.used + len V.F s = V.used) : UOk V' n := by
  obtain ⟨l, ⟨h1, h2⟩, h3, h4⟩ := h
  have hn := nm_list s
  have hcov : Cov V'.F (l.erase s.data.toList) := by
    refine ⟨h1.erase _, fun x => ?_⟩
    rw [h1.mem_erase_iff, h2, e]
    by_cases hx : nm x = s
    · rw [hx, del_same]
      constructor
      · rintro ⟨h, _⟩; exact absurd (nm_inj (by rw [hx, hn])) h
      · intro h; exact absurd rfl h
    · rw [del_other hx]
      constructor
      · exact fun h => h.2
      · exact fun h => ⟨fun e' => hx (by rw [e', hn]), h⟩
  refine ⟨_, hcov, ?_, Nat.le_trans (List.length_erase_le ..) h4⟩
  by_cases hs : s.data.toList ∈ l
  · have hp := List.perm_cons_erase hs
    have e1 : J1.tot V.F l = J1.tot V.F (s.data.toList :: l.erase s.data.toList) := (hp.map _).sum_nat
    rw [tot_cons] at e1
    have e2 : lenAt V.F s.data.toList = len V.F s := by unfold lenAt len; rw [hn]
    have e3 : J1.tot V'.F (l.erase s.data.toList) = J1.tot V.F (l.erase s.data.toList) := tot_same fun x hx => by
      rw [e, del_other]
      intro e'
      have : x = s.data.toList := nm_inj (by rw [e', hn])
      exact ((h1.mem_erase_iff).1 hx).1 this
    omega
  · have hF : V.F s = none := by
      cases hf : V.F s with
      | none => rfl
      | some b => exact absurd ((h2 _).2 (by rw [hn, hf]; simp)) hs
    have e4 : len V.F s = 0 := by unfold len; rw [hF]; rfl
    rw [List.erase_of_not_mem hs]
    have e3 : J1.tot V'.F l = J1.tot V.F l := tot_same fun x hx => by
      rw [e, del_other]
      intro e'
      have : x = s.data.toList := nm_inj (by rw [e', hn])
      exact hs (this ▸ hx)
    omega
/-- What a restart leaves of each file. -/
theorem stp_ne {r : Rs} {x : List UInt8} {s : ByteArray} (h : s ≠ nm x) : (stp r x).F s = r.F s := by
  unfold stp
  split
  · rfl
  · split
    · rfl
    · exact upd_other h
theorem stp_at {r : Rs} {x : List UInt8} {b : List Nat × Nat} (h : r.F (nm x) = some b) (hle : b.2 ≤ b.1.length) : ∃ k, b.2 ≤ k ∧ k ≤ b.1.length ∧ (stp r x).F (nm x) = some (b.1.take k, k) := by
  by_cases e : b.1.length = b.2
  · refine ⟨b.2, Nat.le_refl _, hle, ?_⟩
    rw [stp_same h e, h, ← e, List.take_length, e]
  · refine ⟨stays b r.ch, ?_, stays_le b r.ch hle, ?_⟩
    · unfold stays; omega
    · rw [stp_cut h e]; exact upd_same _ _ _
theorem rs_out {s : ByteArray} : ∀ (ns : List (List UInt8)) (r : Rs), (∀ x ∈ ns, s ≠ nm x) → (rs r ns).F s = r.F s
  | [], _, _ => rfl
  | y :: t, r, h => by
    show (rs (stp r y) t).F s = r.F s
    rw [rs_out t (stp r y) fun x hx => h x (List.mem_cons_of_mem _ hx)]
    exact stp_ne (h y (List.mem_cons_self ..))
theorem rs_in {s : ByteArray} {b : List Nat × Nat} (hle : b.2 ≤ b.1.length) : ∀ (ns : List (List UInt8)) (r : Rs), ns.Nodup → s.data.toList ∈ ns → r.F s = some b →
    ∃ k, b.2 ≤ k ∧ k ≤ b.1.length ∧ (rs r ns).F s = some (b.1.take k, k)
  | [], _, _, h, _ => by simp at h
  | y :: t, r, hn, h, hb => by
    obtain ⟨h1, h2⟩ := List.nodup_cons.1 hn
    by_cases e : s = nm y
    · obtain ⟨k, k1, k2, k3⟩ := stp_at (x := y) (by rw [← e]; exact hb) hle
      refine ⟨k, k1, k2, ?_⟩
      show (rs (stp r y) t).F s = _
      rw [rs_out t (stp r y) fun x hx e' => h1 (by rw [nm_inj (e.symm.trans e')]; exact hx), e]
      exact k3
    · have ht : s.data.toList ∈ t := by
        rcases List.mem_cons.1 h with e' | e'
        · exact absurd (by rw [← e', nm_list]) e
        · exact e'
      obtain ⟨k, k1, k2, k3⟩ := rs_in hle t (stp r y) h2 ht (by rw [stp_ne e]; exact hb)
      exact ⟨k, k1, k2, k3⟩
theorem rs_keeps {F : FT} {ns : List (List UInt8)} (hn : Names F ns) (hle : ∀ s b, F s = some b → b.2 ≤ b.1.length) (u : Nat) (ch : List Nat) (s : ByteArray) :
    (F s = none → (rs ⟨F, u, ch⟩ ns).F s = none) ∧ ∀ b, F s = some b → ∃ k, b.2 ≤ k ∧ k ≤ b.1.length ∧ (rs ⟨F, u, ch⟩ ns).F s = some (b.1.take k, k) := by
  refine ⟨fun h => ?_, fun b hb => rs_in (hle s b hb) ns _ hn.nodup ((hn.2 _).2 (by rw [nm_list, hb]; simp)) hb⟩
  rw [rs_out ns _ fun x hx e => ?_]
  · exact h
  · exact (hn.2 x).1 hx (by rw [← e]; exact h)
/-- A restarted disk's names and their sum. -/
theorem UOk.restart {V : Vw} {n : Nat} (h : UOk V n) {ns : List (List UInt8)} (hn : Names V.F ns) (hle : ∀ s b, V.F s = some b → b.2 ≤ b.1.length) (ch : List Nat) :
    V.used = J1.tot V.F ns ∧ ns.length ≤ n ∧ UOk (rsV V (rs ⟨V.F, V.used, ch⟩ ns)) n ∧ ∀ s b, (rsV V (rs ⟨V.F, V.used, ch⟩ ns)).F s = some b → b.2 ≤ b.1.length := by
  obtain ⟨l, h1, h2, h3⟩ := h
  obtain ⟨e1, e2⟩ := h1.tot (Names.cov hn)
  have hu : V.used = J1.tot V.F ns := h2.trans e1
  have hi := inv_rs hn.nodup (r := ⟨V.F, V.used, ch⟩) (F0 := V.F) ⟨hu, fun s => Iff.rfl, hle⟩ ns.length (Nat.le_refl _)
  rw [List.take_length] at hi
  obtain ⟨i1, i2, i3⟩ := hi
  refine ⟨hu, by omega, ⟨ns, ⟨hn.nodup, fun x => ?_⟩, i1, by omega⟩, i3⟩
  rw [hn.2 x]
  exact not_congr (i2 (nm x)).symm
end W2
end Go.Proofs.YtdaknlmnelfedaaDoor
