/- A disk's names as a finite set; the sum of all lengths; what a restart leaves. The log's files: what lies on the disk; plain mathematics. -/
import Derived.Test.YtdaknlmnelfedaaGreatDoorJ4
import Derived.Test.YtdaknlmnelfedaaGreatDoorW1
namespace Go.Proofs.YtdaknlmnelfedaaGreatDoor
namespace W2
open Jg J1 J2 J3 W1

theorem nm_list (s : ByteArray) : nm s.data.toList = s := by unfold nm; simp
/-- The names of all files, in any order. -/
def Cov (F : FT) (l : List (List UInt8)) : Prop := l.Nodup ∧ ∀ x, x ∈ l ↔ F (nm x) ≠ none
def ins (x : List UInt8) : List (List UInt8) → List (List UInt8)
  | [] => [x]
  | y :: r => if x < y then x :: y :: r else y :: ins x r
theorem mem_ins (x z : List UInt8) : ∀ l, z ∈ ins x l ↔ z = x ∨ z ∈ l
  | [] => by simp [ins]
  | y :: r => by
    unfold ins
    split
    · simp
    · simp only [List.mem_cons, mem_ins x z r]
      constructor
      · rintro (h | h | h)
        · exact .inr (.inl h)
        · exact .inl h
        · exact .inr (.inr h)
      · rintro (h | h | h)
        · exact .inr (.inl h)
        · exact .inl h
        · exact .inr (.inr h)
theorem lt_other {x y : List UInt8} (h : x ≠ y) (h2 : ¬ x < y) : y < x := by
  by_cases e : y < x
  · exact e
  · exact absurd (List.le_antisymm (List.not_lt.1 e) (List.not_lt.1 h2)) h
theorem ins_rise (x : List UInt8) : ∀ l, x ∉ l → l.Pairwise (· < ·) → (ins x l).Pairwise (· < ·)
  | [], _, _ => by simp [ins]
  | y :: r, hx, h => by
    obtain ⟨h1, h2⟩ := List.pairwise_cons.1 h
    unfold ins
    split
    · rename_i hxy
      refine List.pairwise_cons.2 ⟨fun z hz => ?_, h⟩
      rcases List.mem_cons.1 hz with e | e
      · subst e; exact hxy
      · exact List.lt_trans hxy (h1 z e)
    · rename_i hxy
      refine List.pairwise_cons.2 ⟨fun z hz => ?_, ins_rise x r (fun e => hx (List.mem_cons_of_mem _ e)) h2⟩
      rcases (mem_ins x z r).1 hz with e | e
      · subst e; exact lt_other (fun e => hx (by rw [e]; exact List.mem_cons_self ..)) hxy
      · exact h1 z e
theorem sorted (l : List (List UInt8)) : ∃ ns : List (List UInt8), ns.Pairwise (· < ·) ∧ ∀ x, x ∈ ns ↔ x ∈ l := by
  induction l with
  | nil => exact ⟨[], List.Pairwise.nil, fun x => Iff.rfl⟩
  | cons y r ih =>
    obtain ⟨ns, h1, h2⟩ := ih
    by_cases hy : y ∈ ns
    · refine ⟨ns, h1, fun x => ?_⟩
      rw [List.mem_cons, h2]
      constructor
      · exact .inr
      · rintro (e | e)
        · subst e; exact (h2 x).1 hy
        · exact e
    · refine ⟨ins y ns, ins_rise y ns hy h1, fun x => ?_⟩
      rw [mem_ins, List.mem_cons, h2]
theorem Cov.names {F : FT} {l : List (List UInt8)} (h : Cov F l) : ∃ ns, Names F ns := by
  obtain ⟨ns, h1, h2⟩ := sorted l
  exact ⟨ns, h1, fun x => (h2 x).trans (h.2 x)⟩
theorem Names.cov {F : FT} {l : List (List UInt8)} (h : Names F l) : Cov F l := ⟨h.nodup, h.2⟩
theorem Cov.tot {F : FT} {l m : List (List UInt8)} (h : Cov F l) (k : Cov F m) : tot F l = tot F m ∧ l.length = m.length := by
  have hp : l.Perm m := (List.perm_ext_iff_of_nodup h.1 k.1).2 fun x => (h.2 x).trans (k.2 x).symm
  exact ⟨(hp.map _).sum_nat, hp.length_eq⟩
/-- What is used is the sum of all files' lengths. -/
def UOk (V : Vw) (n : Nat) : Prop := ∃ l, Cov V.F l ∧ V.used = tot V.F l ∧ l.length ≤ n
def len (F : FT) (s : ByteArray) : Nat := ((F s).getD ([], 0)).1.length
theorem UOk.le {V : Vw} {n : Nat} (h : UOk V n) (s : ByteArray) : len V.F s ≤ V.used := by
  obtain ⟨l, h1, h2, _⟩ := h
  by_cases hs : V.F s = none
  · unfold len; rw [hs]; exact Nat.zero_le _
  · rw [h2]
    have := le_tot (F := V.F) (x := s.data.toList) (ns := l) ((h1.2 _).2 (by rw [nm_list]; exact hs))
    unfold lenAt at this
    rw [nm_list] at this
    exact this
theorem UOk.upd {V V' : Vw} {n : Nat} (h : UOk V n) (s : ByteArray) (v : List Nat × Nat) (e : V'.F = J1.upd V.F s v) (hu : V'.used + len V.F s = V.used + v.1.length) : UOk V' (n + 1) := by
  obtain ⟨l, ⟨h1, h2⟩, h3, h4⟩ := h
  have hn := nm_list s
  by_cases hs : s.data.toList ∈ l
  · refine ⟨l, ⟨h1, fun x => ?_⟩, ?_, by omega⟩
    · rw [h2, e]
      by_cases hx : nm x = s
      · rw [hx, upd_same]
        constructor
        · intro _ h; cases h
        · intro _
          rw [← hx]
          refine (h2 x).1 ?_
          have : x = s.data.toList := nm_inj (by rw [hx, hn])
          rw [this]; exact hs
      · rw [upd_other hx]
    · have := tot_upd (F := V.F) (v := v) h1 hs
      rw [hn] at this
      have e2 : lenAt V.F s.data.toList = len V.F s := by unfold lenAt len; rw [hn]
      rw [e2, ← h3] at this
      rw [e]
      omega
  · have hF : V.F s = none := by
      cases hf : V.F s with
      | none => rfl
      | some b => exact absurd ((h2 _).2 (by rw [hn, hf]; simp)) hs
    refine ⟨s.data.toList :: l, ⟨List.nodup_cons.2 ⟨hs, h1⟩, fun x => ?_⟩, ?_, by simp; omega⟩
    · rw [List.mem_cons, h2, e]
      by_cases hx : nm x = s
      · rw [hx, upd_same]
        constructor
        · intro _ h; cases h
        · intro _; exact .inl (nm_inj (by rw [hx, hn]))
      · rw [upd_other hx]
        constructor
        · rintro (e' | e')
          · exact absurd (by rw [e', hn]) hx
          · exact e'
        · exact .inr
    · have e1 : J1.tot (J1.upd V.F s v) (s.data.toList :: l) = v.1.length + J1.tot V.F l := by
        have := tot_miss (F := V.F) (v := v) hs
        rw [hn] at this
        rw [← this]
        unfold J1.tot
        rw [List.map_cons, List.sum_cons]
        congr 1
        unfold lenAt
        rw [hn, upd_same]; rfl
      rw [e, e1, ← h3]
      have : len V.F s = 0 := by unfold len; rw [hF]; rfl
      omega
def del (F : FT) (s : ByteArray) : FT := fun y => if y = s then none else F y
theorem del_same (F : FT) (s : ByteArray) : del F s s = none := if_pos rfl
theorem del_other {F : FT} {s t : ByteArray} (h : t ≠ s) : del F s t = F t := if_neg h
theorem tot_cons (F : FT) (y : List UInt8) (r : List (List UInt8)) : J1.tot F (y :: r) = lenAt F y + J1.tot F r := by simp [J1.tot]
theorem tot_same {F G : FT} {l : List (List UInt8)} (h : ∀ x ∈ l, F (nm x) = G (nm x)) : J1.tot F l = J1.tot G l := by
  unfold J1.tot
  congr 1
  refine List.map_congr_left fun y hy => ?_
  unfold lenAt
  rw [h y hy]
theorem UOk.del {V V' : Vw} {n : Nat} (h : UOk V n) (s : ByteArray) (e : V'.F = W2.del V.F s) (hu : V'.used + len V.F s = V.used) : UOk V' n := by
  obtain ⟨l, ⟨h1, h2⟩, h3, h4⟩ := h
  have hn := nm_list s
  have hcov : Cov V'.F (l.erase s.data.toList) := by
    refine ⟨h1.erase _, fun x => ?_⟩
    rw [h1.mem_erase_iff, h2, e]
    by_cases hx : nm x = s
    · rw [hx, del_same]
      constructor
      · rintro ⟨h, _⟩; exact absurd (nm_inj (by rw [hx, hn])) h
      · intro h; exact absurd rfl h
    · rw [del_other hx]
      constructor
      · exact fun h => h.2
      · exact fun h => ⟨fun e' => hx (by rw [e', hn]), h⟩
  refine ⟨_, hcov, ?_, Nat.le_trans (List.length_erase_le ..) h4⟩
  by_cases hs : s.data.toList ∈ l
  · have hp := List.perm_cons_erase hs
    have e1 : J1.tot V.F l = J1.tot V.F (s.data.toList :: l.erase s.data.toList) := (hp.map _).sum_nat
    rw [tot_cons] at e1
    have e2 : lenAt V.F s.data.toList = len V.F s := by unfold lenAt len; rw [hn]
    have e3 : J1.tot V'.F (l.erase s.data.toList) = J1.tot V.F (l.erase s.data.toList) := tot_same fun x hx => by
      rw [e, del_other]
      intro e'
      have : x = s.data.toList := nm_inj (by rw [e', hn])
      exact ((h1.mem_erase_iff).1 hx).1 this
    omega
  · have hF : V.F s = none := by
      cases hf : V.F s with
      | none => rfl
      | some b => exact absurd ((h2 _).2 (by rw [hn, hf]; simp)) hs
    have e4 : len V.F s = 0 := by unfold len; rw [hF]; rfl
    rw [List.erase_of_not_mem hs]
    have e3 : J1.tot V'.F l = J1.tot V.F l := tot_same fun x hx => by
      rw [e, del_other]
      intro e'
      have : x = s.data.toList := nm_inj (by rw [e', hn])
      exact hs (this ▸ hx)
    omega
/-- What a restart leaves of each file. -/
theorem stp_ne {r : Rs} {x : List UInt8} {s : ByteArray} (h : s ≠ nm x) : (stp r x).F s = r.F s := by
  unfold stp
  split
  · rfl
  · split
    · rfl
    · exact upd_other h
theorem stp_at {r : Rs} {x : List UInt8} {b : List Nat × Nat} (h : r.F (nm x) = some b) (hle : b.2 ≤ b.1.length) : ∃ k, b.2 ≤ k ∧ k ≤ b.1.length ∧ (stp r x).F (nm x) = some (b.1.take k, k) := by
  by_cases e : b.1.length = b.2
  · refine ⟨b.2, Nat.le_refl _, hle, ?_⟩
    rw [stp_same h e, h, ← e, List.take_length, e]
  · refine ⟨stays b r.ch, ?_, stays_le b r.ch hle, ?_⟩
    · unfold stays; omega
    · rw [stp_cut h e]; exact upd_same _ _ _
theorem rs_out {s : ByteArray} : ∀ (ns : List (List UInt8)) (r : Rs), (∀ x ∈ ns, s ≠ nm x) → (rs r ns).F s = r.F s
  | [], _, _ => rfl
  | y :: t, r, h => by
    show (rs (stp r y) t).F s = r.F s
    rw [rs_out t (stp r y) fun x hx => h x (List.mem_cons_of_mem _ hx)]
    exact stp_ne (h y (List.mem_cons_self ..))
theorem rs_in {s : ByteArray} {b : List Nat × Nat} (hle : b.2 ≤ b.1.length) : ∀ (ns : List (List UInt8)) (r : Rs), ns.Nodup → s.data.toList ∈ ns → r.F s = some b →
    ∃ k, b.2 ≤ k ∧ k ≤ b.1.length ∧ (rs r ns).F s = some (b.1.take k, k)
  | [], _, _, h, _ => by simp at h
  | y :: t, r, hn, h, hb => by
    obtain ⟨h1, h2⟩ := List.nodup_cons.1 hn
    by_cases e : s = nm y
    · obtain ⟨k, k1, k2, k3⟩ := stp_at (x := y) (by rw [← e]; exact hb) hle
      refine ⟨k, k1, k2, ?_⟩
      show (rs (stp r y) t).F s = _
      rw [rs_out t (stp r y) fun x hx e' => h1 (by rw [nm_inj (e.symm.trans e')]; exact hx), e]
      exact k3
    · have ht : s.data.toList ∈ t := by
        rcases List.mem_cons.1 h with e' | e'
        · exact absurd (by rw [← e', nm_list]) e
        · exact e'
      obtain ⟨k, k1, k2, k3⟩ := rs_in hle t (stp r y) h2 ht (by rw [stp_ne e]; exact hb)
      exact ⟨k, k1, k2, k3⟩
theorem rs_keeps {F : FT} {ns : List (List UInt8)} (hn : Names F ns) (hle : ∀ s b, F s = some b → b.2 ≤ b.1.length) (u : Nat) (ch : List Nat) (s : ByteArray) :
    (F s = none → (rs ⟨F, u, ch⟩ ns).F s = none) ∧ ∀ b, F s = some b → ∃ k, b.2 ≤ k ∧ k ≤ b.1.length ∧ (rs ⟨F, u, ch⟩ ns).F s = some (b.1.take k, k) := by
  refine ⟨fun h => ?_, fun b hb => rs_in (hle s b hb) ns _ hn.nodup ((hn.2 _).2 (by rw [nm_list, hb]; simp)) hb⟩
  rw [rs_out ns _ fun x hx e => ?_]
  · exact h
  · exact (hn.2 x).1 hx (by rw [← e]; exact h)
/-- A restarted disk's names and their sum. -/
theorem UOk.restart {V : Vw} {n : Nat} (h : UOk V n) {ns : List (List UInt8)} (hn : Names V.F ns) (hle : ∀ s b, V.F s = some b → b.2 ≤ b.1.length) (ch : List Nat) :
    V.used = J1.tot V.F ns ∧ ns.length ≤ n ∧ UOk (rsV V (rs ⟨V.F, V.used, ch⟩ ns)) n ∧ ∀ s b, (rsV V (rs ⟨V.F, V.used, ch⟩ ns)).F s = some b → b.2 ≤ b.1.length := by
  obtain ⟨l, h1, h2, h3⟩ := h
  obtain ⟨e1, e2⟩ := h1.tot (Names.cov hn)
  have hu : V.used = J1.tot V.F ns := h2.trans e1
  have hi := inv_rs hn.nodup (r := ⟨V.F, V.used, ch⟩) (F0 := V.F) ⟨hu, fun s => Iff.rfl, hle⟩ ns.length (Nat.le_refl _)
  rw [List.take_length] at hi
  obtain ⟨i1, i2, i3⟩ := hi
  refine ⟨hu, by omega, ⟨ns, ⟨hn.nodup, fun x => ?_⟩, i1, by omega⟩, i3⟩
  rw [hn.2 x]
  exact not_congr (i2 (nm x)).symm
end W2
end Go.Proofs.YtdaknlmnelfedaaGreatDoor
namespace Go.Proofs.YtdaknlmnelfedaaGreatDoor
namespace W3
open Jw Jg Jh Jl J1 J2 J3 W1 W2

structure Lg where
  first : Nat
  es : List (List Nat)
def Lg.nx (L : Lg) : Nat := L.first + L.es.length
def Lg.app (L : Lg) (b : List Nat) : Lg := ⟨L.first, L.es ++ [b]⟩
def Lg.trim (L : Lg) (n : Nat) : Lg := ⟨n, L.es.drop (n - L.first)⟩
theorem Lg.trim_nx {L : Lg} {n : Nat} (h1 : L.first ≤ n) (h2 : n ≤ L.nx) : (L.trim n).nx = L.nx := by
  unfold Lg.nx Lg.trim at *
  simp only [List.length_drop]
  omega
theorem Lg.app_nx (L : Lg) (b : List Nat) : (L.app b).nx = L.nx + 1 := by
  unfold Lg.nx Lg.app
  simp
  omega
def ent (k : Nat) : ByteArray := nm (pn ep k)
def mrk (k : Nat) : ByteArray := nm (pn mp k)
def newN : ByteArray := nm nn
/-- Numbers of this size alone are looked at. -/
def Sm (n : Nat) : Prop := n ≤ 1000000000000000000
theorem ent_inj {j k : Nat} (hj : Sm j) (hk : Sm k) (h : ent j = ent k) : j = k := pn_inj hj hk (nm_inj h)
theorem mrk_inj {j k : Nat} (hj : Sm j) (hk : Sm k) (h : mrk j = mrk k) : j = k := pn_inj hj hk (nm_inj h)
theorem ent_mrk {j k : Nat} : ent j ≠ mrk k := fun h => ep_mp (nm_inj h)
theorem mrk_ent {j k : Nat} : mrk j ≠ ent k := fun h => ep_mp (nm_inj h).symm
theorem ent_new {j : Nat} : ent j ≠ newN := fun h => ep_nn (nm_inj h)
theorem mrk_new {j : Nat} : mrk j ≠ newN := fun h => mp_nn (nm_inj h)
theorem nm_size (x : List UInt8) : (nm x).size = x.length := by unfold nm; rw [Go.Lib.size_eq]
theorem size_ent {n : Nat} (h : Sm n) : (ent n).size ≤ 29 := by unfold ent; rw [nm_size]; exact len_pn rfl h
theorem size_mrk {n : Nat} (h : Sm n) : (mrk n).size ≤ 29 := by unfold mrk; rw [nm_size]; exact len_pn rfl h
theorem isNm_of {x : List UInt8} (h1 : 1 ≤ x.length) (h2 : x.length ≤ 64) (h : ∀ c ∈ x, 32 ≤ c.toNat ∧ c.toNat ≠ 127) : isNm (nm x) = true := by
  unfold isNm
  refine decide_eq_true ⟨by rw [nm_size]; exact h1, by rw [nm_size]; exact h2, fun k hk => ?_⟩
  rw [nm_size] at hk
  have hm := h _ (List.getElem_mem hk)
  have e : by8 (nm x) k = x[k].toNat := by
    unfold by8 nm
    rw [List.getD_eq_getElem?_getD]
    simp [List.getElem?_eq_getElem hk]
  unfold good
  rw [e, decide_eq_true hm.1, decide_eq_true hm.2]; rfl
theorem isNm_pn {p : List UInt8} (hp : p.length = 10) (hc : ∀ c ∈ p, 32 ≤ c.toNat ∧ c.toNat ≠ 127) {n : Nat} (h : Sm n) : isNm (nm (pn p n)) = true := by
  have h29 := len_pn hp h
  refine isNm_of ?_ (by omega) fun c hcm => ?_
  · unfold pn; simp [hp]; omega
  · rcases List.mem_append.1 hcm with e | e
    · exact hc c e
    · have := dig_char c e; omega
theorem isNm_ent {n : Nat} (h : Sm n) : isNm (ent n) = true := isNm_pn rfl (by decide) h
theorem isNm_mrk {n : Nat} (h : Sm n) : isNm (mrk n) = true := isNm_pn rfl (by decide) h
theorem isNm_new : isNm newN = true := isNm_of (by decide) (by decide) (by decide)

/-- The log lies on the disk; other files of the log's own may lie there, too. -/
structure Dirt (V : Vw) (L : Lg) : Prop where
  ent : ∀ i (h : i < L.es.length), V.F (ent (L.first + i)) = some (L.es[i], L.es[i].length)
  mrk : V.F (mrk L.first) = some ([], 0) ∨ (V.F (mrk L.first) = none ∧ L.first = 0)
  dom : ∀ s, V.F s ≠ none → s = newN ∨ (∃ k, k ≤ L.first ∧ s = W3.mrk k) ∨ (∃ k, k < L.nx ∧ s = W3.ent k)
/-- .. no others. -/
structure Cln (V : Vw) (L : Lg) : Prop where
  d : Dirt V L
  dom : ∀ s, V.F s ≠ none → s = W3.mrk L.first ∨ ∃ k, L.first ≤ k ∧ k < L.nx ∧ s = W3.ent k
theorem Dirt.at {V : Vw} {L : Lg} (h : Dirt V L) {k : Nat} (h1 : L.first ≤ k) (h2 : k < L.nx) : ∃ b, L.es[k - L.first]? = some b ∧ V.F (W3.ent k) = some (b, b.length) := by
  have hl : k - L.first < L.es.length := by unfold Lg.nx at h2; omega
  refine ⟨L.es[k - L.first], List.getElem?_eq_getElem hl, ?_⟩
  have := h.ent (k - L.first) hl
  rwa [show L.first + (k - L.first) = k by omega] at this
theorem Dirt.next {V : Vw} {L : Lg} (h : Dirt V L) (hs : Sm L.nx) : V.F (W3.ent L.nx) = none := by
  cases hf : V.F (W3.ent L.nx) with
  | none => rfl
  | some b =>
    rcases h.dom (W3.ent L.nx) (by rw [hf]; simp) with e | ⟨k, _, e⟩ | ⟨k, hk, e⟩
    · exact absurd e ent_new
    · exact absurd e ent_mrk
    · have := ent_inj hs (by unfold Sm at *; omega) e; omega
theorem Cln.new {V : Vw} {L : Lg} (h : Cln V L) : V.F newN = none := by
  cases hf : V.F newN with
  | none => rfl
  | some b =>
    rcases h.dom newN (by rw [hf]; simp) with e | ⟨k, _, _, e⟩
    · exact absurd e.symm mrk_new
    · exact absurd e.symm ent_new
theorem Dirt.same {V V' : Vw} {L : Lg} (h : Dirt V L) (e : ∀ s, s ≠ newN → V'.F s = V.F s) : Dirt V' L := by
  refine ⟨fun i hi => ?_, ?_, fun s hs => ?_⟩
  · rw [e _ ent_new]; exact h.ent i hi
  · rw [e _ mrk_new]; exact h.mrk
  · by_cases hn : s = newN
    · exact .inl hn
    · rw [e s hn] at hs; exact h.dom s hs
theorem Cln.same {V V' : Vw} {L : Lg} (h : Cln V L) (e : ∀ s, V'.F s = V.F s) : Cln V' L :=
  ⟨h.d.same fun s _ => e s, fun s hs => by rw [e] at hs; exact h.dom s hs⟩
/-- A new entry. -/
theorem Cln.app {V V' : Vw} {L : Lg} (h : Cln V L) (hs : Sm L.nx) (b : List Nat) (e : ∀ s, V'.F s = if s = W3.ent L.nx then some (b, b.length) else V.F s) : Cln V' (L.app b) := by
  have hl : (L.app b).nx = L.nx + 1 := L.app_nx b
  refine ⟨⟨fun i hi => ?_, ?_, fun s hs' => ?_⟩, fun s hs' => ?_⟩
  · have hi' : i < L.es.length + 1 := by simpa [Lg.app] using hi
    show V'.F (W3.ent (L.first + i)) = _
    rw [e]
    by_cases hk : i = L.es.length
    · subst hk
      rw [if_pos (show W3.ent (L.first + L.es.length) = W3.ent L.nx from rfl)]
      simp [Lg.app]
    · have hi2 : i < L.es.length := by omega
      rw [if_neg fun e' => hk (by have := ent_inj (by unfold Sm Lg.nx at *; omega) hs e'; unfold Lg.nx at this; omega)]
      rw [h.d.ent i hi2]
      simp [Lg.app, List.getElem_append_left hi2]
  · show V'.F (W3.mrk L.first) = some ([], 0) ∨ V'.F (W3.mrk L.first) = none ∧ L.first = 0
    rw [e, if_neg mrk_ent]
    exact h.d.mrk
  · rw [e] at hs'
    by_cases hk : s = W3.ent L.nx
    · exact .inr (.inr ⟨L.nx, by omega, hk⟩)
    · rw [if_neg hk] at hs'
      rcases h.d.dom s hs' with a | a | ⟨k, a, c⟩
      · exact .inl a
      · exact .inr (.inl a)
      · exact .inr (.inr ⟨k, by omega, c⟩)
  · rw [e] at hs'
    by_cases hk : s = W3.ent L.nx
    · exact .inr ⟨L.nx, by unfold Lg.nx; show L.first ≤ _; omega, by omega, hk⟩
    · rw [if_neg hk] at hs'
      rcases h.dom s hs' with a | ⟨k, a, c, d⟩
      · exact .inl a
      · exact .inr ⟨k, a, by omega, d⟩
/-- A mark of the first entry makes no change; one of a later entry makes it the first. -/
theorem Cln.mark {V V' : Vw} {L : Lg} (h : Cln V L) (e : ∀ s, V'.F s = if s = W3.mrk L.first then some ([], 0) else V.F s) : Cln V' L := by
  refine ⟨⟨fun i hi => ?_, .inl ?_, fun s hs' => ?_⟩, fun s hs' => ?_⟩
  · rw [e, if_neg ent_mrk]; exact h.d.ent i hi
  · rw [e, if_pos rfl]
  · rw [e] at hs'
    by_cases hk : s = W3.mrk L.first
    · exact .inr (.inl ⟨_, Nat.le_refl _, hk⟩)
    · rw [if_neg hk] at hs'; exact h.d.dom s hs'
  · rw [e] at hs'
    by_cases hk : s = W3.mrk L.first
    · exact .inl hk
    · rw [if_neg hk] at hs'; exact h.dom s hs'
/-- Of the entries that a trim takes those from i on are still there. -/
structure Half (V : Vw) (L : Lg) (n i : Nat) : Prop where
  d : Dirt V (L.trim n)
  dom : ∀ s, V.F s ≠ none → s = W3.mrk L.first ∨ s = W3.mrk n ∨ ∃ k, i ≤ k ∧ k < L.nx ∧ s = W3.ent k
theorem Cln.half {V V' : Vw} {L : Lg} (h : Cln V L) {n : Nat} (h1 : L.first ≤ n) (h2 : n ≤ L.nx) (e : ∀ s, V'.F s = if s = W3.mrk n then some ([], 0) else V.F s) : Half V' L n L.first := by
  have hx := Lg.trim_nx h1 h2
  refine ⟨⟨fun i hi => ?_, .inl ?_, fun s hs' => ?_⟩, fun s hs' => ?_⟩
  · have hi' : i < L.es.length - (n - L.first) := by simpa [Lg.trim] using hi
    show V'.F (W3.ent (n + i)) = _
    rw [e, if_neg ent_mrk]
    have hi2 : n - L.first + i < L.es.length := by omega
    have := h.d.ent (n - L.first + i) hi2
    rw [show L.first + (n - L.first + i) = n + i by omega] at this
    rw [this]
    simp [Lg.trim, List.getElem_drop]
  · show V'.F (W3.mrk n) = _
    rw [e, if_pos rfl]
  · rw [e] at hs'
    by_cases hk : s = W3.mrk n
    · exact .inr (.inl ⟨n, Nat.le_refl _, hk⟩)
    · rw [if_neg hk] at hs'
      rcases h.dom s hs' with a | ⟨k, a, c, d⟩
      · exact .inr (.inl ⟨L.first, h1, a⟩)
      · exact .inr (.inr ⟨k, by rw [hx]; exact c, d⟩)
  · rw [e] at hs'
    by_cases hk : s = W3.mrk n
    · exact .inr (.inl hk)
    · rw [if_neg hk] at hs'
      rcases h.dom s hs' with a | ⟨k, a, c, d⟩
      · exact .inl a
      · exact .inr (.inr ⟨k, a, c, d⟩)
theorem Dirt.del {V V' : Vw} {L : Lg} (h : Dirt V L) {x : ByteArray} (h1 : x ≠ W3.mrk L.first) (h2 : ∀ i, i < L.es.length → x ≠ W3.ent (L.first + i)) (e : ∀ s, V'.F s = if s = x then none else V.F s) : Dirt V' L := by
  refine ⟨fun i hi => ?_, ?_, fun s hs => ?_⟩
  · rw [e, if_neg fun e' => h2 i hi e'.symm]; exact h.ent i hi
  · rw [e, if_neg fun e' => h1 e'.symm]; exact h.mrk
  · rw [e] at hs
    by_cases hx : s = x
    · rw [if_pos hx] at hs; exact absurd rfl hs
    · rw [if_neg hx] at hs; exact h.dom s hs
theorem Half.ent {V V' : Vw} {L : Lg} {n i : Nat} (h : Half V L n i) (hs : Sm L.nx) (h1 : L.first ≤ n) (h2 : n ≤ L.nx) (hi : i < n) (e : ∀ s, V'.F s = if s = W3.ent i then none else V.F s) : Half V' L n (i + 1) := by
  have hsm : ∀ k, k ≤ L.nx → Sm k := fun k hk => by unfold Sm at *; omega
  refine ⟨h.d.del ent_mrk (fun j hj e' => ?_) e, fun s hs' => ?_⟩
  · have hj' : j < L.es.length - (n - L.first) := by simpa [Lg.trim] using hj
    have hb : n + j ≤ L.nx := by unfold Lg.nx at *; omega
    have hq : i = n + j := ent_inj (hsm i (by omega)) (hsm _ hb) e'
    omega
  · rw [e] at hs'
    by_cases hx : s = W3.ent i
    · rw [if_pos hx] at hs'; exact absurd rfl hs'
    · rw [if_neg hx] at hs'
      rcases h.dom s hs' with a | a | ⟨k, a, c, d⟩
      · exact .inl a
      · exact .inr (.inl a)
      · refine .inr (.inr ⟨k, ?_, c, d⟩)
        have : k ≠ i := fun e' => hx (by rw [d, e'])
        omega
theorem Half.done {V V' : Vw} {L : Lg} {n : Nat} (h : Half V L n n) (hs : Sm L.nx) (h1 : L.first < n) (h2 : n ≤ L.nx) (e : ∀ s, V'.F s = if s = W3.mrk L.first then none else V.F s) : Cln V' (L.trim n) := by
  have hx := Lg.trim_nx (Nat.le_of_lt h1) h2
  refine ⟨h.d.del (fun e' => ?_) (fun j hj => mrk_ent) e, fun s hs' => ?_⟩
  · have : L.first = n := mrk_inj (by unfold Sm at *; omega) (by unfold Sm at *; omega) e'
    omega
  · rw [e] at hs'
    by_cases hk : s = W3.mrk L.first
    · rw [if_pos hk] at hs'; exact absurd rfl hs'
    · rw [if_neg hk] at hs'
      rcases h.dom s hs' with a | a | ⟨k, a, c, d⟩
      · exact absurd a hk
      · exact .inl a
      · exact .inr ⟨k, a, by rw [hx]; exact c, d⟩
/-- A restart cuts nothing that counts. -/
theorem Dirt.restart {V : Vw} {L : Lg} (h : Dirt V L) {ns : List (List UInt8)} (hn : Names V.F ns) (hle : ∀ s b, V.F s = some b → b.2 ≤ b.1.length) (ch : List Nat) : Dirt (rsV V (rs ⟨V.F, V.used, ch⟩ ns)) L := by
  have k := rs_keeps hn hle V.used ch
  have e : ∀ s b, V.F s = some (b, b.length) → (rs ⟨V.F, V.used, ch⟩ ns).F s = some (b, b.length) := fun s b hb => by
    obtain ⟨j, j1, j2, j3⟩ := (k s).2 _ hb
    have : j = b.length := Nat.le_antisymm j2 j1
    rw [j3, this]
    simp
  refine ⟨fun i hi => e _ _ (h.ent i hi), ?_, fun s hs => ?_⟩
  · rcases h.mrk with a | ⟨a, c⟩
    · exact .inl (e _ [] a)
    · exact .inr ⟨(k _).1 a, c⟩
  · refine h.dom s fun e' => hs ((k s).1 e')
theorem clean0 (room : Nat) : Cln (Jq.V0 room) ⟨0, []⟩ :=
  ⟨⟨fun i hi => absurd hi (by simp), .inr ⟨rfl, rfl⟩, fun s hs => absurd rfl hs⟩, fun s hs => absurd rfl hs⟩
end W3
end Go.Proofs.YtdaknlmnelfedaaGreatDoor
