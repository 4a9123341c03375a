/- The log's files: what lies on the disk; plain mathematics. -/
import Derived.Test.YtdaknlmnelfedaaDoorW2
namespace Go.Proofs.YtdaknlmnelfedaaDoor
namespace W3
open Jw Jg Jh Jl J1 J2 J3 W1 W2

structure Lg where
  first : Nat
  es : List (List Nat)
def Lg.nx (L : Lg) : Nat := L.first + L.es.length
def Lg.app (L : Lg) (b : List Nat) : Lg := ⟨L.first, L.es ++ [b]⟩
def Lg.trim (L : Lg) (n : Nat) : Lg := ⟨n, L.es.drop (n - L.first)⟩
theorem Lg.trim_nx {L : Lg} {n : Nat} (h1 : L.first ≤ n) (h2 : n ≤ L.nx) : (L.trim n).nx = L.nx := by
  unfold Lg.nx Lg.trim at *
  simp only [List.length_drop]
  omega
theorem Lg.app_nx (L : Lg) (b : List Nat) : (L.app b).nx = L.nx + 1 := by
  unfold Lg.nx Lg.app
  simp
  omega
def ent (k : Nat) : ByteArray := nm (pn ep k)
def mrk (k : Nat) : ByteArray := nm (pn mp k)
def newN : ByteArray := nm nn
/-- Numbers of this size alone are looked at. -/
def Sm (n : Nat) : Prop := n ≤ 1000000000000000000
theorem ent_inj {j k : Nat} (hj : Sm j) (hk : Sm k) (h : ent j = ent k) : j = k := pn_inj hj hk (nm_inj h)
theorem mrk_inj {j k : Nat} (hj : Sm j) (hk : Sm k) (h : mrk j = mrk k) : j = k := pn_inj hj hk (nm_inj h)
theorem ent_mrk {j k : Nat} : ent j ≠ mrk k := fun h => ep_mp (nm_inj h)
theorem mrk_ent {j k : Nat} : mrk j ≠ ent k := fun h => ep_mp (nm_inj h).symm
theorem ent_new {j : Nat} : ent j ≠ newN := fun h => ep_nn (nm_inj h)
theorem mrk_new {j : Nat} : mrk j ≠ newN := fun h => mp_nn (nm_inj h)
theorem nm_size (x : List UInt8) : (nm x).size = x.length := by unfold nm; rw [Go.Lib.size_eq]
theorem size_ent {n : Nat} (h : Sm n) : (ent n).size ≤ 29 := by unfold ent; rw [nm_size]; exact len_pn rfl h
theorem size_mrk {n : Nat} (h : Sm n) : (mrk n).size ≤ 29 := by unfold mrk; rw [nm_size]; exact len_pn rfl h
theorem isNm_of {x : List UInt8} (h1 : 1 ≤ x.length) (h2 : x.length ≤ 64) (h : ∀ c ∈ x, 32 ≤ c.toNat ∧ c.toNat ≠ 127) : isNm (nm x) = true := by
  unfold isNm
  refine decide_eq_true ⟨by rw [nm_size]; exact h1, by rw [nm_size]; exact h2, fun k hk => ?_⟩
  rw [nm_size] at hk
  have hm := h _ (List.getElem_mem hk)
  have e : by8 (nm x) k = x[k].toNat := by
    unfold by8 nm
    rw [List.getD_eq_getElem?_getD]
    simp [List.getElem?_eq_getElem hk]
  unfold good
  rw [e, decide_eq_true hm.1, decide_eq_true hm.2]; rfl
theorem isNm_pn {p : List UInt8} (hp : p.length = 10) (hc : ∀ c ∈ p, 32 ≤ c.toNat ∧ c.toNat ≠ 127) {n : Nat} (h : Sm n) : isNm (nm (pn p n)) = true := by
  have h29 := len_pn hp h
  refine isNm_of ?_ (by omega) fun c hcm => ?_
  · unfold pn; simp [hp]; omega
  · rcases List.mem_append.1 hcm with e | e
    · exact hc c e
    · have := dig_char c e; omega
theorem isNm_ent {n : Nat} (h : Sm n) : isNm (ent n) = true := isNm_pn rfl (by decide) h
theorem isNm_mrk {n : Nat} (h : Sm n) : isNm (mrk n) = true := isNm_pn rfl (by decide) h
theorem isNm_new : isNm newN = true := isNm_of (by decide) (by decide) (by decide)

/-- The log lies on the disk; other files of the log's own may lie there, too. -/
structure Dirt (V : Vw) (L : Lg) : Prop where
  ent : ∀ i (h : i < L.es.length), V.F (ent (L.first + i)) = some (L.es[i], L.es[i].length)
  mrk : V.F (mrk L.first) = some ([], 0) ∨ (V.F (mrk L.first) = none ∧ L.first = 0)
  dom : ∀ s, V.F s ≠ none → s = newN ∨ (∃ k, k ≤ L.first ∧ s = W3.mrk k) ∨ (∃ k, k < L.nx ∧ s = W3.ent k)
/-- .. no others. -/
structure Cln (V : Vw) (L : Lg) : Prop where
  d : Dirt V L
  dom : ∀ s, V.F s ≠ none → s = W3.mrk L.first ∨ ∃ k, L.first ≤ k ∧ k < L.nx ∧ s = W3.ent k
theorem Dirt.at {V : Vw} {L : Lg} (h : Dirt V L) {k : Nat} (h1 : L.first ≤ k) (h2 : k < L.nx) : ∃ b, L.es[k - L.first]? = some b ∧ V.F (W3.ent k) = some (b, b.length) := by
  have hl : k - L.first < L.es.length := by unfold Lg.nx at h2; omega
  refine ⟨L.es[k - L.first], List.getElem?_eq_getElem hl, ?_⟩
  have := h.ent (k - L.first) hl
  rwa [show L.first + (k - L.first) = k by omega] at this
theorem Dirt.next {V : Vw} {L : Lg} (h : Dirt V L) (hs : Sm L.nx) : V.F (W3.ent L.nx) = none := by
  cases hf : V.F (W3.ent L.nx) with
  | none => rfl
  | some b =>
    rcases h.dom (W3.ent L.nx) (by rw [hf]; simp) with e | ⟨k, _, e⟩ | ⟨k, hk, e⟩
    · exact absurd e ent_new
    · exact absurd e ent_mrk
    · have := ent_inj hs (by unfold Sm at *; omega) e; omega
theorem Cln.new {V : Vw} {L : Lg} (h : Cln V L) : V.F newN = none := by
  cases hf : V.F newN with
  | none => rfl
  | some b =>
    rcases h.dom newN (by rw [hf]; simp) with e | ⟨k, _, _, e⟩
    · exact absurd e.symm mrk_new
    · exact absurd e.symm ent_new
theorem Dirt.same {V V' : Vw} {L : Lg} (h : Dirt V L) (e : ∀ s, s ≠ newN → V'.F s = V.F s) : Dirt V' L := by
  refine ⟨fun i hi => ?_, ?_, fun s hs => ?_⟩
  · rw [e _ ent_new]; exact h.ent i hi
  · rw [e _ mrk_new]; exact h.mrk
  · by_cases hn : s = newN
    · exact .inl hn
    · rw [e s hn] at hs; exact h.dom s hs
theorem Cln.same {V V' : Vw} {L : Lg} (h : Cln V L) (e : ∀ s, V'.F s = V.F s) : Cln V' L :=
  ⟨h.d.same fun s _ => e s, fun s hs => by rw [e] at hs; exact h.dom s hs⟩
/-- A new entry. -/
theorem Cln.app {V V' : Vw} {L : Lg} (h : Cln V L) (hs : Sm L.nx) (b : List Nat) (e : ∀ s, V'.F s = if s = W3.ent L.nx then some (b, b.length) else V.F s) : Cln V' (L.app b) := by
  have hl : (L.app b).nx = L.nx + 1 := L.app_nx b
  refine ⟨⟨fun i hi => ?_, ?_, fun s hs' => ?_⟩, fun s hs' => ?_⟩
  · have hi' : i < L.es.length + 1 := by simpa [Lg.app] using hi
    show V'.F (W3.ent (L.first + i)) = _
    rw [e]
    by_cases hk : i = L.es.length
    · subst hk
      rw [if_pos (show W3.ent (L.first + L.es.length) = W3.ent L.nx from rfl)]
      simp [Lg.app]
    · have hi2 : i < L.es.length := by omega
      rw [if_neg fun e' => hk (by have := ent_inj (by unfold Sm Lg.nx at *; omega) hs e'; unfold Lg.nx at this; omega)]
      rw [h.d.ent i hi2]
      simp [Lg.app, List.getElem_append_left hi2]
  · show V'.F (W3.mrk L.first) = some ([], 0) ∨ V'.F (W3.mrk L.first) = none ∧ L.first = 0
    rw [e, if_neg mrk_ent]
    exact h.d.mrk
  · rw [e] at hs'
    by_cases hk : s = W3.ent L.nx
    · exact .inr (.inr ⟨L.nx, by omega, hk⟩)
    · rw [if_neg hk] at hs'
      rcases h.d.dom s hs' with a | a | ⟨k, a, c⟩
      · exact .inl a
      · exact .inr (.inl a)
      · exact .inr (.inr ⟨k, by omega, c⟩)
  · rw [e] at hs'
    by_cases hk : s = W3.ent L.nx
    · exact .inr ⟨L.nx, by unfold Lg.nx; show L.first ≤ _; omega, by omega, hk⟩
    · rw [if_neg hk] at hs'
      rcases h.dom s hs' with a | ⟨k, a, c, d⟩
      · exact .inl a
      · exact .inr ⟨k, a, by omega, d⟩
/-- A mark of the first entry makes no change; one of a later entry makes it the first. -/
theorem Cln.mark {V V' : Vw} {L : Lg} (h : Cln V L) (e : ∀ s, V'.F s = if s = W3.mrk L.first then some ([], 0) else V.F s) : Cln V' L := by
  refine ⟨⟨fun i hi => ?_, .inl ?_, fun s hs' => ?_⟩, fun s hs' => ?_⟩
  · rw [e, if_neg ent_mrk]; exact h.d.ent i hi
  · rw [e, if_pos rfl]
  · rw [e] at hs'
    by_cases hk : s = W3.mrk L.first
    · exact .inr (.inl ⟨_, Nat.le_refl _, hk⟩)
    · rw [if_neg hk] at hs'; exact h.d.dom s hs'
  · rw [e] at hs'
    by_cases hk : s = W3.mrk L.first
    · exact .inl hk
    · rw [if_neg hk] at hs'; exact h.dom s hs'
/-- Of the entries that a trim takes those from i on are still there. -/
structure Half (V : Vw) (L : Lg) (n i : Nat) : Prop where
  d : Dirt V (L.trim n)
  dom : ∀ s, V.F s ≠ none → s = W3.mrk L.first ∨ s = W3.mrk n ∨ ∃ k, i ≤ k ∧ k < L.nx ∧ s = W3.ent k
theorem Cln.half {V V' : Vw} {L : Lg} (h : Cln V L) {n : Nat} (h1 : L.first ≤ n) (h2 : n ≤ L.nx) (e : ∀ s, V'.F s = if s = W3.mrk n then some ([], 0) else V.F s) : Half V' L n L.first := by
  have hx := Lg.trim_nx h1 h2
  refine ⟨⟨fun i hi => ?_, .inl ?_, fun s hs' => ?_⟩, fun s hs' => ?_⟩
  · have hi' : i < L.es.length - (n - L.first) := by simpa [Lg.trim] using hi
    show V'.F (W3.ent (n + i)) = _
    rw [e, if_neg ent_mrk]
    have hi2 : n - L.first + i < L.es.length := by omega
    have := h.d.ent (n - L.first + i) hi2
    rw [show L.first + (n - L.first + i) = n + i by omega] at this
    rw [this]
    simp [Lg.trim, List.getElem_drop]
  · show V'.F (W3.mrk n) = _
    rw [e, if_pos rfl]
  · rw [e] at hs'
    by_cases hk : s = W3.mrk n
    · exact .inr (.inl ⟨n, Nat.le_refl _, hk⟩)
    · rw [if_neg hk] at hs'
      rcases h.dom s hs' with a | ⟨k, a, c, d⟩
      · exact .inr (.inl ⟨L.first, h1, a⟩)
      · exact .inr (.inr ⟨k, by rw [hx]; exact c, d⟩)
  · rw [e] at hs'
    by_cases hk : s = W3.mrk n
    · exact .inr (.inl hk)
    · rw [if_neg hk] at hs'
      rcases h.dom s hs' with a | ⟨k, a, c, d⟩
      · exact .inl a
      · exact .inr (.inr ⟨k, a, c, d⟩)
theorem Dirt.del {V V' : Vw} {L : Lg} (h : Dirt V L) {x : ByteArray} (h1 : x ≠ W3.mrk L.first) (h2 : ∀ i, i < L.es.length → x ≠ W3.ent (L.first + i)) (e : ∀ s, V'.F s = if s = x then none else V.F s) : Dirt V' L := by
  refine ⟨fun i hi => ?_, ?_, fun s hs => ?_⟩
  · rw [e, if_neg fun e' => h2 i hi e'.symm]; exact h.ent i hi
  · rw [e, if_neg fun e' => h1 e'.symm]; exact h.mrk
  · rw [e] at hs
    by_cases hx : s = x
    · rw [if_pos hx] at hs; exact absurd rfl hs
    · rw [if_neg hx] at hs; exact h.dom s hs
theorem Half.ent {V V' : Vw} {L : Lg} {n i : Nat} (h : Half V L n i) (hs : Sm L.nx) (h1 : L.first ≤ n) (h2 : n ≤ L.nx) (hi : i < n) (e : ∀ s, V'.F s = if s = W3.ent i then none else V.F s) : Half V' L n (i + 1) := by
  have hsm : ∀ k, k ≤ L.nx → Sm k := fun k hk => by unfold Sm at *; omega
  refine ⟨h.d.del ent_mrk (fun j hj e' => ?_) e, fun s hs' => ?_⟩
  · have hj' : j < L.es.length - (n - L.first) := by simpa [Lg.trim] using hj
    have hb : n + j ≤ L.nx := by unfold Lg.nx at *; omega
    have hq : i = n + j := ent_inj (hsm i (by omega)) (hsm _ hb) e'
    omega
  · rw [e] at hs'
    by_cases hx : s = W3.ent i
    · rw [if_pos hx] at hs'; exact absurd rfl hs'
    · rw [if_neg hx] at hs'
      rcases h.dom s hs' with a | a | ⟨k, a, c, d⟩
      · exact .inl a
      · exact .inr (.inl a)
      · refine .inr (.inr ⟨k, ?_, c, d⟩)
        have : k ≠ i := fun e' => hx (by rw [d, e'])
        omega
theorem Half.done {V V' : Vw} {L : Lg} {n : Nat} (h : Half V L n n) (hs : Sm L.nx) (h1 : L.first < n) (h2 : n ≤ L.nx) (e : ∀ s, V'.F s = if s = W3.mrk L.first then none else V.F s) : Cln V' (L.trim n) := by
  have hx := Lg.trim_nx (Nat.le_of_lt h1) h2
  refine ⟨h.d.del (fun e' => ?_) (fun j hj => mrk_ent) e, fun s hs' => ?_⟩
  · have : L.first = n := mrk_inj (by unfold Sm at *; omega) (by unfold Sm at *; omega) e'
    omega
  · rw [e] at hs'
    by_cases hk : s = W3.mrk L.first
    · rw [if_pos hk] at hs'; exact absurd rfl hs'
    · rw [if_neg hk] at hs'
      rcases h.dom s hs' with a | a | ⟨k, a, c, d⟩
      · exact absurd a hk
      · exact .inl a
      · exact .inr ⟨k, a, by rw [hx]; exact c, d⟩
/-- A restart cuts nothing that counts. -/
theorem Dirt.restart {V : Vw} {L : Lg} (h : Dirt V L) {ns : List (List UInt8)} (hn : Names V.F ns) (hle : ∀ s b, V.F s = some b → b.2 ≤ b.1.length) (ch : List Nat) : Dirt (rsV V (rs ⟨V.F, V.used, ch⟩ ns)) L := by
  have k := rs_keeps hn hle V.used ch
  have e : ∀ s b, V.F s = some (b, b.length) → (rs ⟨V.F, V.used, ch⟩ ns).F s = some (b, b.length) := fun s b hb => by
    obtain ⟨j, j1, j2, j3⟩ := (k s).2 _ hb
    have : j = b.length := Nat.le_antisymm j2 j1
    rw [j3, this]
    simp
  refine ⟨fun i hi => e _ _ (h.ent i hi), ?_, fun s hs => ?_⟩
  · rcases h.mrk with a | ⟨a, c⟩
    · exact .inl (e _ [] a)
    · exact .inr ⟨(k _).1 a, c⟩
  · refine h.dom s fun e' => hs ((k s).1 e')
theorem clean0 (room : Nat) : Cln (Jq.V0 room) ⟨0, []⟩ :=
  ⟨⟨fun i hi => absurd hi (by simp), .inr ⟨rfl, rfl⟩, fun s hs => absurd rfl hs⟩, fun s hs => absurd rfl hs⟩
end W3
end Go.Proofs.YtdaknlmnelfedaaDoor
