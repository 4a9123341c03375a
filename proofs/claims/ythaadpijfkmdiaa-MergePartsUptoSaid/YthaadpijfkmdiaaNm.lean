/- Rows of elements with a key: merged, in runs; plain mathematics. -/
import Derived.Test.YthaadpijfkmdiaaJb
namespace Go.Proofs.Ythaadpijfkmdiaa
namespace Nm

/-- Four cells. -/
abbrev V4 := Value × Value × Value × Value
structure Lin {β : Type} (lt : β → β → Bool) : Prop where
  irr : ∀ a, lt a a = false
  tr : ∀ a b c, lt a b = true → lt b c = true → lt a c = true
  tri : ∀ a b, lt a b = false → lt b a = false → a = b
theorem Lin.asym {β : Type} {lt : β → β → Bool} (h : Lin lt) {a b : β} (e : lt a b = true) : lt b a = false := by
  cases e2 : lt b a
  · rfl
  · exact absurd (h.tr a b a e e2) (by rw [h.irr]; decide)
section
variable {α β : Type} (key : α → β) (lt : β → β → Bool)
def cm (x y : α) : Int := if lt (key x) (key y) = true then -1 else if lt (key y) (key x) = true then 1 else 0
def mrg : List α → List α → List α
  | [], b => b
  | x :: a, [] => x :: a
  | x :: a, y :: b => if lt (key x) (key y) = true then x :: mrg a (y :: b) else if lt (key y) (key x) = true then y :: mrg (x :: a) b else y :: mrg a b
  termination_by a b => a.length + b.length
theorem mrg_nil (b : List α) : mrg key lt [] b = b := by rw [mrg]
theorem mrg_nil2 (a : List α) : mrg key lt a [] = a := by cases a <;> rw [mrg]
theorem mrg_lt {x y : α} {a b : List α} (h : lt (key x) (key y) = true) : mrg key lt (x :: a) (y :: b) = x :: mrg key lt a (y :: b) := by rw [mrg, if_pos h]
theorem mrg_gt {x y : α} {a b : List α} (h1 : lt (key x) (key y) = false) (h : lt (key y) (key x) = true) : mrg key lt (x :: a) (y :: b) = y :: mrg key lt (x :: a) b := by rw [mrg, if_neg (by rw [h1]; decide), if_pos h]
theorem mrg_eq {x y : α} {a b : List α} (h1 : lt (key x) (key y) = false) (h : lt (key y) (key x) = false) : mrg key lt (x :: a) (y :: b) = y :: mrg key lt a b := by rw [mrg, if_neg (by rw [h1]; decide), if_neg (by rw [h]; decide)]
theorem mrg_mem (z : α) (a b : List α) : z ∈ mrg key lt a b → z ∈ a ∨ z ∈ b := by
  fun_induction mrg key lt a b with
  | case1 b => exact .inr
  | case2 x a => exact .inl
  | case3 x a y b h ih =>
    intro hz
    rcases List.mem_cons.1 hz with rfl | hz
    · exact .inl (by simp)
    · rcases ih hz with h | h
      · exact .inl (by simp [h])
      · exact .inr h
  | case4 x a y b h h2 ih =>
    intro hz
    rcases List.mem_cons.1 hz with rfl | hz
    · exact .inr (by simp)
    · rcases ih hz with h | h
      · exact .inl h
      · exact .inr (by simp [h])
  | case5 x a y b h h2 ih =>
    intro hz
    rcases List.mem_cons.1 hz with rfl | hz
    · exact .inr (by simp)
    · rcases ih hz with h | h
      · exact .inl (by simp [h])
      · exact .inr (by simp [h])
theorem mrg_len (a b : List α) : (mrg key lt a b).length ≤ a.length + b.length := by
  fun_induction mrg key lt a b with
  | case1 b => simp
  | case2 x a => simp
  | case3 x a y b h ih => simp only [List.length_cons] at *; omega
  | case4 x a y b h h2 ih => simp only [List.length_cons] at *; omega
  | case5 x a y b h h2 ih => simp only [List.length_cons] at *; omega
def Sorted (L : List α) : Prop := L.Pairwise (fun x y => lt (key x) (key y) = true)
variable [DecidableEq β]
/-- The latest of the key k. -/
def lk : List α → β → Option α
  | [], _ => none
  | x :: r, k => (lk r k).or (if key x = k then some x else none)
theorem lk_app (a b : List α) (k : β) : lk key (a ++ b) k = (lk key b k).or (lk key a k) := by
  induction a with
  | nil => simp [lk]
  | cons x r ih =>
    simp only [List.cons_append, lk, ih]
    cases lk key b k <;> simp
theorem lk_mem {L : List α} {k : β} {x : α} (h : lk key L k = some x) : x ∈ L ∧ key x = k := by
  induction L with
  | nil => simp [lk] at h
  | cons y r ih =>
    simp only [lk] at h
    cases e : lk key r k with
    | some z =>
      rw [e] at h
      simp only [Option.some_or, Option.some.injEq] at h
      subst h
      obtain ⟨h1, h2⟩ := ih e
      exact ⟨by simp [h1], h2⟩
    | none =>
      rw [e] at h
      simp only [Option.none_or] at h
      by_cases hk : key y = k
      · rw [if_pos hk] at h; cases h; exact ⟨by simp, hk⟩
      · rw [if_neg hk] at h; cases h
theorem lk_none {L : List α} {k : β} (h : ∀ x ∈ L, key x ≠ k) : lk key L k = none := by
  cases e : lk key L k with
  | none => rfl
  | some x => obtain ⟨h1, h2⟩ := lk_mem key e; exact absurd h2 (h x h1)
theorem lk_isSome {L : List α} {x : α} (h : x ∈ L) : ∃ y, lk key L (key x) = some y := by
  induction L with
  | nil => cases h
  | cons z r ih =>
    simp only [lk]
    rcases List.mem_cons.1 h with rfl | h
    · cases lk key r (key x) with
      | none => exact ⟨x, by simp⟩
      | some y => exact ⟨y, by simp⟩
    · obtain ⟨y, e⟩ := ih h
      exact ⟨y, by rw [e]; simp⟩
theorem lk_cons (x : α) (r : List α) (k : β) : lk key (x :: r) k = (lk key r k).or (if key x = k then some x else none) := rfl
variable {key lt}
theorem lk_sorted (H : Lin lt) {L : List α} (h : Sorted key lt L) {x : α} (hx : x ∈ L) : lk key L (key x) = some x := by
  induction L with
  | nil => cases hx
  | cons y r ih =>
    obtain ⟨h1, h2⟩ := List.pairwise_cons.1 h
    simp only [lk]
    rcases List.mem_cons.1 hx with rfl | hx
    · rw [lk_none key (k := key x) (L := r) (fun z hz e => by have := h1 z hz; rw [e, H.irr] at this; cases this)]
      simp
    · rw [ih h2 hx]; simp
omit [DecidableEq β] in
theorem mrg_sorted (H : Lin lt) {a b : List α} (ha : Sorted key lt a) (hb : Sorted key lt b) : Sorted key lt (mrg key lt a b) := by
  fun_induction mrg key lt a b with
  | case1 b => exact hb
  | case2 x a => exact ha
  | case3 x a y b h ih =>
    obtain ⟨a1, a2⟩ := List.pairwise_cons.1 ha
    obtain ⟨b1, b2⟩ := List.pairwise_cons.1 hb
    refine List.pairwise_cons.2 ⟨fun z hz => ?_, ih a2 hb⟩
    rcases mrg_mem key lt z _ _ hz with hz | hz
    · exact a1 z hz
    · rcases List.mem_cons.1 hz with rfl | hz
      · exact h
      · exact H.tr _ _ _ h (b1 z hz)
  | case4 x a y b h h2 ih =>
    obtain ⟨a1, a2⟩ := List.pairwise_cons.1 ha
    obtain ⟨b1, b2⟩ := List.pairwise_cons.1 hb
    refine List.pairwise_cons.2 ⟨fun z hz => ?_, ih ha b2⟩
    rcases mrg_mem key lt z _ _ hz with hz | hz
    · rcases List.mem_cons.1 hz with rfl | hz
      · exact h2
      · exact H.tr _ _ _ h2 (a1 z hz)
    · exact b1 z hz
  | case5 x a y b h h2 ih =>
    obtain ⟨a1, a2⟩ := List.pairwise_cons.1 ha
    obtain ⟨b1, b2⟩ := List.pairwise_cons.1 hb
    have e : key x = key y := H.tri _ _ (by simpa using h) (by simpa using h2)
    refine List.pairwise_cons.2 ⟨fun z hz => ?_, ih a2 b2⟩
    rcases mrg_mem key lt z _ _ hz with hz | hz
    · rw [← e]; exact a1 z hz
    · exact b1 z hz
theorem lk_low {L : List α} {k : β} (H : Lin lt) (h : ∀ z ∈ L, lt k (key z) = true) : lk key L k = none :=
  lk_none key fun z hz e => by have := h z hz; rw [e, H.irr] at this; cases this
theorem mrg_lk (H : Lin lt) {a b : List α} (ha : Sorted key lt a) (hb : Sorted key lt b) (k : β) : lk key (mrg key lt a b) k = (lk key b k).or (lk key a k) := by
  fun_induction mrg key lt a b with
  | case1 b => simp [lk]
  | case2 x a => simp [lk]
  | case3 x a y b h ih =>
    obtain ⟨a1, a2⟩ := List.pairwise_cons.1 ha
    rw [lk_cons, ih a2 hb, lk_cons key x a]
    by_cases hk : key x = k
    · subst hk
      obtain ⟨b1, b2⟩ := List.pairwise_cons.1 hb
      have e1 : lk key (y :: b) (key x) = none := lk_low H fun z hz => by
        rcases List.mem_cons.1 hz with rfl | hz
        · exact h
        · exact H.tr _ _ _ h (b1 z hz)
      rw [e1]; simp
    · rw [if_neg hk]; simp
  | case4 x a y b h h2 ih =>
    obtain ⟨b1, b2⟩ := List.pairwise_cons.1 hb
    rw [lk_cons, ih ha b2, lk_cons key y b]
    by_cases hk : key y = k
    · subst hk
      obtain ⟨a1, a2⟩ := List.pairwise_cons.1 ha
      have e1 : lk key (x :: a) (key y) = none := lk_low H fun z hz => by
        rcases List.mem_cons.1 hz with rfl | hz
        · exact h2
        · exact H.tr _ _ _ h2 (a1 z hz)
      have e2 : lk key b (key y) = none := lk_low H b1
      rw [e1, e2]; simp
    · rw [if_neg hk]; simp
  | case5 x a y b h h2 ih =>
    obtain ⟨a1, a2⟩ := List.pairwise_cons.1 ha
    obtain ⟨b1, b2⟩ := List.pairwise_cons.1 hb
    have e : key x = key y := H.tri _ _ (by simpa using h) (by simpa using h2)
    rw [lk_cons, ih a2 b2, lk_cons key y b, lk_cons key x a, e]
    by_cases hk : key y = k
    · subst hk
      have e2 : lk key b (key y) = none := lk_low H b1
      have e3 : lk key a (key y) = none := lk_low H fun z hz => by rw [← e]; exact a1 z hz
      rw [e2, e3]; simp
    · simp [hk]
/-- Runs joined, two and two. -/
def jp (key : α → β) (lt : β → β → Bool) : List (List α) → List (List α)
  | a :: b :: r => mrg key lt a b :: jp key lt r
  | [a] => [a]
  | [] => []
omit [DecidableEq β] in
theorem jp_len : ∀ (LL : List (List α)), (jp key lt LL).length = (LL.length + 1) / 2
  | a :: b :: r => by simp only [jp, List.length_cons, jp_len r]; omega
  | [a] => by simp [jp]
  | [] => by simp [jp]
omit [DecidableEq β] in
theorem jp_get (LL : List (List α)) (i : Nat) (h : 2 * i < LL.length) : (jp key lt LL).getD i [] = if 2 * i + 1 < LL.length then mrg key lt (LL.getD (2 * i) []) (LL.getD (2 * i + 1) []) else LL.getD (2 * i) [] := by
  induction i generalizing LL with
  | zero =>
    match LL, h with
    | [a], _ => simp [jp]
    | a :: b :: r, _ => simp [jp]
  | succ i ih =>
    match LL, h with
    | [a], h => simp at h
    | a :: b :: r, h =>
      have := ih r (by simp at h; omega)
      simp only [jp, List.getD_cons_succ, this, List.length_cons]
      have e : 2 * (i + 1) = 2 * i + 1 + 1 := by omega
      rw [e]
      simp only [List.getD_cons_succ]
      by_cases hc : 2 * i + 1 < r.length
      · rw [if_pos hc, if_pos (by omega)]
      · rw [if_neg hc, if_neg (by omega)]
omit [DecidableEq β] in
theorem jp_sorted (H : Lin lt) : ∀ (LL : List (List α)), (∀ L ∈ LL, Sorted key lt L) → ∀ L ∈ jp key lt LL, Sorted key lt L
  | a :: b :: r, h, L, hL => by
    simp only [jp, List.mem_cons] at hL
    rcases hL with rfl | hL
    · exact mrg_sorted H (h a (by simp)) (h b (by simp))
    · exact jp_sorted H r (fun x hx => h x (by simp [hx])) L hL
  | [a], h, L, hL => h L (by simpa [jp] using hL)
  | [], h, L, hL => by simp [jp] at hL
theorem jp_lk (H : Lin lt) : ∀ (LL : List (List α)), (∀ L ∈ LL, Sorted key lt L) → ∀ k, lk key (jp key lt LL).flatten k = lk key LL.flatten k
  | a :: b :: r, h, k => by
    simp only [jp, List.flatten_cons, lk_app]
    rw [jp_lk H r (fun x hx => h x (by simp [hx])) k, mrg_lk H (h a (by simp)) (h b (by simp))]
    cases lk key r.flatten k <;> simp
  | [a], _, k => by simp [jp]
  | [], _, k => by simp [jp]
omit [DecidableEq β] in
theorem jp_mem : ∀ (LL : List (List α)) (z : α), z ∈ (jp key lt LL).flatten → z ∈ LL.flatten
  | a :: b :: r, z, h => by
    simp only [jp, List.flatten_cons, List.mem_append] at *
    rcases h with h | h
    · rcases mrg_mem key lt z _ _ h with h | h
      · exact .inl h
      · exact .inr (.inl h)
    · exact .inr (.inr (jp_mem r z h))
  | [a], z, h => by simpa [jp] using h
  | [], z, h => by simp [jp] at h
omit [DecidableEq β] in
theorem jp_total : ∀ (LL : List (List α)), (jp key lt LL).flatten.length ≤ LL.flatten.length
  | a :: b :: r => by
    simp only [jp, List.flatten_cons, List.length_append]
    have := mrg_len key lt a b
    have := jp_total r
    omega
  | [a] => by simp [jp]
  | [] => by simp [jp]
/-- Two rows that rise and have the same are the same. -/
theorem ext (H : Lin lt) : ∀ {a b : List α}, Sorted key lt a → Sorted key lt b → (∀ k, lk key a k = lk key b k) → a = b
  | [], [], _, _, _ => rfl
  | [], y :: b, _, hb, h => by have := h (key y); rw [lk_sorted H hb (by simp)] at this; simp [lk] at this
  | x :: a, [], ha, _, h => by have := h (key x); rw [lk_sorted H ha (by simp)] at this; simp [lk] at this
  | x :: a, y :: b, ha, hb, h => by
    have hx := h (key x)
    rw [lk_sorted H ha (by simp)] at hx
    have hy := h (key y)
    rw [lk_sorted H hb (by simp)] at hy
    obtain ⟨mx, _⟩ := lk_mem key hx.symm
    obtain ⟨my, _⟩ := lk_mem key hy
    obtain ⟨a1, a2⟩ := List.pairwise_cons.1 ha
    obtain ⟨b1, b2⟩ := List.pairwise_cons.1 hb
    have e : x = y := by
      rcases List.mem_cons.1 mx with e | mx
      · exact e
      · rcases List.mem_cons.1 my with e | my
        · exact e.symm
        · have h1 := b1 x mx
          have h2 := a1 y my
          exact absurd (H.tr _ _ _ h1 h2) (by rw [H.irr]; decide)
    subst e
    have key2 : ∀ k, lk key a k = lk key b k := fun k => by
      have hk := h k
      simp only [lk] at hk
      by_cases e : key x = k
      · subst e; rw [lk_low H a1, lk_low H b1]
      · rw [if_neg e] at hk; simpa using hk
    rw [ext H a2 b2 key2]
end
end Nm
end Go.Proofs.Ythaadpijfkmdiaa
