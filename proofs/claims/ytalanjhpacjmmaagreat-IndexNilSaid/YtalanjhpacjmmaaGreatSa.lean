/- Texts of series, plain mathematics. -/
namespace Go.Proofs.YtalanjhpacjmmaaGreat
namespace Sa

def bl (S : ByteArray) : List UInt8 := S.data.toList
def ba (l : List UInt8) : ByteArray := ⟨l.toArray⟩
theorem ba_bl (S : ByteArray) : ba (bl S) = S := by cases S; simp [ba, bl]
theorem bl_ba (l : List UInt8) : bl (ba l) = l := by simp [ba, bl]
theorem bl_len (S : ByteArray) : (bl S).length = S.size := by cases S; simp [bl]; rfl
theorem ba_size (l : List UInt8) : (ba l).size = l.length := by rw [← bl_len, bl_ba]
theorem bl_inj {S T : ByteArray} (h : bl S = bl T) : S = T := by rw [← ba_bl S, h, ba_bl]
theorem ba_inj {l m : List UInt8} (h : ba l = ba m) : l = m := by rw [← bl_ba l, h, bl_ba]

/-- A byte that has a backslash ahead. -/
def spn (n : Nat) : Bool := n == 44 || n == 61 || n == 32 || n == 35 || n == 92
def sp (c : UInt8) : Bool := spn c.toNat
/-- A name's text. -/
def esc : List UInt8 → List UInt8
  | [] => []
  | c :: r => if sp c then 92 :: c :: esc r else c :: esc r
theorem esc_app (a b : List UInt8) : esc (a ++ b) = esc a ++ esc b := by
  induction a with
  | nil => rfl
  | cons c r ih => simp only [List.cons_append, esc]; split <;> simp [ih]
theorem esc_one (c : UInt8) : esc [c] = if sp c then [92, c] else [c] := by simp [esc]
theorem esc_len (a : List UInt8) : a.length ≤ (esc a).length ∧ (esc a).length ≤ 2 * a.length := by
  induction a with
  | nil => exact ⟨Nat.le_refl _, Nat.le_refl _⟩
  | cons c r ih => simp only [esc]; split <;> simp only [List.length_cons] <;> omega
/-- What no name goes on with. -/
def Stops (r : List UInt8) : Prop := r = [] ∨ ∃ c q, r = c :: q ∧ sp c = true ∧ c.toNat ≠ 92
/-- The name that a text begins with, and what is behind it. -/
def prt (t : List UInt8) : Option (List UInt8 × List UInt8) :=
  match t with
  | [] => some ([], [])
  | c :: r =>
    if c.toNat = 92 then
      match r with
      | [] => none
      | d :: q => if sp d then (prt q).map fun x => (d :: x.1, x.2) else none
    else if sp c then some ([], c :: r) else (prt r).map fun x => (c :: x.1, x.2)
termination_by t.length
theorem part_nil : prt [] = some ([], []) := by rw [prt]
theorem part_end (c : UInt8) (hc : c.toNat = 92) : prt [c] = none := by rw [prt]; simp [hc]
theorem part_esc2 (c d : UInt8) (q : List UInt8) (hc : c.toNat = 92) (hd : sp d = true) : prt (c :: d :: q) = (prt q).map fun x => (d :: x.1, x.2) := by rw [prt]; simp [hc, hd]
theorem part_bad (c d : UInt8) (q : List UInt8) (hc : c.toNat = 92) (hd : sp d = false) : prt (c :: d :: q) = none := by rw [prt]; simp [hc, hd]
theorem part_stop (c : UInt8) (r : List UInt8) (hc : c.toNat ≠ 92) (hs : sp c = true) : prt (c :: r) = some ([], c :: r) := by rw [prt.eq_def]; simp [hc, hs]
theorem part_plain (c : UInt8) (r : List UInt8) (hs : sp c = false) : prt (c :: r) = (prt r).map fun x => (c :: x.1, x.2) := by
  have hc : c.toNat ≠ 92 := by
    intro e
    simp [sp, spn, e] at hs
  rw [prt.eq_def]; simp [hc, hs]
theorem sp92 : sp 92 = true := rfl
theorem part_stops {r : List UInt8} (h : Stops r) : prt r = some ([], r) := by
  rcases h with rfl | ⟨c, q, rfl, h1, h2⟩
  · exact part_nil
  · exact part_stop c q h2 h1
theorem part_of (n : List UInt8) : ∀ {r : List UInt8}, Stops r → prt (esc n ++ r) = some (n, r) := by
  induction n with
  | nil => intro r h; exact part_stops h
  | cons c m ih =>
    intro r h
    simp only [esc]
    by_cases hs : sp c = true
    · rw [if_pos hs, List.cons_append, List.cons_append, part_esc2 _ _ _ rfl hs, ih h]; rfl
    · have hs' : sp c = false := by simpa using hs
      rw [if_neg hs, List.cons_append, part_plain _ _ hs', ih h]; rfl
theorem part_some (k : Nat) : ∀ (t : List UInt8) (n r : List UInt8), t.length ≤ k → prt t = some (n, r) → t = esc n ++ r ∧ Stops r := by
  induction k with
  | zero =>
    intro t n r hk h
    obtain rfl := List.length_eq_zero_iff.1 (Nat.le_zero.1 hk)
    rw [part_nil] at h
    cases h
    exact ⟨rfl, .inl rfl⟩
  | succ k ih =>
    intro t n r hk h
    match t with
    | [] =>
      rw [part_nil] at h
      cases h
      exact ⟨rfl, .inl rfl⟩
    | c :: t' =>
      by_cases hs : sp c = true
      · by_cases hc : c.toNat = 92
        · match t' with
          | [] => rw [part_end c hc] at h; cases h
          | d :: q =>
            by_cases hd : sp d = true
            · rw [part_esc2 c d q hc hd] at h
              obtain ⟨⟨n', r'⟩, hp, e⟩ := Option.map_eq_some_iff.1 h
              cases e
              obtain ⟨e1, e2⟩ := ih q n' r' (by simp only [List.length_cons] at hk; omega) hp
              refine ⟨?_, e2⟩
              have ec : c = 92 := UInt8.toNat_inj.1 hc
              simp [esc, hd, e1, ec]
            · rw [part_bad c d q hc (by simpa using hd)] at h; cases h
        · rw [part_stop c t' hc hs] at h
          cases h
          exact ⟨rfl, .inr ⟨c, t', rfl, hs, hc⟩⟩
      · have hs' : sp c = false := by simpa using hs
        rw [part_plain c t' hs'] at h
        obtain ⟨⟨n', r'⟩, hp, e⟩ := Option.map_eq_some_iff.1 h
        cases e
        obtain ⟨e1, e2⟩ := ih t' n' r' (by simp only [List.length_cons] at hk; omega) hp
        exact ⟨by simp [esc, hs', e1], e2⟩
theorem part_is {t n r : List UInt8} (h : prt t = some (n, r)) : t = esc n ++ r ∧ Stops r := part_some t.length t n r (Nat.le_refl _) h
theorem part_len {t n r : List UInt8} (h : prt t = some (n, r)) : n.length + r.length ≤ t.length := by
  obtain ⟨e, _⟩ := part_is h
  have := (esc_len n).1
  rw [e, List.length_append]
  omega
/-- A tag. -/
abbrev Tg := ByteArray × ByteArray
/-- A series. -/
abbrev Sr := ByteArray × List Tg
def tagt (x : Tg) : List UInt8 := 44 :: (esc (bl x.1) ++ 61 :: esc (bl x.2))
def tagst (L : List Tg) : List UInt8 := (L.map tagt).flatten
/-- A series' text. -/
def txt (s : Sr) : List UInt8 := esc (bl s.1) ++ tagst s.2
theorem tagst_snoc (L : List Tg) (x : Tg) : tagst (L ++ [x]) = tagst L ++ tagt x := by simp [tagst]
theorem tagst_cons (x : Tg) (L : List Tg) : tagst (x :: L) = tagt x ++ tagst L := by simp [tagst]
theorem tagst_stops (L : List Tg) : Stops (tagst L) := by
  match L with
  | [] => exact .inl rfl
  | x :: r => exact .inr ⟨44, _, by rw [tagst_cons, tagt]; rfl, rfl, by decide⟩
/-- One tag off a text that begins with its comma. -/
def tag1 (t : List UInt8) : Option (Tg × List UInt8) :=
  match t with
  | [] => none
  | c :: r => if c.toNat = 44 then match prt r with
    | none => none
    | some (_, []) => none
    | some (k, d :: q) => if d.toNat = 61 then (prt q).map fun x => ((ba k, ba x.1), x.2) else none
  else none
theorem tag1_of (x : Tg) {r : List UInt8} (h : Stops r) : tag1 (tagt x ++ r) = some (x, r) := by
  have e : tagt x ++ r = 44 :: (esc (bl x.1) ++ 61 :: (esc (bl x.2) ++ r)) := by simp [tagt]
  have h61 : Stops (61 :: (esc (bl x.2) ++ r)) := .inr ⟨61, _, rfl, rfl, by decide⟩
  rw [e, tag1, if_pos (by rfl), part_of _ h61]
  simp only
  rw [if_pos (by rfl), part_of _ h]
  simp [ba_bl]
theorem tag1_is {t r : List UInt8} {x : Tg} (h : tag1 t = some (x, r)) : t = tagt x ++ r ∧ Stops r := by
  match t with
  | [] => cases h
  | c :: q =>
    rw [tag1] at h
    split at h
    case isFalse => cases h
    case isTrue hc =>
      split at h
      · cases h
      · cases h
      · rename_i k d q2 hp
        split at h
        case isFalse => cases h
        case isTrue hd =>
          obtain ⟨⟨v, r'⟩, hv, e⟩ := Option.map_eq_some_iff.1 h
          cases e
          obtain ⟨e1, _⟩ := part_is hp
          obtain ⟨e2, e3⟩ := part_is hv
          refine ⟨?_, e3⟩
          have ec : c = 44 := UInt8.toNat_inj.1 hc
          have ed : d = 61 := UInt8.toNat_inj.1 hd
          simp [tagt, bl_ba, e1, e2, ec, ed]
theorem tag1_len {t r : List UInt8} {x : Tg} (h : tag1 t = some (x, r)) : r.length + 2 ≤ t.length := by
  obtain ⟨e, _⟩ := tag1_is h
  rw [e]
  simp only [tagt, List.length_append, List.length_cons]
  omega
/-- All tags of a text. -/
def tags : Nat → List UInt8 → Option (List Tg)
  | _, [] => some []
  | 0, _ :: _ => none
  | n + 1, c :: r => match tag1 (c :: r) with
    | none => none
    | some (x, q) => (tags n q).map (x :: ·)
theorem tags_nil (n : Nat) : tags n [] = some [] := by cases n <;> rfl
theorem tags_more (n m : Nat) : ∀ (t : List UInt8), t.length ≤ n → t.length ≤ m → tags n t = tags m t := by
  induction n generalizing m with
  | zero =>
    intro t h1 _
    obtain rfl := List.length_eq_zero_iff.1 (Nat.le_zero.1 h1)
    rw [tags_nil, tags_nil]
  | succ n ih =>
    intro t h1 h2
    match t, m with
    | [], _ => rw [tags_nil, tags_nil]
    | c :: r, 0 => simp at h2
    | c :: r, m + 1 =>
      simp only [tags]
      match e : tag1 (c :: r) with
      | none => rfl
      | some (x, q) =>
        have := tag1_len e
        simp only [List.length_cons] at h1 h2 this
        simp only
        rw [ih m q (by omega) (by omega)]
/-- The tags of a text. -/
def tgs (t : List UInt8) : Option (List Tg) := tags t.length t
theorem tgs_nil : tgs [] = some [] := rfl
theorem tgs_none {t : List UInt8} (h0 : t ≠ []) (h : tag1 t = none) : tgs t = none := by
  match t with
  | [] => exact absurd rfl h0
  | c :: r => simp only [tgs, List.length_cons, tags, h]
theorem tgs_some {t q : List UInt8} {x : Tg} (h : tag1 t = some (x, q)) : tgs t = (tgs q).map (x :: ·) := by
  match t with
  | [] => cases h
  | c :: r =>
    have := tag1_len h
    simp only [List.length_cons] at this
    simp only [tgs, List.length_cons, tags, h]
    rw [tags_more r.length q.length q (by omega) (Nat.le_refl _)]
theorem tgs_of (L : List Tg) : tgs (tagst L) = some L := by
  induction L with
  | nil => rfl
  | cons x r ih => rw [tagst_cons, tgs_some (tag1_of x (tagst_stops r)), ih]; rfl
theorem tags_is (n : Nat) : ∀ (t : List UInt8) (L : List Tg), tags n t = some L → t = tagst L := by
  induction n with
  | zero =>
    intro t L h
    match t with
    | [] => rw [tags_nil] at h; cases h; rfl
    | c :: r => cases h
  | succ n ih =>
    intro t L h
    match t with
    | [] => rw [tags_nil] at h; cases h; rfl
    | c :: r =>
      simp only [tags] at h
      match e : tag1 (c :: r) with
      | none => rw [e] at h; cases h
      | some (x, q) =>
        rw [e] at h
        obtain ⟨M, hM, e2⟩ := Option.map_eq_some_iff.1 h
        subst e2
        rw [tagst_cons, ← ih q M hM]
        exact (tag1_is e).1
theorem tgs_is {t : List UInt8} {L : List Tg} (h : tgs t = some L) : t = tagst L := tags_is _ t L h
/-- The series of a text, whatever its names are. -/
def rd (t : List UInt8) : Option Sr :=
  match prt t with
  | none => none
  | some (n, r) => (tgs r).map fun L => (ba n, L)
theorem rd_of (s : Sr) : rd (txt s) = some s := by
  obtain ⟨n, L⟩ := s
  simp only [rd, txt, part_of (bl n) (tagst_stops L), tgs_of, Option.map_some, ba_bl]
theorem rd_is {t : List UInt8} {s : Sr} (h : rd t = some s) : t = txt s := by
  unfold rd at h
  split at h
  · cases h
  · rename_i n r hp
    obtain ⟨L, hL, e⟩ := Option.map_eq_some_iff.1 h
    subst e
    rw [txt, bl_ba, ← tgs_is hL]
    exact (part_is hp).1
theorem txt_inj {a b : Sr} (h : txt a = txt b) : a = b := by
  have := rd_of a
  rw [h, rd_of] at this
  exact (Option.some.inj this).symm
theorem txt_len (s : Sr) (h1 : s.1.size ≤ 64) (h2 : s.2.length ≤ 8) (h3 : ∀ x ∈ s.2, x.1.size ≤ 64 ∧ x.2.size ≤ 64) : (txt s).length ≤ 2192 := by
  have h : ∀ L : List Tg, (∀ x ∈ L, x.1.size ≤ 64 ∧ x.2.size ≤ 64) → (tagst L).length ≤ 258 * L.length := by
    intro L hL
    induction L with
    | nil => exact Nat.le_refl _
    | cons x r ih =>
      have := ih fun y hy => hL y (List.mem_cons_of_mem _ hy)
      have hx := hL x (List.mem_cons_self ..)
      have e1 := (esc_len (bl x.1)).2
      have e2 := (esc_len (bl x.2)).2
      rw [bl_len] at e1 e2
      rw [tagst_cons]
      simp only [tagt, List.length_append, List.length_cons]
      omega
  have := h s.2 h3
  have e1 := (esc_len (bl s.1)).2
  rw [bl_len] at e1
  simp only [txt, List.length_append]
  omega
end Sa
end Go.Proofs.YtalanjhpacjmmaaGreat
