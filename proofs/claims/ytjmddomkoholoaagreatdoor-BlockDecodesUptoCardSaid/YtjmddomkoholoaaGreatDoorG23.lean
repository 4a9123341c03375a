import Derived.Test.YtjmddomkoholoaaGreatDoorG05

/- Times and their bytes: plain mathematics. -/
namespace Go.Proofs.YtjmddomkoholoaaGreatDoor
open Go.RowKit
namespace Tm
open Bm Mt Sz

/-- The first k values of f. -/
def tab {α : Type} (f : Nat → α) (k : Nat) : List α := (List.range k).map f
theorem tab_succ {α : Type} (f : Nat → α) (k : Nat) : tab f (k + 1) = tab f k ++ [f k] := by simp [tab, List.range_succ]
theorem tab_len {α : Type} (f : Nat → α) (k : Nat) : (tab f k).length = k := by simp [tab]
theorem tab_get {α : Type} (f : Nat → α) (z : α) (k i : Nat) (h : i < k) : (tab f k).getD i z = f i := by simp [tab, List.getD_eq_getElem?_getD, h]
theorem tab_mem {α : Type} {f : Nat → α} {k : Nat} {x : α} (h : x ∈ tab f k) : ∃ i, i < k ∧ x = f i := by
  simp only [tab, List.mem_map, List.mem_range] at h
  obtain ⟨i, hi, rfl⟩ := h
  exact ⟨i, hi, rfl⟩
theorem getD_ext {α : Type} {a b : List α} (z : α) (hl : a.length = b.length) (h : ∀ i, i < a.length → a.getD i z = b.getD i z) : a = b := by
  apply List.ext_getElem hl
  intro i h1 h2
  have := h i h1
  simpa [List.getD_eq_getElem?_getD, h1, h2] using this

/-- A time as a number without sign. -/
def ut (t : Int) : Nat := (t % 18446744073709551616).toNat
def dist (T : List Int) (k : Nat) : Nat := ((T.getD (k + 1) 0 - T.getD k 0) % 18446744073709551616).toNat
def prev (T : List Int) : Nat → Nat
  | 0 => 0
  | k + 1 => dist T k
def chg (T : List Int) (k : Nat) : Nat := (zig (wrap64 ((dist T k : Int) - (prev T k : Int)))).toNat
def dists (T : List Int) : List Nat := tab (dist T) (T.length - 1)
def chgs (T : List Int) : List Nat := tab (chg T) (T.length - 1)
def Up (T : List Int) : Prop := ∀ i, i < T.length - 1 → T.getD i 0 < T.getD (i + 1) 0
def OneFar (T : List Int) : Prop := ∀ i, i < T.length - 1 → dist T i = dist T 0
def In (T : List Int) : Prop := ∀ t ∈ T, -9223372036854775808 ≤ t ∧ t ≤ 9223372036854775807
instance (T : List Int) : Decidable (Up T) := by unfold Up; infer_instance
instance (T : List Int) : Decidable (OneFar T) := by unfold OneFar; infer_instance
instance (l : List Nat) : Decidable (Small l) := by unfold Small; infer_instance
def two (n : Nat) : List Nat := [n / 256 % 256, n % 256]
def head (m : Nat) (T : List Int) : List Nat := m :: (two T.length ++ eight (ut (T.getD 0 0)))
def others (T : List Int) : List Nat := tab (fun k => ut (T.getD (k + 1) 0)) (T.length - 1)
def bytesOf (T : List Int) : List Nat :=
  if 2 ≤ T.length ∧ OneFar T then head 1 T ++ eight (dist T 0)
  else if 2 ≤ T.length ∧ Small (chgs T) then head 2 T ++ packs (chgs T)
  else head 0 T ++ flat (others T)
def Ok (T : List Int) : Prop := 1 ≤ T.length ∧ T.length ≤ 1000 ∧ Up T
instance (T : List Int) : Decidable (Ok T) := by unfold Ok; infer_instance

theorem In.get {T : List Int} (h : In T) (k : Nat) : -9223372036854775808 ≤ T.getD k 0 ∧ T.getD k 0 ≤ 9223372036854775807 := by
  rw [List.getD_eq_getElem?_getD]
  by_cases hk : k < T.length
  · rw [List.getElem?_eq_getElem hk]; exact h _ (List.getElem_mem hk)
  · rw [List.getElem?_eq_none (by omega)]; simp
theorem ut_lt (t : Int) : ut t < 18446744073709551616 := by unfold ut; omega
theorem ut_of {t : Int} : ((ut t : Nat) : Int) = t % 18446744073709551616 := by unfold ut; omega
theorem wrap_ut {t : Int} (h : -9223372036854775808 ≤ t ∧ t ≤ 9223372036854775807) : wrap64 ((ut t : Nat) : Int) = t := by unfold wrap64 ut; omega
theorem dist_lt (T : List Int) (k : Nat) : dist T k < 18446744073709551616 := by unfold dist; omega
theorem dist_of (T : List Int) (k : Nat) : ((dist T k : Nat) : Int) = (T.getD (k + 1) 0 - T.getD k 0) % 18446744073709551616 := by unfold dist; omega
theorem wrap_in (x : Int) : -9223372036854775808 ≤ wrap64 x ∧ wrap64 x ≤ 9223372036854775807 := by unfold wrap64; omega
theorem chg_of (T : List Int) (k : Nat) : ((chg T k : Nat) : Int) = zig (wrap64 ((dist T k : Int) - (prev T k : Int))) := by
  obtain ⟨h1, h2⟩ := wrap_in ((dist T k : Int) - (prev T k : Int))
  have := zig_in _ h1 h2
  unfold chg
  omega
theorem chg_lt (T : List Int) (k : Nat) : chg T k < 18446744073709551616 := by
  obtain ⟨h1, h2⟩ := wrap_in ((dist T k : Int) - (prev T k : Int))
  have := zig_in _ h1 h2
  unfold chg
  omega
theorem zag_chg (T : List Int) (k : Nat) : zag ((chg T k : Nat) : Int) = wrap64 ((dist T k : Int) - (prev T k : Int)) := by
  obtain ⟨h1, h2⟩ := wrap_in ((dist T k : Int) - (prev T k : Int))
  rw [chg_of, zag_zig _ h1 h2]
theorem head_len (m : Nat) (T : List Int) : (head m T).length = 11 := by simp [head, two, eight]
theorem head_form (m : Nat) (T : List Int) : head m T = [m, T.length / 256 % 256, T.length % 256] ++ eight (ut (T.getD 0 0)) := by simp [head, two]

/-- The distances and the times that changes tell. -/
def accs (cs : List Nat) : Nat → Int
  | 0 => 0
  | k + 1 => accs cs k + zag (cs.getD k 0 : Nat)
def tims (t : Int) (cs : List Nat) : Nat → Int
  | 0 => t
  | k + 1 => tims t cs k + accs cs (k + 1)
def cnt (b : List Nat) : Nat := b.getD 1 0 * 256 + b.getD 2 0
def fst (b : List Nat) : Int := wrap64 (num8 b 3 : Nat)
def rst (b : List Nat) : List Nat := b.drop 11
def wholeT (t : Int) (r : List Nat) (m : Nat) : List Int := tab (fun k => if k = 0 then t else if 8 * k ≤ r.length then wrap64 (num8 r (8 * k - 8) : Nat) else 0) (m + 1)
def evenT (t : Int) (d m : Nat) : List Int := tab (fun k => wrap64 (t + (k : Int) * (d : Int))) (m + 1)
def unevenT (t : Int) (cs : List Nat) : List Int := tab (fun k => wrap64 (tims t cs k)) (cs.length + 1)
def farOf (r : List Nat) : Nat := if 8 ≤ r.length then num8 r 0 else 0
def readC (b : List Nat) : List Int :=
  if b.length < 11 ∨ cnt b < 1 ∨ 1000 < cnt b then []
  else if b.getD 0 0 = 0 then wholeT (fst b) (rst b) (cnt b - 1)
  else if b.getD 0 0 = 1 then evenT (fst b) (farOf (rst b)) (cnt b - 1)
  else if b.getD 0 0 = 2 then
    match unpacks (rst b) ((cnt b - 1 : Nat) : Int) with
    | some cs => unevenT (fst b) cs
    | none => []
  else []
def readR (b : List Nat) : List Int :=
  if b.length < 11 ∨ cnt b < 1 ∨ 1000 < cnt b then []
  else if b.getD 0 0 = 0 then wholeT (fst b) (rst b) (min (cnt b - 1) ((rst b).length / 8))
  else if b.getD 0 0 = 1 then (if 8 ≤ (rst b).length then evenT (fst b) (num8 (rst b) 0) (cnt b - 1) else [fst b])
  else if b.getD 0 0 = 2 then unevenT (fst b) ((unpacks (rst b) ((cnt b - 1 : Nat) : Int)).getD [])
  else [fst b]

theorem fst_in (b : List Nat) : -9223372036854775808 ≤ fst b ∧ fst b ≤ 9223372036854775807 := wrap_in _
theorem wholeT_in {t : Int} (h : -9223372036854775808 ≤ t ∧ t ≤ 9223372036854775807) (r : List Nat) (m : Nat) : In (wholeT t r m) := by
  intro x hx
  obtain ⟨i, _, rfl⟩ := tab_mem hx
  split
  · exact h
  · split
    · exact wrap_in _
    · omega
theorem evenT_in (t : Int) (d m : Nat) : In (evenT t d m) := by
  intro x hx
  obtain ⟨i, _, rfl⟩ := tab_mem hx
  exact wrap_in _
theorem unevenT_in (t : Int) (cs : List Nat) : In (unevenT t cs) := by
  intro x hx
  obtain ⟨i, _, rfl⟩ := tab_mem hx
  exact wrap_in _
theorem nil_in : In [] := fun x hx => by simp at hx
theorem one_in {t : Int} (h : -9223372036854775808 ≤ t ∧ t ≤ 9223372036854775807) : In [t] := fun x hx => by simp at hx; rw [hx]; exact h
theorem readC_in (b : List Nat) : In (readC b) := by
  unfold readC
  split
  · exact nil_in
  · split
    · exact wholeT_in (fst_in b) _ _
    · split
      · exact evenT_in _ _ _
      · split
        · split
          · exact unevenT_in _ _
          · exact nil_in
        · exact nil_in
theorem readR_in (b : List Nat) : In (readR b) := by
  unfold readR
  split
  · exact nil_in
  · split
    · exact wholeT_in (fst_in b) _ _
    · split
      · split
        · exact evenT_in _ _ _
        · exact one_in (fst_in b)
      · split
        · exact unevenT_in _ _
        · exact one_in (fst_in b)
theorem unpacks_len {b l : List Nat} {n : Nat} (h : unpacks b (n : Int) = some l) : l.length = n := by
  unfold unpacks at h
  split at h
  · cases hr : reads (n : Int).toNat [] (wordsOf b (b.length / 8)) with
    | none => rw [hr] at h; cases h
    | some l' =>
      rw [hr] at h
      simp only [Option.bind_some] at h
      split at h
      · rename_i h'
        cases h
        omega
      · cases h
  · cases h
theorem readC_len (b : List Nat) : (readC b).length ≤ 1000 := by
  unfold readC
  split
  · simp
  · split
    · simp only [wholeT, tab_len]; omega
    · split
      · simp only [evenT, tab_len]; omega
      · split
        · split
          · rename_i h
            have := unpacks_len h
            simp only [unevenT, tab_len]; omega
          · simp
        · simp
theorem readR_len (b : List Nat) : (readR b).length ≤ 1000 := by
  unfold readR
  split
  · simp
  · split
    · simp only [wholeT, tab_len]; omega
    · split
      · split
        · simp only [evenT, tab_len]; omega
        · simp
      · split
        · cases h : unpacks (rst b) ((cnt b - 1 : Nat) : Int) with
          | none => simp [unevenT, tab_len]
          | some l => have := unpacks_len h; simp only [unevenT, tab_len, Option.getD_some]; omega
        · simp

theorem head_get (m : Nat) (T : List Int) (r : List Nat) (hT : T.length ≤ 1000) (hI : In T) :
    (head m T ++ r).length = 11 + r.length ∧ (head m T ++ r).getD 0 0 = m ∧ cnt (head m T ++ r) = T.length ∧ fst (head m T ++ r) = T.getD 0 0 ∧ rst (head m T ++ r) = r := by
  refine ⟨by rw [List.length_append, head_len], rfl, ?_, ?_, ?_⟩
  · show T.length / 256 % 256 * 256 + T.length % 256 = _
    omega
  · unfold fst
    rw [head_form]
    have := num8_eight [m, T.length / 256 % 256, T.length % 256] r (ut (T.getD 0 0)) (ut_lt _)
    rw [show [m, T.length / 256 % 256, T.length % 256].length = 3 from rfl] at this
    rw [this, wrap_ut (hI.get 0)]
  · unfold rst
    rw [List.drop_append_of_le_length (by rw [head_len]; omega), List.drop_of_length_le (by rw [head_len]; omega), List.nil_append]

theorem flat_num8 (ws : List Nat) (hw : ∀ x ∈ ws, x < 2 ^ 64) (k : Nat) (hk : k < ws.length) : num8 (flat ws) (8 * k) = ws.getD k 0 := by
  have e : ws = ws.take k ++ [ws.getD k 0] ++ ws.drop (k + 1) := by
    rw [List.getD_eq_getElem?_getD, List.getElem?_eq_getElem hk, Option.getD_some, List.take_append_getElem, List.take_append_drop]
  have h := num8_eight (flat (ws.take k)) (flat (ws.drop (k + 1))) (ws.getD k 0) (by
    rw [List.getD_eq_getElem?_getD, List.getElem?_eq_getElem hk]; exact hw _ (List.getElem_mem hk))
  rw [flat_len, List.length_take, show min k ws.length = k from by omega] at h
  rw [← flat_snoc, ← flat_append, ← e] at h
  exact h

theorem whole_back {T : List Int} (hI : In T) (h1 : 1 ≤ T.length) (m : Nat) (hm : m + 1 = T.length) : wholeT (T.getD 0 0) (flat (others T)) m = T := by
  unfold wholeT
  refine getD_ext 0 (by rw [tab_len]; exact hm) fun i hi => ?_
  rw [tab_len] at hi
  rw [tab_get _ _ _ _ hi]
  have hl : (others T).length = T.length - 1 := tab_len _ _
  match i with
  | 0 => rfl
  | i + 1 =>
    rw [if_neg (by omega), if_pos (by rw [flat_len, hl]; omega), show 8 * (i + 1) - 8 = 8 * i from by omega, flat_num8 _ (fun x hx => by obtain ⟨j, _, rfl⟩ := tab_mem hx; exact ut_lt _) i (by omega)]
    unfold others
    rw [tab_get _ _ _ _ (by omega), wrap_ut (hI.get _)]
theorem even_mod {T : List Int} (hA : OneFar T) (k : Nat) (hk : k < T.length) : ∃ q : Int, T.getD 0 0 + (k : Int) * (dist T 0 : Nat) = T.getD k 0 + q * 18446744073709551616 := by
  induction k with
  | zero => exact ⟨0, by simp⟩
  | succ k ih =>
    obtain ⟨q, hq⟩ := ih (by omega)
    have h1 := hA k (by omega)
    have h2 := dist_of T k
    rw [h1] at h2
    rw [show ((k + 1 : Nat) : Int) * ((dist T 0 : Nat) : Int) = (k : Int) * ((dist T 0 : Nat) : Int) + ((dist T 0 : Nat) : Int) from by push_cast; rw [Int.add_mul, Int.one_mul]]
    exact ⟨q - (T.getD (k + 1) 0 - T.getD k 0) / 18446744073709551616, by omega⟩
theorem even_back {T : List Int} (hI : In T) (_h1 : 1 ≤ T.length) (hA : OneFar T) (m : Nat) (hm : m + 1 = T.length) : evenT (T.getD 0 0) (dist T 0) m = T := by
  unfold evenT
  refine getD_ext 0 (by rw [tab_len]; exact hm) fun i hi => ?_
  rw [tab_len] at hi
  rw [tab_get _ _ _ _ hi]
  obtain ⟨q, hq⟩ := even_mod hA i (by omega)
  have := hI.get i
  rw [hq]
  unfold wrap64
  omega
theorem accs_mod (T : List Int) (k : Nat) (hk : k < T.length) : ∃ q : Int, accs (chgs T) k = (prev T k : Nat) + q * 18446744073709551616 := by
  induction k with
  | zero => exact ⟨0, rfl⟩
  | succ k ih =>
    obtain ⟨q, hq⟩ := ih (by omega)
    have h1 : (chgs T).getD k 0 = chg T k := tab_get _ _ _ _ (by omega)
    simp only [accs, prev]
    rw [h1, zag_chg, hq]
    unfold wrap64
    exact ⟨q - ((dist T k : Int) - (prev T k : Int) + 9223372036854775808) / 18446744073709551616, by omega⟩
theorem tims_mod (T : List Int) (k : Nat) (hk : k < T.length) : ∃ q : Int, tims (T.getD 0 0) (chgs T) k = T.getD k 0 + q * 18446744073709551616 := by
  induction k with
  | zero => exact ⟨0, by simp [tims]⟩
  | succ k ih =>
    obtain ⟨q, hq⟩ := ih (by omega)
    obtain ⟨p, hp⟩ := accs_mod T (k + 1) hk
    have h2 := dist_of T k
    simp only [prev] at hp
    simp only [tims]
    rw [hq, hp]
    exact ⟨q + p - (T.getD (k + 1) 0 - T.getD k 0) / 18446744073709551616, by omega⟩
theorem uneven_back {T : List Int} (hI : In T) (h1 : 1 ≤ T.length) : unevenT (T.getD 0 0) (chgs T) = T := by
  unfold unevenT
  have hl : (chgs T).length = T.length - 1 := tab_len _ _
  refine getD_ext 0 (by rw [tab_len]; omega) fun i hi => ?_
  rw [tab_len] at hi
  rw [tab_get _ _ _ _ hi]
  obtain ⟨q, hq⟩ := tims_mod T i (by omega)
  have := hI.get i
  rw [hq]
  unfold wrap64
  omega

theorem readC_back {T : List Int} (hI : In T) (hO : Ok T) : readC (bytesOf T) = T := by
  obtain ⟨h1, h2, h3⟩ := hO
  unfold bytesOf
  split
  · rename_i h
    obtain ⟨g1, g2, g3, g4, g5⟩ := head_get 1 T (eight (dist T 0)) h2 hI
    unfold readC
    rw [g1, g2, g3, g4, g5, if_neg (by omega), if_neg (by decide), if_pos rfl]
    unfold farOf
    have e := num8_eight [] [] (dist T 0) (dist_lt T 0)
    simp only [List.nil_append, List.append_nil, List.length_nil] at e
    rw [eight_len, if_pos (by omega), e]
    exact even_back hI h1 h.2 _ (by omega)
  · split
    · rename_i h
      obtain ⟨g1, g2, g3, g4, g5⟩ := head_get 2 T (packs (chgs T)) h2 hI
      unfold readC
      rw [g1, g2, g3, g4, g5, if_neg (by omega), if_neg (by decide), if_neg (by decide), if_pos rfl]
      have hu := unpacks_packs h.2
      rw [show (chgs T).length = T.length - 1 from tab_len _ _] at hu
      rw [hu]
      exact uneven_back hI h1
    · obtain ⟨g1, g2, g3, g4, g5⟩ := head_get 0 T (flat (others T)) h2 hI
      unfold readC
      rw [g1, g2, g3, g4, g5, if_neg (by omega), if_pos rfl]
      exact whole_back hI h1 _ (by omega)
theorem readR_back {T : List Int} (hI : In T) (hO : Ok T) : readR (bytesOf T) = T := by
  obtain ⟨h1, h2, h3⟩ := hO
  unfold bytesOf
  split
  · rename_i h
    obtain ⟨g1, g2, g3, g4, g5⟩ := head_get 1 T (eight (dist T 0)) h2 hI
    unfold readR
    rw [g1, g2, g3, g4, g5, if_neg (by omega), if_neg (by decide), if_pos rfl]
    have e := num8_eight [] [] (dist T 0) (dist_lt T 0)
    simp only [List.nil_append, List.append_nil, List.length_nil] at e
    rw [eight_len, if_pos (by omega), e]
    exact even_back hI h1 h.2 _ (by omega)
  · split
    · rename_i h
      obtain ⟨g1, g2, g3, g4, g5⟩ := head_get 2 T (packs (chgs T)) h2 hI
      unfold readR
      rw [g1, g2, g3, g4, g5, if_neg (by omega), if_neg (by decide), if_neg (by decide), if_pos rfl]
      have hu := unpacks_packs h.2
      rw [show (chgs T).length = T.length - 1 from tab_len _ _] at hu
      rw [hu]
      exact uneven_back hI h1
    · obtain ⟨g1, g2, g3, g4, g5⟩ := head_get 0 T (flat (others T)) h2 hI
      unfold readR
      have hl : (flat (others T)).length = 8 * (T.length - 1) := by rw [flat_len]; unfold others; rw [tab_len]
      rw [g1, g2, g3, g4, g5, if_neg (by omega), if_pos rfl, hl]
      exact whole_back hI h1 _ (by omega)

/-- The times whose bytes b are. -/
def dec (b : List Nat) : Option (List Int) := if Ok (readC b) ∧ bytesOf (readC b) = b then some (readC b) else none
theorem dec_R (b : List Nat) : (if Ok (readR b) ∧ bytesOf (readR b) = b then some (readR b) else none) = dec b := by
  unfold dec
  by_cases h : Ok (readR b) ∧ bytesOf (readR b) = b
  · have e := readC_back (readR_in b) h.1
    rw [h.2] at e
    rw [if_pos h, e, if_pos h]
  · rw [if_neg h, if_neg]
    intro h'
    have e := readR_back (readC_in b) h'.1
    rw [h'.2] at e
    rw [e] at h
    exact h h'
theorem dec_back {T : List Int} (hI : In T) (hO : Ok T) : dec (bytesOf T) = some T := by
  unfold dec
  rw [readC_back hI hO, if_pos ⟨hO, rfl⟩]
theorem dec_some {b : List Nat} {T : List Int} (h : dec b = some T) : In T ∧ Ok T ∧ bytesOf T = b := by
  unfold dec at h
  split at h
  · rename_i h'
    cases h
    exact ⟨readC_in b, h'⟩
  · cases h

theorem bytes_lt (T : List Int) : ∀ b ∈ bytesOf T, b < 256 := by
  have hh : ∀ m, m < 256 → ∀ b ∈ head m T, b < 256 := by
    intro m hm b hb
    simp only [head, two, List.mem_cons, List.mem_append, List.not_mem_nil, or_false] at hb
    rcases hb with rfl | (rfl | rfl) | hb
    · exact hm
    · omega
    · omega
    · exact eight_lt _ _ hb
  unfold bytesOf
  intro b hb
  split at hb
  · rcases List.mem_append.1 hb with h | h
    · exact hh 1 (by decide) b h
    · exact eight_lt _ _ h
  · split at hb
    · rcases List.mem_append.1 hb with h | h
      · exact hh 2 (by decide) b h
      · exact flat_lt _ _ h
    · rcases List.mem_append.1 hb with h | h
      · exact hh 0 (by decide) b h
      · exact flat_lt _ _ h
theorem bytes_len (T : List Int) (hT : T.length ≤ 1000) : 11 ≤ (bytesOf T).length ∧ (bytesOf T).length ≤ 8011 := by
  have hl : (chgs T).length = T.length - 1 := tab_len _ _
  have ho : (others T).length = T.length - 1 := tab_len _ _
  unfold bytesOf
  split
  · rw [List.length_append, head_len, eight_len]; omega
  · split
    · have := words_len (chgs T)
      rw [List.length_append, head_len, packs_len]; omega
    · rw [List.length_append, head_len, flat_len]; omega
end Tm
end Go.Proofs.YtjmddomkoholoaaGreatDoor
