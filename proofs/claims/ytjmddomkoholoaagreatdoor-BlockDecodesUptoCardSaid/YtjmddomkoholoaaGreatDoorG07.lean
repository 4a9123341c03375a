import Derived.Test.YtjmddomkoholoaaGreatDoorG06
import Derived.Test.YtjmddomkoholoaaGreatDoorG05
import Derived.Deep.DeepCutAuto
import Derived.Laws.AppendOwnNone
import Derived.OwnWalk
import Derived.Laws.OwnMore
import Derived.Lib.SmallJoins
import Derived.Maps.AppendAt

/- What is read of the bytes of booleans, integers and strings: plain mathematics. -/
namespace Go.Proofs.YtjmddomkoholoaaGreatDoor
open Go.RowKit
namespace Cm
open Bm Sz

/-- What a reading must come to: all that T can be. -/
def Rdk (k : Int) (n : Nat) (b : List Nat) (T' : List Vl) : Prop := T'.length ≤ n ∧ (∀ v ∈ T', v.1 = k ∧ Wv v) ∧ ∀ T, Of k n b T → T = T'
theorem Rdk.nil {k : Int} {n : Nat} {b : List Nat} (h : ∀ T, ¬ Of k n b T) : Rdk k n b [] := ⟨Nat.zero_le _, fun v hv => by simp at hv, fun T hT => absurd hT (h T)⟩
theorem Rdk.floats {n : Nat} {b out : List Nat} {q : Option Nat} (hg : GO b n out q) (hl : out.length = n) (hx : ∀ x ∈ out, x < 18446744073709551616) : Rdk 1 n b (mk 1 out) :=
  ⟨by rw [mk_len]; omega, mk_wv (by decide) hx, fun T hT => go_done hg hl T hT⟩

/-! Booleans. -/
def tab {α : Type} (f : Nat → α) (k : Nat) : List α := (List.range k).map f
theorem tab_succ {α : Type} (f : Nat → α) (k : Nat) : tab f (k + 1) = tab f k ++ [f k] := by simp [tab, List.range_succ]
theorem tab_len {α : Type} (f : Nat → α) (k : Nat) : (tab f k).length = k := by simp [tab]
theorem tab_mem {α : Type} {f : Nat → α} {k : Nat} {x : α} (h : x ∈ tab f k) : ∃ i, i < k ∧ x = f i := by
  simp only [tab, List.mem_map, List.mem_range] at h
  obtain ⟨i, hi, rfl⟩ := h
  exact ⟨i, hi, rfl⟩
theorem tab_eq {U : List Nat} {f : Nat → Nat} {n : Nat} (hl : U.length = n) (h : ∀ i, i < n → U.getD i 0 = f i) : U = tab f n := by
  apply List.ext_getElem (by rw [tab_len]; exact hl)
  intro i h1 h2
  have := h i (by omega)
  rw [List.getD_eq_getElem?_getD, List.getElem?_eq_getElem h1] at this
  simpa [tab] using this
def bitN (b : List Nat) (i : Nat) : Nat := if i + 1 ≤ 8 * b.length then num (bo b) i 1 else 0
theorem bitN_lt (b : List Nat) (i : Nat) : bitN b i < 2 := by
  unfold bitN
  split
  · exact num_lt _ _ 1
  · decide
theorem bools {n : Nat} {b : List Nat} {T : List Vl} (h : Of 3 n b T) : n ≤ 8 * b.length ∧ T = mk 3 (tab (bitN b) n) := by
  obtain ⟨_, _, p3, _, _⟩ := h.parts
  have e := h.enc1.2.2.1 rfl
  have hl := h.ns_lt.2
  have hb : ∀ x ∈ ns T, x ≤ 1 := by
    intro x hx
    simp only [ns, List.mem_map] at hx
    obtain ⟨v, hv, rfl⟩ := hx
    exact formed_bool (p3 v hv) (h.2.1 v hv).1
  have hbl : (bbits (ns T)).length = n := by simp [bbits, hl]
  have hT : n ≤ 8 * b.length := by rw [e]; have := pk_room (bbits (ns T)); omega
  refine ⟨hT, ?_⟩
  refine (h.mk (by decide)).trans (congrArg (mk 3) (tab_eq hl fun i hi => ?_))
  unfold bitN
  rw [if_pos (by omega)]
  have hi' : i < (ns T).length := by omega
  have e1 : num (bo b) i 1 = b2n (bo b i) := by simp [num]
  rw [e1, e, bo_pk _ _ (by rw [← e]; omega)]
  unfold ofL bbits
  rw [List.getD_eq_getElem?_getD, List.getD_eq_getElem?_getD, List.getElem?_map, List.getElem?_eq_getElem hi']
  have := hb _ (List.getElem_mem hi')
  simp only [Option.map_some, Option.getD_some, Nat.testBit_zero, b2n]
  split <;> rename_i h0 <;> simp at h0 <;> omega
theorem Rdk.bools {n : Nat} {b : List Nat} : Rdk 3 n b (mk 3 (tab (bitN b) n)) ∧ Rdk 3 n b (mk 3 (tab (bitN b) (min n (8 * b.length)))) := by
  have hw : ∀ k, ∀ x ∈ tab (bitN b) k, x < 18446744073709551616 := fun k x hx => by
    obtain ⟨i, _, rfl⟩ := tab_mem hx
    have := bitN_lt b i
    omega
  refine ⟨⟨by rw [mk_len, tab_len]; omega, mk_wv (by decide) (hw n), fun T hT => (Cm.bools hT).2⟩, ⟨by rw [mk_len, tab_len]; omega, mk_wv (by decide) (hw _), fun T hT => ?_⟩⟩
  have := Cm.bools hT
  rw [show min n (8 * b.length) = n from by omega]
  exact this.2

/-! Integers. -/
theorem flat_num8 (ws : List Nat) (hw : ∀ x ∈ ws, x < 2 ^ 64) (k : Nat) (hk : k < ws.length) : Mt.num8 (Mt.flat ws) (8 * k) = ws.getD k 0 := by
  have e : ws = ws.take k ++ [ws.getD k 0] ++ ws.drop (k + 1) := by
    rw [List.getD_eq_getElem?_getD, List.getElem?_eq_getElem hk, Option.getD_some, List.take_append_getElem, List.take_append_drop]
  have h := Mt.num8_eight (Mt.flat (ws.take k)) (Mt.flat (ws.drop (k + 1))) (ws.getD k 0) (by
    rw [List.getD_eq_getElem?_getD, List.getElem?_eq_getElem hk]; exact hw _ (List.getElem_mem hk))
  rw [Mt.flat_len, List.length_take, show min k ws.length = k from by omega] at h
  rw [← Mt.flat_snoc, ← Mt.flat_append, ← e] at h
  exact h
def word (r : List Nat) (k : Nat) : Nat := if 8 * (k + 1) ≤ r.length then Mt.num8 r (8 * k) else 0
theorem ints {n m : Nat} {r : List Nat} {T : List Vl} (h : Of 2 n (m :: r) T) :
    (m = 0 ∧ 8 * n ≤ r.length ∧ ∀ (_ : ∀ x ∈ r, x < 256), T = mk 2 (tab (word r) n)) ∨ (m = 1 ∧ ∃ l, Mt.unpacks r (n : Int) = some l ∧ T = mk 2 (acs 0 l)) := by
  have e := h.enc1.2.1 rfl
  have hl := h.ns_lt
  unfold ibytes at e
  split at e
  · rename_i hS
    simp only [List.cons.injEq] at e
    obtain ⟨rfl, rfl⟩ := e
    have hu := Mt.unpacks_packs hS
    rw [sts_len, hl.2] at hu
    refine .inr ⟨rfl, _, hu, ?_⟩
    rw [acs_sts _ _ hl.1]
    exact h.mk (by decide)
  · simp only [List.cons.injEq] at e
    obtain ⟨rfl, rfl⟩ := e
    refine .inl ⟨rfl, by rw [Mt.flat_len, hl.2]; omega, fun _ => ?_⟩
    refine (h.mk (by decide)).trans (congrArg (mk 2) (tab_eq hl.2 fun i hi => ?_))
    unfold word
    rw [if_pos (by rw [Mt.flat_len, hl.2]; omega), flat_num8 _ hl.1 i (by omega)]
theorem ints_none {n : Nat} (T : List Vl) : ¬ Of 2 n [] T := fun h => by
  have e := h.enc1.2.1 rfl
  unfold ibytes at e
  split at e <;> cases e
theorem num8_lt {r : List Nat} (h : ∀ x ∈ r, x < 256) (j : Nat) : Mt.num8 r j < 18446744073709551616 := by
  have g := fun i => getD_lt h i
  unfold Mt.num8
  have := g j; have := g (j + 1); have := g (j + 2); have := g (j + 3); have := g (j + 4); have := g (j + 5); have := g (j + 6); have := g (j + 7)
  omega
theorem word_lt {r : List Nat} (h : ∀ x ∈ r, x < 256) (k : Nat) : word r k < 18446744073709551616 := by
  unfold word
  split
  · exact num8_lt h _
  · decide
theorem Rdk.plain {n : Nat} {r : List Nat} (hX : ∀ x ∈ r, x < 256) : Rdk 2 n (0 :: r) (mk 2 (tab (word r) n)) ∧ Rdk 2 n (0 :: r) (mk 2 (tab (word r) (min n (r.length / 8)))) := by
  have hw : ∀ k, ∀ x ∈ tab (word r) k, x < 18446744073709551616 := fun k x hx => by
    obtain ⟨i, _, rfl⟩ := tab_mem hx
    exact word_lt hX i
  have key : ∀ T, Of 2 n (0 :: r) T → 8 * n ≤ r.length ∧ T = mk 2 (tab (word r) n) := fun T hT => by
    rcases ints hT with ⟨_, h1, h2⟩ | ⟨h, _⟩
    · exact ⟨h1, h2 hX⟩
    · cases h
  refine ⟨⟨by rw [mk_len, tab_len]; omega, mk_wv (by decide) (hw n), fun T hT => (key T hT).2⟩, ⟨by rw [mk_len, tab_len]; omega, mk_wv (by decide) (hw _), fun T hT => ?_⟩⟩
  obtain ⟨h1, h2⟩ := key T hT
  rw [show min n (r.length / 8) = n from by omega]
  exact h2
theorem unpacks_len {b l : List Nat} {n : Nat} (h : Mt.unpacks b (n : Int) = some l) : l.length = n := by
  unfold Mt.unpacks at h
  split at h
  · cases hr : Mt.reads (n : Int).toNat [] (Mt.wordsOf b (b.length / 8)) with
    | none => rw [hr] at h; cases h
    | some l' =>
      rw [hr] at h
      simp only [Option.bind_some] at h
      split at h
      · rename_i h'
        cases h
        omega
      · cases h
  · cases h
theorem Rdk.steps {n : Nat} {r l : List Nat} (h : Mt.unpacks r (n : Int) = some l) : Rdk 2 n (1 :: r) (mk 2 (acs 0 l)) := by
  refine ⟨by rw [mk_len, acs_len, unpacks_len h]; omega, mk_wv (by decide) (acs_lt l 0), fun T hT => ?_⟩
  rcases ints hT with ⟨h', _⟩ | ⟨_, l', h1, h2⟩
  · cases h'
  · rw [h] at h1
    cases h1
    exact h2
theorem Rdk.steps_none {n : Nat} {r : List Nat} (h : Mt.unpacks r (n : Int) = none) : Rdk 2 n (1 :: r) [] := Rdk.nil fun T hT => by
  rcases ints hT with ⟨h', _⟩ | ⟨_, l', h1, h2⟩
  · cases h'
  · rw [h] at h1; cases h1
theorem Rdk.ints_other {n m : Nat} {r : List Nat} (h0 : m ≠ 0) (h1 : m ≠ 1) : Rdk 2 n (m :: r) [] := Rdk.nil fun T hT => by
  rcases ints hT with ⟨h', _⟩ | ⟨h', _⟩
  · exact h0 h'
  · exact h1 h'

/-! Strings. -/
def TB (B : List Nat) (n : Nat) (U : List (List Nat)) : Prop := U.length = n ∧ (∀ t ∈ U, t.length < 18446744073709551616) ∧ laidT U = B
def GT (B : List Nat) (n : Nat) (outs : List (List Nat)) (rest : List Nat) : Prop := ∀ U, TB B n U → ∃ r, U = outs ++ r ∧ rest = laidT r
def NT (B : List Nat) (n : Nat) : Prop := ∀ U, ¬ TB B n U
theorem gt_start (B : List Nat) (n : Nat) : GT B n [] B := fun U hU => ⟨U, rfl, hU.2.2.symm⟩
theorem gt_core {B : List Nat} {n : Nat} {outs : List (List Nat)} {rest : List Nat} {x k : Nat} (hg : GT B n outs rest) (hl : outs.length < n) (hr : Sm.Res rest x k) (U : List (List Nat)) (hU : TB B n U) :
    k ≠ 0 ∧ k ≤ rest.length ∧ x ≤ rest.length - k ∧ ∃ r, U = outs ++ [(rest.drop k).take x] ++ r ∧ rest.drop (k + x) = laidT r := by
  obtain ⟨r, h1, h2⟩ := hg U hU
  cases r with
  | nil => have := hU.1; rw [h1] at this; simp at this; omega
  | cons t r =>
    have ht := hU.2.1 t (by rw [h1]; simp)
    obtain ⟨g1, g2, g3⟩ := Sm.short_good ht (short_is ht) (t ++ laidT r)
    have e : rest = short t.length ++ (t ++ laidT r) := h2
    rw [← e] at g1 g2
    have hres : Sm.Res rest t.length (short t.length).length := .inl ⟨_, g1, by rw [show (short t.length).length - 1 + 1 = (short t.length).length from by omega, g2], by omega⟩
    obtain ⟨rfl, rfl⟩ := hr.unique hres
    have hd : rest.drop (short t.length).length = t ++ laidT r := by rw [e, List.drop_left]
    have hlen : rest.length = (short t.length).length + (t.length + (laidT r).length) := by rw [e]; simp
    refine ⟨by omega, by omega, by omega, r, ?_, ?_⟩
    · rw [hd, List.take_left, h1]; simp
    · rw [← List.drop_drop, hd, List.drop_left]
theorem gt_none {B : List Nat} {n : Nat} {outs : List (List Nat)} {rest : List Nat} {x k : Nat} (hg : GT B n outs rest) (hl : outs.length < n) (hr : Sm.Res rest x k) (h : k = 0 ∨ rest.length - k < x) : NT B n := fun U hU => by
  obtain ⟨a, _, c, _⟩ := gt_core hg hl hr U hU
  omega
theorem gt_step {B : List Nat} {n : Nat} {outs : List (List Nat)} {rest : List Nat} {x k : Nat} (hg : GT B n outs rest) (hl : outs.length < n) (hr : Sm.Res rest x k) : GT B n (outs ++ [(rest.drop k).take x]) (rest.drop (k + x)) := fun U hU => by
  obtain ⟨_, _, _, r, h1, h2⟩ := gt_core hg hl hr U hU
  exact ⟨r, h1, h2⟩
theorem gt_empty {B : List Nat} {n : Nat} {outs : List (List Nat)} (hg : GT B n outs []) (hl : outs.length < n) : NT B n := fun U hU => by
  obtain ⟨r, h1, h2⟩ := hg U hU
  cases r with
  | nil => have := hU.1; rw [h1] at this; simp at this; omega
  | cons t r =>
    have := congrArg List.length h2
    simp [laidT] at this
    have := short_len t.length
    omega
theorem texts {n m : Nat} {r : List Nat} {T : List Vl} (h : Of 4 n (m :: r) T) : TB (laidT (ts T)) n (ts T) ∧ ((m = 0 ∧ r = laidT (ts T)) ∨ (m = 1 ∧ Lu.unp 4194304 [] r = .ok (laidT (ts T)))) := by
  obtain ⟨_, _, p3, _, _⟩ := h.parts
  obtain ⟨h1, e⟩ := h.enc1.2.2.2 rfl
  refine ⟨⟨by simp [ts, h.1], fun t ht => ?_, rfl⟩, ?_⟩
  · simp only [ts, List.mem_map] at ht
    obtain ⟨v, hv, rfl⟩ := ht
    have := (formed_num (p3 v hv) (h.2.1 v hv).1).2
    omega
  · unfold sbytes at e
    split at e
    · simp only [List.cons.injEq] at e
      obtain ⟨rfl, rfl⟩ := e
      exact .inr ⟨rfl, Lu.unp_packs (by omega)⟩
    · simp only [List.cons.injEq] at e
      obtain ⟨rfl, rfl⟩ := e
      exact .inl ⟨rfl, rfl⟩
theorem texts_none {n : Nat} (T : List Vl) : ¬ Of 4 n [] T := fun h => by
  obtain ⟨h1, e⟩ := h.enc1.2.2.2 rfl
  unfold sbytes at e
  split at e <;> cases e
/-- B are the texts that the bytes m :: r have. -/
def Tx (m : Nat) (r B : List Nat) : Prop := (m = 0 ∧ r = B) ∨ (m = 1 ∧ Lu.unp 4194304 [] r = .ok B)
theorem Rdk.texts {n m : Nat} {r B : List Nat} {outs : List (List Nat)} {rest : List Nat} (hx : Tx m r B) (hg : GT B n outs rest) (hl : outs.length = n) (hb : ∀ t ∈ outs, ∀ x ∈ t, x < 256) : Rdk 4 n (m :: r) (mkT outs) := by
  refine ⟨by rw [mkT_len]; omega, mkT_wv hb, fun T hT => ?_⟩
  obtain ⟨h1, h2⟩ := Cm.texts hT
  have e : laidT (ts T) = B := by
    rcases hx with ⟨rfl, rfl⟩ | ⟨rfl, hx⟩
    · rcases h2 with ⟨_, h2⟩ | ⟨h, _⟩
      · exact h2.symm
      · cases h
    · rcases h2 with ⟨h, _⟩ | ⟨_, h2⟩
      · cases h
      · rw [hx] at h2; cases h2; rfl
  rw [e] at h1
  obtain ⟨r', h3, _⟩ := hg _ h1
  have : r' = [] := by
    have := h1.1
    rw [h3, List.length_append] at this
    exact List.length_eq_zero_iff.1 (by omega)
  rw [hT.mkT, h3, this, List.append_nil]
theorem Rdk.no_texts {n m : Nat} {r B : List Nat} (hx : Tx m r B) (hg : NT B n) (T : List Vl) : ¬ Of 4 n (m :: r) T := fun hT => by
  obtain ⟨h1, h2⟩ := Cm.texts hT
  have e : laidT (ts T) = B := by
    rcases hx with ⟨rfl, rfl⟩ | ⟨rfl, hx⟩
    · rcases h2 with ⟨_, h2⟩ | ⟨h, _⟩
      · exact h2.symm
      · cases h
    · rcases h2 with ⟨h, _⟩ | ⟨_, h2⟩
      · cases h
      · rw [hx] at h2; cases h2; rfl
  rw [e] at h1
  exact hg _ h1
theorem Rdk.no_packed {n : Nat} {r : List Nat} {c : Nat} (hx : Lu.unp 4194304 [] r = .error c) (T : List Vl) : ¬ Of 4 n (1 :: r) T := fun hT => by
  obtain ⟨h1, ⟨h, _⟩ | ⟨_, h2⟩⟩ := Cm.texts hT
  · cases h
  · rw [hx] at h2; cases h2
theorem Rdk.no_other {n m : Nat} {r : List Nat} (h0 : m ≠ 0) (h1 : m ≠ 1) (T : List Vl) : ¬ Of 4 n (m :: r) T := fun hT => by
  obtain ⟨_, ⟨h, _⟩ | ⟨h, _⟩⟩ := Cm.texts hT
  · exact h0 h
  · exact h1 h
/-- Where fewer were read than asked for, there are none. -/
theorem Rdk.short {k : Int} {n : Nat} {b : List Nat} {T' : List Vl} (h : Rdk k n b T') (hl : T'.length ≠ n) (T : List Vl) : ¬ Of k n b T := fun hT => hl (by rw [← h.2.2 T hT]; exact hT.1)
end Cm
end Go.Proofs.YtjmddomkoholoaaGreatDoor

/- The program's side: fits, next, allFit, leastCode, laid. -/
namespace Go.Proofs.YtjmddomkoholoaaGreatDoor
open Go.RowKit
namespace Pk
open Mt

/-- A slice whose cells are these numbers. -/
def Iu (w : World) (v : Value) (L : List Nat) : Prop :=
  (∀ x ∈ L, x < 18446744073709551616) ∧ ((∃ a c, v = .slice a 0 c ∧ L = []) ∨
    ∃ b off c, v = .slice (some ⟨b, off, none⟩) L.length c ∧ L.length ≤ c ∧ b < w.heap.size ∧ ∀ i, i < L.length → w.cell? ⟨b, off + i, none⟩ = some (.int .u64 (L.getD i 0 : Nat)))
/-- The widths lie in their table. -/
def Tab (w : World) : Prop := 1 < w.heap.size ∧ ∀ s, s < 14 → w.cell? ⟨1, s, none⟩ = some (.int .i64 (W s : Nat))
theorem Tab.drewN {w : World} (h : Tab w) (n : Nat) : Tab (w.drewN n) := h

theorem fit_dec (v n : Nat) : ((v : Int) / 2 ^ n == 0) = decide (v < 2 ^ n) := by
  have e : (v : Int) / 2 ^ n = ((v / 2 ^ n : Nat) : Int) := by push_cast; rfl
  rw [e]
  by_cases h : v < 2 ^ n
  · rw [Nat.div_eq_of_lt h, decide_eq_true h]; rfl
  · have h1 : 0 < v / 2 ^ n := Nat.div_pos (by omega) (Nat.two_pow_pos n)
    rw [decide_eq_false h]
    simp
    omega

set_option maxRecDepth 100000 in
theorem fits15 (v n : Nat) (hn : n ≤ 60) (w : World) : Calls Tryz.prog 132 #[.int .u64 (v : Nat), .int .i64 (n : Nat)] w fun e w' => e = .returned (.bool (decide (v < 2 ^ n))) ∧ w' = w := by
  go_enter Tryz.func132, Tryz.ntmps132
  go_wp2_with fail
  rw [fit_dec]
  go_ret
  exact ⟨rfl, rfl⟩
theorem fits_yes (v n : Nat) (hn : n ≤ 60) (h : v < 2 ^ n) (w : World) : Calls Tryz.prog 132 #[.int .u64 (v : Nat), .int .i64 (n : Nat)] w fun e w' => e = .returned (.bool true) ∧ w' = w := by
  have := fits15 v n hn w
  rwa [decide_eq_true h] at this
theorem fits_no (v n : Nat) (hn : n ≤ 60) (h : ¬ v < 2 ^ n) (w : World) : Calls Tryz.prog 132 #[.int .u64 (v : Nat), .int .i64 (n : Nat)] w fun e w' => e = .returned (.bool false) ∧ w' = w := by
  have := fits15 v n hn w
  rwa [decide_eq_false h] at this

set_option maxRecDepth 100000 in
theorem next22 (w : World) (b off n c s : Nat) (hn : n ≤ c) (hb : n ≤ 17592186044159) : Calls Tryz.prog 159 #[.slice (some ⟨b, off, none⟩) n c, .int .i64 (W s : Nat)] w fun e w' => e = .returned (.slice (some ⟨b, off, none⟩) (min (cap s) n) c) ∧ w' = w := by
  have h1 := W_pos s
  have h2 := W_le s
  have h3 : (60 : Int) / (W s : Nat) = (cap s : Nat) := rfl
  have h4 := cap_pos s
  have h5 := cap_le s
  obtain ⟨C, hC⟩ : ∃ C, C = cap s := ⟨_, rfl⟩
  obtain ⟨U, hU⟩ : ∃ U, U = W s := ⟨_, rfl⟩
  rw [← hU] at h1 h2 h3 ⊢
  rw [← hC] at h3 h4 h5 ⊢
  clear hC hU
  go_enter Tryz.func159, Tryz.ntmps159
  go_wp2_with fail
  · go_ret
    exact ⟨by rw [show min C n = C from by omega]; rfl, rfl⟩
  · go_ret
    exact ⟨by rw [show min C n = n from by omega]; rfl, rfl⟩

set_option maxRecDepth 100000 in
theorem allFit28 (w : World) (b off n c : Nat) (g : Nat → Nat) (u : Nat) (hu : u ≤ 60) (hn : n ≤ 17592186044159) (hc : ∀ i, i < n → w.cell? ⟨b, off + i, none⟩ = some (.int .u64 (g i : Nat))) :
    Calls Tryz.prog 175 #[.slice (some ⟨b, off, none⟩) n c, .int .i64 (u : Nat)] w fun e w' => e = .returned (.bool (decide (∀ i, i < n → g i < 2 ^ u))) ∧ w' = w := by
  have HC := Lib.hid hc
  clear hc
  go_enter Tryz.func175, Tryz.ntmps175
  go_wp2_with fail
  go_loop [9] (fun i => ∃ k, k ≤ n ∧ i = .int .i64 (k : Nat) ∧ ∀ j, j < k → g j < 2 ^ u) (fun i => n - (intOf i).toNat)
  case atStart => exact ⟨0, Nat.zero_le _, rfl, fun j hj => by omega⟩
  case round =>
    obtain ⟨k, hk, rfl, hall⟩ := hrel
    have HA := Lib.hid hall
    clear hall
    by_cases hkn : k < n
    · have e := HC.out k hkn
      by_cases hf : g k < 2 ^ u
      · have HF := Lib.hid hf
        clear hf
        go_wp2_with (go_at_call 132; refine (fits_yes _ _ hu HF.out _).mono ?_; rintro e w2 ⟨rfl, rfl⟩)
        go_round
        case rel =>
          refine ⟨k + 1, by omega, by go_num, fun j hj => ?_⟩
          by_cases e : j = k
          · subst e; exact HF.out
          · exact HA.out j (by omega)
        case measure => simp [intOf]; omega
      · have HF := Lib.hid hf
        clear hf
        go_wp2_with (go_at_call 132; refine (fits_no _ _ hu HF.out _).mono ?_; rintro e w2 ⟨rfl, rfl⟩)
        go_ret
        exact ⟨by rw [decide_eq_false (fun h => HF.out (h k hkn))]; rfl, rfl⟩
    · obtain rfl : k = n := by omega
      go_wp2_with fail
      go_ret
      exact ⟨by rw [decide_eq_true HA.out]; rfl, rfl⟩

set_option maxRecDepth 100000 in
theorem laid24 (w : World) (b off n c : Nat) (l : List Nat) (u : Nat) (hu : n * u ≤ 60) (hu6 : u ≤ 60) (hn : n ≤ 60) (hg : ∀ i, i < n → l.getD i 0 < 2 ^ u) (hc : ∀ i, i < n → w.cell? ⟨b, off + i, none⟩ = some (.int .u64 (l.getD i 0 : Nat))) :
    Calls Tryz.prog 160 #[.slice (some ⟨b, off, none⟩) n c, .int .i64 (u : Nat)] w fun e w' => e = .returned (.int .u64 (laid u l n : Nat)) ∧ w' = w := by
  have HC := Lib.hid hc
  have HG := Lib.hid hg
  have HU := Lib.hid hu
  clear hc hg hu
  go_enter Tryz.func160, Tryz.ntmps160
  go_wp2_with fail
  go_loop [5, 10] (fun v i => ∃ k, k ≤ n ∧ i = .int .i64 (k : Nat) ∧ v = .int .u64 (laid u l k : Nat)) (fun _ i => n - (intOf i).toNat)
  case atStart => exact ⟨0, Nat.zero_le _, rfl, rfl⟩
  case round =>
    obtain ⟨k, hk, rfl, rfl⟩ := hrel
    by_cases hkn : k < n
    · have e := HC.out k hkn
      have hku : (k + 1) * u ≤ 60 := Nat.le_trans (Nat.mul_le_mul_right _ hkn) HU.out
      have h0 : ((k * u : Nat) : Int) = (k : Int) * (u : Int) := by push_cast; rfl
      rw [Nat.add_mul, Nat.one_mul] at hku
      have hor : ∃ D : Nat, D = l.getD k 0 ∧ bits .or .u64 ((laid u l k : Nat) : Int) (IntKind.u64.wrap ((D : Int) * 2 ^ (k * u))) = ((laid u l (k + 1) : Nat) : Int) := by
        refine ⟨_, rfl, ?_⟩
        have h1 := laid_lt (w := u) (l := l) k (fun i hi => HG.out i (by omega))
        have h2 := HG.out k hkn
        have h3 : 2 ^ (k * u) ≤ 2 ^ 60 := Nat.pow_le_pow_right (by decide) (by omega)
        have h4 : l.getD k 0 * 2 ^ (k * u) < 2 ^ 60 := by
          have h5 : l.getD k 0 * 2 ^ (k * u) < 2 ^ u * 2 ^ (k * u) := Nat.mul_lt_mul_of_pos_right h2 (Nat.two_pow_pos _)
          rw [← Nat.pow_add] at h5
          exact Nat.lt_of_lt_of_le h5 (Nat.pow_le_pow_right (by decide) (by omega))
        have e1 : ((l.getD k 0 : Nat) : Int) * 2 ^ (k * u) = ((l.getD k 0 * 2 ^ (k * u) : Nat) : Int) := by push_cast; rfl
        rw [e1, IntKind.wrap_u64, show ((l.getD k 0 * 2 ^ (k * u) : Nat) : Int) % 18446744073709551616 = ((l.getD k 0 * 2 ^ (k * u) : Nat) : Int) from by omega,
          u64_or_nat _ _ (by omega) (by omega), laid_or k (fun i hi => HG.out i (by omega))]
      obtain ⟨D, hD, hor⟩ := hor
      rw [← hD] at e
      obtain ⟨A, hA⟩ : ∃ A, A = laid u l k := ⟨_, rfl⟩
      obtain ⟨B, hB⟩ : ∃ B, B = laid u l (k + 1) := ⟨_, rfl⟩
      rw [← hA, ← hB] at hor
      rw [← hA]
      have HB := Lib.hid hB
      clear hD hA hB
      obtain ⟨P, hP⟩ : ∃ P, P = k * u := ⟨_, rfl⟩
      rw [← hP] at h0 hor hku
      have HP := Lib.hid hP
      clear hP
      have hm : wrap64 ((k : Int) * (u : Int)) = (P : Int) := by rw [← h0]; unfold wrap64; omega
      go_wp2_with fail
      go_round
      case rel => exact ⟨k + 1, by omega, by go_num, by rw [← HP.out, hor, HB.out]⟩
      case measure => simp [intOf]; omega
    · obtain rfl : k = n := by omega
      go_wp2_with fail
      go_ret
      exact ⟨rfl, rfl⟩

set_option maxRecDepth 100000 in
theorem least21 (w : World) (b off n c : Nat) (l : List Nat) (hl : l.length = n) (hn : n ≤ c) (hb : n ≤ 17592186044159) (hS : Small l) (hT : Tab w)
    (hc : ∀ i, i < n → w.cell? ⟨b, off + i, none⟩ = some (.int .u64 (l.getD i 0 : Nat))) :
    Calls Tryz.prog 158 #[.slice (some ⟨b, off, none⟩) n c] w fun e w' => e = .returned (.int .i64 (least l : Nat)) ∧ ∃ m, w' = w.drewN m := by
  have HC := Lib.hid hc
  have HT := Lib.hid hT
  have HS := Lib.hid (least_of hS)
  have HL := Lib.hid hl
  clear hc hT hS hl
  go_enter Tryz.func158, Tryz.ntmps158
  go_wp2_with fail
  go_loopw [3] (fun i wr => ∃ k, k ≤ least l ∧ i = .int .i64 (k : Nat) ∧ ∃ m, wr = w.drewN m) (fun i _ => 14 - (intOf i).toNat)
  case atStart => exact ⟨0, Nat.zero_le _, rfl, 0, rfl⟩
  case round =>
    obtain ⟨k, hk, rfl, hm⟩ := hrel
    have hk13 : k ≤ 13 := Nat.le_trans hk HS.out.2.1
    have e : wr.cell? ⟨1, k, none⟩ = some (.int .i64 (W k : Nat)) := by obtain ⟨m, rfl⟩ := hm; exact HT.out.2 k (by omega)
    have F1 : Hid (∀ x, Calls Tryz.prog 159 #[.slice (some ⟨b, off, none⟩) n c, .int .i64 (W k : Nat)] (wr.drewN x) fun e w' => e = .returned (.slice (some ⟨b, off, none⟩) (min (cap k) n) c) ∧ w' = wr.drewN x) :=
      Lib.hid fun x => next22 _ b off n c k hn hb
    have F2 : Hid (∀ x, Calls Tryz.prog 175 #[.slice (some ⟨b, off, none⟩) (min (cap k) n) c, .int .i64 (W k : Nat)] (wr.drewN x) fun e w' => e = .returned (.bool (decide (∀ i, i < min (cap k) n → l.getD i 0 < 2 ^ W k))) ∧ w' = wr.drewN x) :=
      Lib.hid fun x => allFit28 _ b off (min (cap k) n) c (fun i => l.getD i 0) (W k) (W_le k) (by omega) (fun i hi => by obtain ⟨m, rfl⟩ := hm; exact HC.out i (by omega))
    obtain ⟨M, hM⟩ : ∃ M, M = min (cap k) n := ⟨_, rfl⟩
    obtain ⟨U, hU⟩ : ∃ U, U = W k := ⟨_, rfl⟩
    have HD : Hid (decide (∀ i, i < M → l.getD i 0 < 2 ^ U) = decide (Fit l k)) := Lib.hid (by rw [hM, hU, ← HL.out]; rfl)
    rw [← hM, ← hU] at F1 F2
    rw [← hU] at e
    clear hM hU
    obtain ⟨D, hD⟩ : ∃ D, D = decide (∀ i, i < M → l.getD i 0 < 2 ^ U) := ⟨_, rfl⟩
    rw [← hD] at F2 HD
    have HK := Lib.hid hk
    clear hD hk
    cases D with
    | false =>
      have hno : ¬ Fit l k := fun h => by have := HD.out; rw [decide_eq_true h] at this; cases this
      have hlt : k < least l := by
        by_cases e : k = least l
        · exact absurd (by rw [e]; exact HS.out.1) hno
        · have := HK.out; omega
      have HLT := Lib.hid hlt
      clear hno hlt
      go_upto_region 2 with (fail)
      go_quiet (first | (go_at_call 159; exact Calls.quiet_of_same (F1.out _)) | (go_at_call 175; exact Calls.quiet_of_same (F2.out _)))
      go_wp2_with fail
      go_roundw
      case rel => exact ⟨k + 1, HLT.out, by go_num, by obtain ⟨m, rfl⟩ := hm; exact ⟨m + nq, by rw [World.drewN_drewN]⟩⟩
      case measure => simp [intOf]; omega
    | true =>
      have hyes : Fit l k := of_decide_eq_true HD.out.symm
      have heq : k = least l := by
        by_cases e : k = least l
        · exact e
        · exact absurd hyes (HS.out.2.2 k (by have := HK.out; omega))
      have HEQ := Lib.hid heq
      clear hyes heq
      go_upto_region 2 with (fail)
      go_quiet (first | (go_at_call 159; exact Calls.quiet_of_same (F1.out _)) | (go_at_call 175; exact Calls.quiet_of_same (F2.out _)))
      go_wp2_with fail
      go_ret
      exact ⟨by rw [HEQ.out]; rfl, by obtain ⟨m, rfl⟩ := hm; exact ⟨m + nq, by rw [World.drewN_drewN]⟩⟩
end Pk
end Go.Proofs.YtjmddomkoholoaaGreatDoor

/- The writer: what it holds, and what Put, Len and Bytes do to it. -/
namespace Go.Proofs.YtjmddomkoholoaaGreatDoor
open Go.RowKit
namespace Wr
open Bm

/-- The bytes as cells. -/
def u8s (bs : List Nat) : List Value := bs.map fun b => .int .u8 (b : Nat)
theorem u8s_len (bs : List Nat) : (u8s bs).length = bs.length := by simp [u8s]
theorem u8s_snoc (bs : List Nat) (b : Nat) : u8s (bs ++ [b]) = u8s bs ++ [.int .u8 (b : Nat)] := by simp [u8s]
theorem u8s_set (bs : List Nat) (j b : Nat) : u8s (bs.set j b) = (u8s bs).set j (.int .u8 (b : Nat)) := by simp [u8s, List.map_set]
theorem u8s_get (bs : List Nat) (j : Nat) (hj : j < bs.length) : (u8s bs)[j]? = some (.int .u8 (bs.getD j 0 : Nat)) := by
  simp [u8s, List.getD_eq_getElem?_getD, hj]
theorem info5 : (Tryz.prog.info? 5).map (fun i => (i.zero, i.size, i.bytes)) = some (some (.int .u8 0), 1, 1) := by kernel_rfl

theorem ret_int {k : IntKind} {a b : Int} (h : a = b) : Ending.returned (.int k a) = .returned (.int k b) := by rw [h]

/-- The writer at block g: its bytes, and the room of the last one. -/
structure Hold (w : World) (g : Nat) (s : Value) (bs : List Nat) (f : Nat) : Prop where
  lt : g < w.heap.size
  c0 : w.cell? ⟨g, 0, none⟩ = some s
  c1 : w.cell? ⟨g, 1, none⟩ = some (.int .i64 (f : Nat))
  z0 : w.frozen? ⟨g, 0, none⟩ = false
  z1 : w.frozen? ⟨g, 1, none⟩ = false
  own : w.ownsRow (g + 1) 5 1 s bs.length (u8s bs)

/-- Nothing has turned but block g and what s owns; blocks have come. -/
structure Mv (w w' : World) (g : Nat) (s : Value) : Prop where
  os : w'.os = w.os
  tape : w'.tape = w.tape
  output : w'.output = w.output
  size : w.heap.size ≤ w'.heap.size
  block : ∀ k, k < w.heap.size → k ≠ g → s.ownBlock ≠ some k → w'.heap[k]? = w.heap[k]?
/-- What s' owns is what s owned, or new. -/
def Own (w : World) (s s' : Value) : Prop := s'.ownBlock = s.ownBlock ∨ ∃ h, s'.ownBlock = some h ∧ w.heap.size ≤ h

theorem Mv.refl (w : World) (g : Nat) (s : Value) : Mv w w g s := ⟨rfl, rfl, rfl, Nat.le_refl _, fun _ _ _ _ => rfl⟩
theorem Own.refl (w : World) (s : Value) : Own w s s := .inl rfl
theorem Mv.trans {a b c : World} {g : Nat} {s t : Value} (h : Mv a b g s) (o : Own a s t) (k : Mv b c g t) : Mv a c g s := by
  refine ⟨k.os.trans h.os, k.tape.trans h.tape, k.output.trans h.output, Nat.le_trans h.size k.size, fun i hi hg hs => ?_⟩
  rw [k.block i (Nat.lt_of_lt_of_le hi h.size) hg ?_, h.block i hi hg hs]
  rcases o with o | ⟨j, o, hj⟩
  · rw [o]; exact hs
  · rw [o]; intro e; cases e; omega
theorem Own.trans {a b : World} {s t u : Value} (h : Own a s t) (k : Own b t u) (hsz : a.heap.size ≤ b.heap.size) : Own a s u := by
  rcases k with k | ⟨j, k, hj⟩
  · rcases h with h | ⟨i, h, hi⟩
    · exact .inl (k.trans h)
    · exact .inr ⟨i, k.trans h, hi⟩
  · exact .inr ⟨j, k, by omega⟩

set_option maxRecDepth 100000 in
theorem new10 (w : World) :
    Calls Tryz.prog 92 #[] w fun e w' => e = .returned (.pointer (some ⟨w.heap.size, 0, none⟩)) ∧ Hold w' w.heap.size (.slice none 0 0) [] 0 ∧ Below w.heap.size w w' := by
  go_enter Tryz.func92, Tryz.ntmps92
  go_wp2_with fail
  go_ret
  refine ⟨rfl, ⟨by simp, by rw [cell_of_row _ _ _ _ _ _ (heap_alloc_new _ _)]; rfl, by rw [cell_of_row _ _ _ _ _ _ (heap_alloc_new _ _)]; rfl, frozen_of_row _ _ _ _ _ (heap_alloc_new _ _), frozen_of_row _ _ _ _ _ (heap_alloc_new _ _), World.ownsRow_nil _ _ _ _⟩, (Below.refl _ _).alloc (Nat.le_refl _) _⟩

theorem Hold.drewN {w : World} {g : Nat} {s : Value} {bs : List Nat} {f : Nat} (h : Hold w g s bs f) (n : Nat) : Hold (w.drewN n) g s bs f := ⟨h.lt, h.c0, h.c1, h.z0, h.z1, h.own⟩
theorem Hold.forms {w : World} {g : Nat} {s : Value} {bs : List Nat} {f : Nat} (h : Hold w g s bs f) : (s = .slice none 0 0 ∧ bs.length = 0) ∨ ∃ g cap, s = .slice (some ⟨g, 0, none⟩) bs.length cap := Go.Joins.ownsRow_forms h.own


/-- What Put leaves ahead of a round: room in the last byte. -/
def Ahead (w : World) (g : Nat) (s : Value) (β : Nat → Bool) (p : Nat) (w' : World) (s' : Value) : Prop :=
  ∃ bs f, Hold w' g s' bs f ∧ Has bs β ∧ 8 * bs.length = p + f ∧ f < 8 ∧ Mv w w' g s ∧ Own w s s'

theorem cell_other {w : World} {a b : Addr} {v : Value} (h : a ≠ b) : (w.setCell a v).cell? b = w.cell? b := by apply World.cell?_setCell_other; exact h
theorem cell_same {w : World} {a : Addr} {u v : Value} (h : w.cell? a = some u) : (w.setCell a v).cell? a = some v := by apply World.cell?_setCell_same; exact h
theorem grow_hold {w w2 : World} {g : Nat} {s v : Value} {bs : List Nat} (own : Own w s v) (h : Hold w g s bs 0) (hg : (w.alloc (Obj.cells #[Value.int IntKind.u8 0] 5)).grownBy w2 s.ownBlock)
    (ho : w2.ownsRow (g + 1) 5 1 v (bs.length + 1) (u8s bs ++ [Value.int IntKind.u8 0])) :
    Hold ((w2.setCell ⟨g, 0, none⟩ v).setCell ⟨g, 1, none⟩ (.int .i64 8)) g v (bs ++ [0]) 8 ∧ Mv w ((w2.setCell ⟨g, 0, none⟩ v).setCell ⟨g, 1, none⟩ (.int .i64 8)) g s ∧ Own w s v := by
  have hlt := h.lt
  have hne : some g ≠ s.ownBlock := fun e => by have := h.own.lt g e.symm; omega
  have e2 : w2.heap[g]? = w.heap[g]? := (hg.block g (by simp; omega) hne).trans (Below.heap_alloc w _ g hlt)
  have c0 : w2.cell? ⟨g, 0, none⟩ = some s := (World.cell?_of_block e2).trans h.c0
  have c1 : w2.cell? ⟨g, 1, none⟩ = some (.int .i64 0) := (World.cell?_of_block e2).trans h.c1
  have z0 : w2.frozen? ⟨g, 0, none⟩ = false := (World.frozen?_of_block e2).trans h.z0
  have z1 : w2.frozen? ⟨g, 1, none⟩ = false := (World.frozen?_of_block e2).trans h.z1
  have sz : w.heap.size ≤ w2.heap.size := by have := hg.size; simp at this; omega
  refine ⟨⟨by simp; omega, ?_, ?_, by simpa using z0, by simpa using z1, ?_⟩, ⟨hg.os, hg.tape, hg.output, by simpa using sz, fun k hk hkg hks => ?_⟩, ?_⟩
  · rw [cell_other (by simp), cell_same c0]
  · rw [cell_same (u := .int .i64 0) (by rw [cell_other (by simp)]; exact c1)]
    rfl
  · rw [u8s_snoc, List.length_append]
    exact ownsRow_setCell_below (ownsRow_setCell_below ho (by simp) _) (by simp) _
  · rw [heap_setCell_other _ _ _ _ (by simpa using hkg), heap_setCell_other _ _ _ _ (by simpa using hkg), hg.block k (by simp; omega) (by intro e; exact hks e.symm)]
    exact Below.heap_alloc w _ k hk
  · exact own
theorem store_hold {w : World} {g h j cap f : Nat} {bs : List Nat} (hh : Hold w g (.slice (some ⟨h, 0, none⟩) (j + 1) cap) bs f) (hj : bs.length = j + 1) (x f' : Nat) :
    Hold ((w.setCell ⟨h, j, none⟩ (.int .u8 (x : Nat))).setCell ⟨g, 1, none⟩ (.int .i64 (f' : Nat))) g (.slice (some ⟨h, 0, none⟩) (j + 1) cap) (bs.set j x) f' ∧
    Mv w ((w.setCell ⟨h, j, none⟩ (.int .u8 (x : Nat))).setCell ⟨g, 1, none⟩ (.int .i64 (f' : Nat))) g (.slice (some ⟨h, 0, none⟩) (j + 1) cap) := by
  have hb := hh.own.lt h rfl
  have ho := hh.own
  rw [hj] at ho
  refine ⟨⟨by simpa using hh.lt, ?_, ?_, by simpa using hh.z0, by simpa using hh.z1, ?_⟩, ⟨rfl, rfl, rfl, by simp, fun k hk hkg hks => ?_⟩⟩
  · rw [cell_other (by simp), cell_other (by simp; try omega)]
    exact hh.c0
  · rw [cell_same (u := .int .i64 (f : Nat)) (by rw [cell_other (by simp; try omega)]; exact hh.c1)]
  · rw [u8s_set, List.length_set, hj]
    exact ownsRow_setCell_below (ho.stored j _).1 (by simp) _
  · rw [heap_setCell_other _ _ _ _ (by simpa using hkg), heap_setCell_other _ _ _ _ (by simp only [Value.ownBlock] at hks; intro e; exact hks (by rw [e]))]

/-- What Put stands in where the last byte has room. -/
def At (w : World) (g : Nat) (s : Value) (β : Nat → Bool) (m v N l : Nat) (w' : World) : Prop :=
  ∃ bs f j h cap, Hold w' g (.slice (some ⟨h, 0, none⟩) (j + 1) cap) bs f ∧ bs.length = j + 1 ∧ 1 ≤ f ∧ f ≤ 8 ∧ Has bs (put β m v N l) ∧ 8 * bs.length = m + (N - l) + f ∧ Mv w w' g s ∧ Own w s (.slice (some ⟨h, 0, none⟩) (j + 1) cap)

set_option maxRecDepth 100000 in
set_option maxHeartbeats 4000000 in
theorem put11 (w : World) (g : Nat) (s : Value) (bs : List Nat) (f v N m : Nat) (β : Nat → Bool) (hHold : Hold w g s bs f) (hH : Has bs β) (hβ : ∀ i, m ≤ i → β i = false) (hm : 8 * bs.length = m + f) (hf8 : f < 8)
    (_hv : v < 18446744073709551616) (n : Int) (hn1 : -9223372036854775808 ≤ n) (hn2 : n ≤ 9223372036854775807) (hN : N = (min n 64).toNat) (hb : m ≤ 1125899906826176) :
    Calls Tryz.prog 93 #[.pointer (some ⟨g, 0, none⟩), .int .u64 (v : Nat), .int .i64 n] w fun e w' => e = .returned (.tuple #[]) ∧ ∃ s', Ahead w g s (put β m v N 0) (m + N) w' s' := by
  obtain ⟨i0, hi, hz0, hz1, hz2⟩ := info_parts info5
  go_enter Tryz.func93, Tryz.ntmps93
  go_wp2_with fail
  all_goals
    go_loopw [6] (fun i wr => ∃ q l sr, l ≤ N ∧ i = .int .i64 q ∧ l = q.toNat ∧ q ≤ 64 ∧ -9223372036854775808 ≤ q ∧ Ahead w g s (put β m v N l) (m + (N - l)) wr sr) (fun i _ => (intOf i).toNat)
    case atStart => exact ⟨_, N, s, Nat.le_refl _, rfl, by omega, by omega, by omega, bs, f, hHold, hH.congr fun i _ => (put_zero β m v N hβ i).symm, by omega, hf8, Mv.refl _ _ _, Own.refl _ _⟩
    case round =>
      obtain ⟨q, l, sr, hlN, rfl, hlq, hq64, hq0, bs2, f2, hH2, hHas, hlen, hf2, hmv, hown⟩ := hrel
      have hN64 : N ≤ 64 := by omega
      clear hN
      by_cases hq : 0 < q
      · obtain rfl : q = (l : Int) := by omega
        clear hlq hq0
        have c0 := hH2.c0
        have c1 := hH2.c1
        have z0 := hH2.z0
        have z1 := hH2.z1
        have glt := hH2.lt
        have hz := hlen
        by_cases hf0 : f2 = 0
        case' pos =>
          subst hf0
          have hown2 := hH2.own
          have HH := Lib.hid hH2
          have HO := Lib.hid hown
          clear hH2 hown
          go_wp2_with (at_builtin; refine wpList_append_own_at _ rfl (.tmp 24) (.tmp 25) 22 rfl (g + 1) 5 i0 (.int .u8 0) 1 1 Tryz.underlying22 hi hz0 hz1 hz2 rfl (by decide) _ _ _ rfl (hown2.alloc _) ⟨wr.heap.size, 0, none⟩ 1 1 [.int .u8 0] rfl rfl ?c1 ?c2 ?c3 ?c4 ?c5 ?_)
          case c1 =>
            intro j u hj
            match j, hj with
            | 0, hj => simp at hj; subst hj; simp [Addr.add]
          case c2 => intro u hu; simp at hu; subst hu; rfl
          case c3 => unfold maxLen; omega
          case c4 => omega
          case c5 => simp; omega
          intro v' w2 hown' hgrow _ hat
          obtain ⟨hb1, hh⟩ : ∃ hb1, ∃ cap, v' = .slice (some ⟨hb1, 0, none⟩) (bs2.length + 1) cap := Go.Joins.ownsRow_form hown' (by omega)
          obtain ⟨cap, rfl⟩ := hh
          have hne : sr.ownBlock ≠ some g := fun e => by have := hown2.lt g e; omega
          have e2 : w2.heap[g]? = wr.heap[g]? := (hgrow.block g (by simp; omega) (by first | exact hne | exact hne.symm)).trans (Below.heap_alloc wr _ g glt)
          have c0' : w2.cell? ⟨g, 0, none⟩ = some sr := (World.cell?_of_block e2).trans c0
          have c1' : w2.cell? ⟨g, 1, none⟩ = some (.int .i64 0) := (World.cell?_of_block e2).trans c1
          have z0' : w2.frozen? ⟨g, 0, none⟩ = false := (World.frozen?_of_block e2).trans z0
          have z1' : w2.frozen? ⟨g, 1, none⟩ = false := (World.frozen?_of_block e2).trans z1
          have HG := Lib.hid (grow_hold (.elim hat .inl fun e => .inr ⟨_, e, by simp⟩) HH.out hgrow hown')
          clear hgrow hown'
          go_upto_region 6 with (fail)
          obtain ⟨w3, hw3⟩ : ∃ w3, w3 = (w2.setCell ⟨g, 0, none⟩ (.slice (some ⟨hb1, 0, none⟩) (bs2.length + 1) cap)).setCell ⟨g, 1, none⟩ (.int .i64 8) := ⟨_, rfl⟩
          rw [← hw3] at HG ⊢
          have HAT : Hid (At w g s β m v N l w3) := by
            obtain ⟨a1, a2, a3⟩ := HG.out
            exact ⟨bs2 ++ [0], 8, bs2.length, hb1, cap, a1, by simp, by omega, by omega, hHas.zero fun k hk => put_past _ _ _ _ _ _ (by omega), by simp; omega, hmv.trans HO.out a2, HO.out.trans a3 hmv.size⟩
          clear HG hw3 e2 c0' c1' z0' z1' HH hown2 HO hne
        case' neg =>
          obtain ⟨w3, hw3⟩ : ∃ w3, w3 = wr := ⟨_, rfl⟩
          have HAT : Hid (At w g s β m v N l w3) := by
            subst hw3
            rcases hH2.forms with ⟨rfl, h0⟩ | ⟨hb1, cap, rfl⟩
            · omega
            · exact ⟨bs2, f2, bs2.length - 1, hb1, cap, by rw [show bs2.length - 1 + 1 = bs2.length from by omega]; exact hH2, by omega, by omega, by omega, hHas, hlen, hmv, hown⟩
          have hf0' : ((f2 : Int) == 0) = false := by simp; omega
          clear hH2 hown
          go_upto_region 6 with (fail)
          rw [← hw3]
          clear hw3
        all_goals
          clear c0 c1 z0 z1 glt hlen hz hf2 hHas hmv
          obtain ⟨bs3, f3, j, hb1, cap, hold3, hj, hf1, hf8', hHas3, hlen3, hmv3, hown3⟩ := HAT.out
          have d0 := hold3.c0
          have d1 := hold3.c1
          have y1 := hold3.z1
          have e1 : w3.cell? ⟨hb1, j, none⟩ = some (.int .u8 (bs3.getD j 0 : Nat)) := by
            rw [World.ownsRow.cellAt (g := hb1) (n := bs3.length) (cap := cap) (by have := hold3.own; rw [← hj] at this; exact this) j (by omega)]
            exact u8s_get _ _ (by omega)
          have e0 : w3.frozen? ⟨hb1, j, none⟩ = false := World.ownsRow.frozenAt (n := bs3.length) (cap := cap) (by have := hold3.own; rw [← hj] at this; exact this) j
          have ne : g ≠ hb1 := by have := hold3.own.lt hb1 rfl; omega
          have hbyte := getD_lt hHas3.1 j
          have H3 := Lib.hid hold3
          have O3 := Lib.hid hown3
          clear hold3 hown3 HAT
          go_upto_region 8 with (fail)
          obtain ⟨T, hT, hT1, hT2, hT3⟩ : ∃ T : Nat, (if f3 < l then (f3 : Int) else (l : Int)) = (T : Int) ∧ 1 ≤ T ∧ T ≤ f3 ∧ T ≤ l := by
            by_cases hlt : f3 < l
            · exact ⟨f3, by rw [if_pos hlt], by omega, by omega, by omega⟩
            · exact ⟨l, by rw [if_neg hlt], by omega, by omega, by omega⟩
          simp only [hT]
          clear hT
          go_quiet (fail)
          go_upto_region 9 with (fail)
          have hp : (v : Int) / 2 ^ (l - T) % 256 * 2 ^ (8 - T) % 256 / 2 ^ (8 - f3) = ((piece v (l - T) T f3 : Nat) : Int) := by unfold piece; push_cast; rfl
          rw [hp]
          have hp8 := piece_lt v (l - T) T f3
          obtain ⟨p, hpe⟩ : ∃ p, p = piece v (l - T) T f3 := ⟨_, rfl⟩
          rw [← hpe] at hp8 ⊢
          have HPE := Lib.hid hpe
          obtain ⟨B, hB⟩ : ∃ B, B = bs3.getD j 0 := ⟨_, rfl⟩
          rw [← hB] at e1 hbyte
          have HB := Lib.hid hB
          have hor : bits .or .u8 (B : Int) (p : Int) = ((B ||| p : Nat) : Int) := u8_or_nat _ _ hbyte hp8
          obtain ⟨w4, hw4⟩ : ∃ w4, w4 = w3.drewN nq := ⟨_, rfl⟩
          have d0' : w4.cell? ⟨g, 0, none⟩ = some (.slice (some ⟨hb1, 0, none⟩) (j + 1) cap) := by rw [hw4]; exact d0
          have d1' : w4.cell? ⟨g, 1, none⟩ = some (.int .i64 (f3 : Nat)) := by rw [hw4]; exact d1
          have y1' : w4.frozen? ⟨g, 1, none⟩ = false := by rw [hw4]; exact y1
          have e1' : w4.cell? ⟨hb1, j, none⟩ = some (.int .u8 (B : Nat)) := by rw [hw4]; exact e1
          have e0' : w4.frozen? ⟨hb1, j, none⟩ = false := by rw [hw4]; exact e0
          have H4 : Hid (Hold w4 g (Value.slice (some { block := hb1, off := 0 }) (j + 1) cap) bs3 f3) := by rw [hw4]; exact Lib.hid (H3.out.drewN _)
          have M4 : Hid (Mv w w4 g s) := by rw [hw4]; exact Lib.hid ⟨hmv3.os, hmv3.tape, hmv3.output, hmv3.size, hmv3.block⟩
          have HH3 := Lib.hid hHas3
          rw [← hw4]
          clear hw4 hpe hB hp d0 d1 y1 e1 e0 H3 hmv3 hHas3
          have hjb : j ≤ 140737488353300 := by omega
          go_region
          go_wp2
          go_roundw
          case rel =>
            obtain ⟨a1, a2⟩ := store_hold H4.out hj (B ||| p) (f3 - T)
            refine ⟨_, l - T, _, by omega, rfl, by omega, by omega, by omega, bs3.set j (B ||| p), f3 - T, ?_, ?_, ?_, ?_, ?_, O3.out⟩
            · rw [show (f3 : Int) - (T : Int) = ((f3 - T : Nat) : Int) from by omega]
              exact a1.drewN 1
            · rw [HB.out, HPE.out]
              exact put_round HH3.out hj hlen3 hf8' hlN hT2 hT3 hT1
            · simp; omega
            · omega
            · rw [show (f3 : Int) - (T : Int) = ((f3 - T : Nat) : Int) from by omega]
              have a3 := M4.out.trans O3.out a2
              exact ⟨a3.os, a3.tape, a3.output, a3.size, a3.block⟩
          case measure => simp [intOf]; omega
      · obtain rfl : l = 0 := by omega
        have H2 := Lib.hid hH2
        have HH2 := Lib.hid hHas
        clear hHas hlq hH2
        go_wp2_with fail
        go_end0
        exact ⟨rfl, sr, bs2, f2, H2.out, HH2.out, hlen, hf2, hmv, hown⟩
end Wr
end Go.Proofs.YtjmddomkoholoaaGreatDoor

/- What a copy is; the writer's bytes; the law's own small example. -/
namespace Go.Proofs.YtjmddomkoholoaaGreatDoor
open Go.RowKit
namespace Wr
open Bm

theorem Hold.below {w w' : World} {g : Nat} {s : Value} {bs : List Nat} {f : Nat} (h : Hold w g s bs f) (b : Below w.heap.size w w') : Hold w' g s bs f := by
  have hb := b.block g h.lt
  refine ⟨Nat.lt_of_lt_of_le h.lt b.size, (World.cell?_of_block hb).trans h.c0, (World.cell?_of_block hb).trans h.c1, (World.frozen?_of_block hb).trans h.z0, (World.frozen?_of_block hb).trans h.z1, ?_⟩
  exact h.own.kept (row := none) ⟨b.os, b.tape, b.output, b.size, fun k hk _ => b.block k hk⟩ (by
    by_cases e : s.ownBlock = none
    · exact .inl e
    · exact .inr e)

theorem cell_lt {w : World} {a : Addr} {v : Value} (h : w.cell? a = some v) : a.block < w.heap.size := by
  unfold World.cell? at h
  by_cases hl : a.block < w.heap.size
  · exact hl
  · rw [Array.getElem?_eq_none (by omega)] at h; simp at h
/-- A slice whose cells are these bytes. -/
def Is (w : World) (s : Value) (bs : List Nat) : Prop :=
  (s = .slice none 0 0 ∧ bs = []) ∨ ∃ ad c, s = .slice (some ad) bs.length c ∧ ∀ j u, (u8s bs)[j]? = some u → w.cell? (ad.add j) = some u
theorem is_own {w : World} {B : Nat} {s : Value} {bs : List Nat} (h : w.ownsRow B 5 1 s bs.length (u8s bs)) : Is w s bs := by
  rcases Go.Joins.ownsRow_forms h with ⟨rfl, h0⟩ | ⟨g, cap, rfl⟩
  · exact .inl ⟨rfl, List.length_eq_zero_iff.1 h0⟩
  · exact .inr ⟨_, _, rfl, h.cells rfl⟩

set_option maxRecDepth 100000 in
theorem clone30 (w : World) (s : Value) (bs : List Nat) (h : Is w s bs) (hb : bs.length ≤ 140737488353272) :
    Calls Tryz.prog 108 #[s] w fun e w' => ∃ v, e = .returned v ∧ w'.ownsRow w.heap.size 5 1 v bs.length (u8s bs) ∧ Below w.heap.size w w' := by
  obtain ⟨i0, hi, hz0, hz1, hz2⟩ := info_parts info5
  rcases h with ⟨rfl, rfl⟩ | ⟨ad, c, rfl, hc⟩
  · have he : ∀ w : World, (binOp .eql 22 (.slice none 0 0) (.slice none 0 0)).run Tryz.prog w = .ok (.bool true) w := fun _ => rfl
    go_enter Tryz.func108, Tryz.ntmps108
    go_wp2_with fail
    go_ret
    exact ⟨_, rfl, World.ownsRow_nil _ _ _ _, Below.refl _ _⟩
  · obtain ⟨n, hn⟩ : ∃ n, n = bs.length := ⟨_, rfl⟩
    rw [← hn] at hb ⊢
    have he : ∀ w : World, (binOp .eql 22 (.slice (some ad) n c) (.slice none 0 0)).run Tryz.prog w = .ok (.bool false) w := fun _ => rfl
    have HN := Lib.hid hn
    have hlen := u8s_len bs
    rw [← hn] at hlen
    clear hn
    go_enter Tryz.func108, Tryz.ntmps108
    go_wp2_with (at_builtin; refine wpList_append_own _ rfl (.tmp 5) (.tmp 6) 22 rfl w.heap.size 5 i0 (.int .u8 0) 1 1 Tryz.underlying22 hi hz0 hz1 hz2 rfl (by decide) _ 0 [] rfl ?o1 ad n c (u8s bs) rfl (by rw [hlen]; omega) ?c1 ?c2 ?c3 ?c4 ?c5 ?_)
    case o1 => exact World.ownsRow_lit (size := 1) w #[] 0 (Nat.le_refl _) (by decide) rfl
    case c1 => intro j u hj; rw [((Below.refl w.heap.size w).alloc (Nat.le_refl _) _).cell (cell_lt (hc j u hj))]; exact hc j u hj
    case c2 => intro u hu; simp [u8s] at hu; obtain ⟨x, _, rfl⟩ := hu; rfl
    case c3 => unfold maxLen; omega
    case c4 => omega
    case c5 => simp
    intro v' w2 hown' hgrow _
    have bl : Below w.heap.size w w2 := ((Below.refl _ _).alloc (Nat.le_refl _) _).grown hgrow (by simp) (fun r hr => by simp [Value.ownBlock] at hr; omega)
    clear hgrow
    go_wp2_with fail
    go_ret
    exact ⟨_, rfl, hown', bl⟩

theorem lit_is (w : World) (s : Value) (B : Nat) (bs : List Nat) (h : w.ownsRow B 5 1 s bs.length (u8s bs)) (hn : 0 < bs.length) :
    ∃ g c, s = .slice (some ⟨g, 0, none⟩) bs.length c ∧ ∀ j, j < bs.length → w.cell? ⟨g, j, none⟩ = some (.int .u8 (bs.getD j 0 : Nat)) := by
  obtain ⟨g, c, rfl⟩ := Go.Joins.ownsRow_form h hn
  exact ⟨g, c, rfl, fun j hj => by rw [h.cellAt j (by omega)]; exact u8s_get bs j hj⟩

set_option maxRecDepth 100000 in
theorem bytes14 (w : World) (g : Nat) (s : Value) (bs : List Nat) (f : Nat) (h : Hold w g s bs f) (hb : bs.length ≤ 140737488353272) :
    Calls Tryz.prog 85 #[.pointer (some ⟨g, 0, none⟩)] w fun e w' => ∃ v, e = .returned v ∧ w'.ownsRow w.heap.size 5 1 v bs.length (u8s bs) ∧ Below w.heap.size w w' := by
  have c0 := h.c0
  have hs : ∃ a n c, s = .slice a n c := by
    rcases h.forms with ⟨rfl, _⟩ | ⟨g, c, rfl⟩
    · exact ⟨_, _, _, rfl⟩
    · exact ⟨_, _, _, rfl⟩
  obtain ⟨a, n, c, rfl⟩ := hs
  have H := Lib.hid (is_own h.own)
  clear h
  go_enter Tryz.func85, Tryz.ntmps85
  go_wp2_with (go_at_call 108; refine (clone30 _ _ _ H.out hb).mono ?_; rintro e w2 ⟨v, rfl, ho, bl⟩)
  go_ret
  exact ⟨_, rfl, ho, bl⟩


/-- The writer at block g holds m bits β. -/
def Wt (w : World) (g : Nat) (s : Value) (m : Nat) (β : Nat → Bool) : Prop :=
  ∃ bs f, Hold w g s bs f ∧ Has bs β ∧ 8 * bs.length = m + f ∧ f < 8 ∧ ∀ i, m ≤ i → β i = false
theorem Wt.below {w w' : World} {g : Nat} {s : Value} {m : Nat} {β : Nat → Bool} (h : Wt w g s m β) (b : Below w.heap.size w w') : Wt w' g s m β := by
  obtain ⟨bs, f, h1, h2⟩ := h
  exact ⟨bs, f, h1.below b, h2⟩
theorem Wt.lt {w : World} {g : Nat} {s : Value} {m : Nat} {β : Nat → Bool} (h : Wt w g s m β) : g < w.heap.size := by
  obtain ⟨bs, f, h1, h2⟩ := h; exact h1.lt
theorem Wt.own {w : World} {g : Nat} {s : Value} {m : Nat} {β : Nat → Bool} (h : Wt w g s m β) : ∀ k, s.ownBlock = some k → g + 1 ≤ k ∧ k < w.heap.size := by
  obtain ⟨bs, f, h1, h2⟩ := h; exact h1.own.lt
theorem new_wt (w : World) : Calls Tryz.prog 92 #[] w fun e w' => e = .returned (.pointer (some ⟨w.heap.size, 0, none⟩)) ∧ Wt w' w.heap.size (.slice none 0 0) 0 (fun _ => false) ∧ Below w.heap.size w w' := by
  refine (new10 w).mono ?_
  rintro e w' ⟨rfl, h, b⟩
  exact ⟨rfl, ⟨[], 0, h, Has.nil _, rfl, by decide, fun _ _ => rfl⟩, b⟩
theorem put_wt (w : World) (g : Nat) (s : Value) (m : Nat) (β : Nat → Bool) (v N : Nat) (n : Int) (h : Wt w g s m β) (hv : v < 18446744073709551616) (hn1 : -9223372036854775808 ≤ n) (hn2 : n ≤ 9223372036854775807)
    (hN : N = (min n 64).toNat) (hb : m ≤ 1125899906826176) :
    Calls Tryz.prog 93 #[.pointer (some ⟨g, 0, none⟩), .int .u64 (v : Nat), .int .i64 n] w fun e w' => e = .returned (.tuple #[]) ∧ ∃ s', Wt w' g s' (m + N) (put β m v N 0) ∧ Mv w w' g s ∧ Own w s s' := by
  obtain ⟨bs, f, h1, h2, h3, h4, h5⟩ := h
  refine (put11 w g s bs f v N m β h1 h2 h5 h3 h4 hv n hn1 hn2 hN hb).mono ?_
  rintro e w' ⟨rfl, s', bs', f', k1, k2, k3, k4, k5, k6⟩
  exact ⟨rfl, s', ⟨bs', f', k1, k2, k3, k4, fun i hi => put_past _ _ _ _ _ _ (by omega)⟩, k5, k6⟩
theorem bytes_wt (w : World) (g : Nat) (s : Value) (m : Nat) (β : Nat → Bool) (h : Wt w g s m β) (hb : m ≤ 1125899906826176) :
    Calls Tryz.prog 85 #[.pointer (some ⟨g, 0, none⟩)] w fun e w' => ∃ v bs f, e = .returned v ∧ w'.ownsRow w.heap.size 5 1 v bs.length (u8s bs) ∧ Below w.heap.size w w' ∧ Has bs β ∧ 8 * bs.length = m + f ∧ f < 8 := by
  obtain ⟨bs, f, h1, h2, h3, h4, h5⟩ := h
  refine (bytes14 w g s bs f h1 (by omega)).mono ?_
  rintro e w' ⟨v, rfl, ho, bl⟩
  exact ⟨v, bs, f, rfl, ho, bl, h2, h3, h4⟩

theorem Mv.below {w w' : World} {g B : Nat} {s : Value} (h : Mv w w' g s) (hB : B ≤ g) (hs : ∀ k, s.ownBlock = some k → B ≤ k) (hw : g < w.heap.size) : Below B w w' :=
  ⟨h.os, h.tape, h.output, h.size, fun k hk => h.block k (by omega) (by omega) (fun e => by have := hs k e; omega)⟩


end Wr
end Go.Proofs.YtjmddomkoholoaaGreatDoor
