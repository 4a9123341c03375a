/- joinPairs. -/
import Derived.Test.YthaadpijfkmdiaaNcp
import Derived.Test.YthaadpijfkmdiaaNdp
namespace Go.Proofs.Ythaadpijfkmdiaa
open Go.RowKit Go.Shelf
attribute [local go_sem] Oper.semAt_some
namespace Nep
open Jb La Nm Na Nr Ncp Ndp

theorem infoS : (Try.prog.info? 38).map (fun i => (i.zero, i.size, i.bytes)) = some (some (.slice none 0 0), 1, 24) := by kernel_rfl
set_option maxRecDepth 100000
set_option maxHeartbeats 4000000
theorem chunk26 (w : World) (a : Option Addr) (n c : Nat) :
    Calls Try.prog 26 #[.slice a n c, .int .i64 2] w fun e w' => e = .returned (.func (.func 35) #[] #[.pointer (some ⟨w.heap.size, 0, none⟩), .pointer (some ⟨w.heap.size + 1, 0, none⟩)]) ∧ w' = (w.alloc (.cells #[.slice a n c] 54)).alloc (.cells #[.int .i64 2] 3) := by
  go_enter Try.func26, Try.ntmps26
  go_wp2_with fail
  go_ret
  exact ⟨rfl, rfl⟩
theorem seq35 (m Bs Bn b off n c : Nat) (hn : n ≤ 1000000000000) (h2 : 2 ≤ n) (hc : n ≤ c) (hc9 : c ≤ 9223372036854775807) (w : World) (hs : Boxed w Bs 54 (.slice (some ⟨b, off, none⟩) n c)) (hb : Boxed w Bn 3 (.int .i64 2)) :
    SeqStopsK Fence.wide m Try.prog 35 #[.pointer (some ⟨Bs, 0, none⟩), .pointer (some ⟨Bn, 0, none⟩)] (fun x : Ix n => #[chk b off n x.1]) (Kb Bs Bn) (fun ys => ys = upto n ((n + 1) / 2)) (fun _ => True) n w :=
  fun l J Jx W hW hJ _ hY h0 => clos35 m l Bs Bn b off n c hn h2 hc hc9 J Jx hY
    (fun s W h => hJ s W W.drew none h ⟨rfl, rfl, rfl, Nat.le_refl _, fun _ _ _ => rfl⟩ (fun r e => by cases e)) W ((hW.cell hs.lt).trans hs.cell) ((hW.cell hb.lt).trans hb.cell) h0
/-- What a chunk comes to. -/
def jn {β : Type} (key : V4 → β) (lt : β → β → Bool) (LL : List (List V4)) (n i : Nat) : List V4 := if 2 * i + 1 < n then mrg key lt (LL.getD (2 * i) []) (LL.getD (2 * i + 1) []) else LL.getD (2 * i) []
theorem upto_get {n k : Nat} (h : 2 * k < n + 2) (i : Nat) (hi : i < k) : ∃ h2 : 2 * i < n, (upto n k)[i]? = some ⟨i, h2⟩ := by
  induction k with
  | zero => omega
  | succ k ih =>
    rw [upto_succ (by omega)]
    by_cases e : i = k
    · subst e
      exact ⟨by omega, by rw [List.getElem?_append_right (by rw [upto_len (by omega)]; exact Nat.le_refl _), upto_len (by omega)]; simp⟩
    · obtain ⟨h2, e2⟩ := ih (by omega) (by omega)
      exact ⟨h2, by rw [List.getElem?_append_left (by rw [upto_len (by omega)]; omega)]; exact e2⟩
theorem jn_all {β : Type} (key : V4 → β) (lt : β → β → Bool) (LL : List (List V4)) : (upto LL.length ((LL.length + 1) / 2)).map (fun x => jn key lt LL LL.length x.1) = jp key lt LL := by
  apply List.ext_getElem?
  intro i
  rw [List.getElem?_map]
  by_cases hi : i < (LL.length + 1) / 2
  · obtain ⟨h2, e⟩ := upto_get (n := LL.length) (k := (LL.length + 1) / 2) (by omega) i hi
    have hg := jp_get (key := key) (lt := lt) LL i (by omega)
    rw [e, Option.map_some]
    have hl : i < (jp key lt LL).length := by rw [jp_len]; exact hi
    rw [List.getD_eq_getElem?_getD, List.getElem?_eq_getElem hl, Option.getD_some] at hg
    rw [List.getElem?_eq_getElem hl, hg]
    rfl
  · rw [List.getElem?_eq_none (by rw [upto_len (by omega)]; omega), List.getElem?_eq_none (by rw [jp_len]; omega)]
    rfl
theorem total_le {LL : List (List V4)} {i : Nat} (h : i < LL.length) : (LL.getD i []).length ≤ LL.flatten.length := by
  induction LL generalizing i with
  | nil => simp at h
  | cons a r ih =>
    simp only [List.flatten_cons, List.length_append]
    cases i with
    | zero => simp
    | succ i => have := ih (i := i) (by simpa using h); simp only [List.getD_cons_succ]; omega
theorem total_le2 {LL : List (List V4)} {i : Nat} (h : i + 1 < LL.length) : (LL.getD i []).length + (LL.getD (i + 1) []).length ≤ LL.flatten.length := by
  induction LL generalizing i with
  | nil => simp at h
  | cons a r ih =>
    simp only [List.flatten_cons, List.length_append]
    cases i with
    | zero => have := total_le (LL := r) (i := 0) (by simpa using h); simp only [List.getD_cons_zero, List.getD_cons_succ]; omega
    | succ i => have := ih (i := i) (by simpa using h); simp only [List.getD_cons_succ]; omega
theorem getD_flat {LL : List (List V4)} {i : Nat} {x : V4} (h : i < LL.length) (hx : x ∈ LL.getD i []) : x ∈ LL.flatten := by
  rw [List.getD_eq_getElem?_getD, List.getElem?_eq_getElem h] at hx
  exact List.mem_flatten.2 ⟨_, List.getElem_mem h, hx⟩
/-- A row that was handed in, or one of one's own. -/
def Ro (w W : World) (v : Value) (L : List V4) : Prop := Sl w v L ∨ W.ownsRow w.heap.size 44 4 v L.length (c4s L)
def Vr (w W : World) (vals : List Value) (LL : List (List V4)) : Prop := vals.length = LL.length ∧ ∀ i, i < LL.length → Ro w W (vals.getD i (.bool false)) (LL.getD i [])
theorem Ro.sl {w W : World} {v : Value} {L : List V4} (h : Ro w W v L) (b : Below w.heap.size w W) : Sl W v L := by
  rcases h with h | h
  · exact h.below b (Nat.le_refl _)
  · exact sl_own h
theorem vr_vs {w W : World} {vals : List Value} {LL : List (List V4)} (h : Vr w W vals LL) (b : Below w.heap.size w W) : Vs W vals LL := ⟨h.1, fun i hi => (h.2 i hi).sl b⟩
theorem Vr.imp {w W W' : World} {vals : List Value} {LL : List (List V4)} (h : Vr w W vals LL) (f : ∀ v k xs, W.ownsRow w.heap.size 44 4 v k xs → W'.ownsRow w.heap.size 44 4 v k xs) : Vr w W' vals LL :=
  ⟨h.1, fun i hi => (h.2 i hi).imp id (f _ _ _)⟩
theorem vr_nil (w W : World) : Vr w W [] [] := ⟨rfl, fun i hi => by simp at hi⟩
theorem Vr.snoc {w W : World} {vals : List Value} {LL : List (List V4)} (h : Vr w W vals LL) {v : Value} {L : List V4} (g : Ro w W v L) : Vr w W (vals ++ [v]) (LL ++ [L]) := by
  obtain ⟨h1, h2⟩ := h
  refine ⟨by simp [h1], fun i hi => ?_⟩
  rw [List.getD_eq_getElem?_getD, List.getD_eq_getElem?_getD]
  by_cases hl : i < LL.length
  · rw [List.getElem?_append_left (by omega), List.getElem?_append_left hl, ← List.getD_eq_getElem?_getD, ← List.getD_eq_getElem?_getD]
    exact h2 i hl
  · simp only [List.length_append, List.length_cons, List.length_nil] at hi
    obtain rfl : i = LL.length := by omega
    rw [List.getElem?_append_right (by omega), List.getElem?_append_right (Nat.le_refl _), h1]
    simpa using g
/-- Rows of two kinds share no block. -/
theorem apart {W : World} {B B' k k' s s' : Nat} {e e' : TypeId} {v v' : Value} {xs xs' : List Value} (h : W.ownsRow B e s v k xs) (h' : W.ownsRow B' e' s' v' k' xs') (hne : e ≠ e') : v.ownBlock = Option.none ∨ v.ownBlock ≠ v'.ownBlock := by
  rcases h.2 with ⟨rfl, _⟩ | ⟨g, cap, cur, rfl, _, hgb, _⟩
  · exact .inl rfl
  · rcases h'.2 with ⟨rfl, _⟩ | ⟨g', cap', cur', rfl, _, hgb', _⟩
    · exact .inr (by simp [Value.ownBlock])
    · refine .inr fun e => ?_
      obtain rfl : g = g' := by simpa [Value.ownBlock] using e
      rw [hgb] at hgb'
      cases hgb'
      exact hne rfl
theorem keeps_of_below {W W' : World} (h : Below W.heap.size W W') : KeepsOthers W W' := ⟨h.size, fun k _ hk _ => (h.block k (Array.getElem?_eq_some_iff.1 hk).1).trans hk⟩
/-- What a round leaves: the row's value r appended to the box's slice. -/
theorem round_end (w W w3 w5 : World) (v v' r : Value) (vals : List Value) (JJ : List (List V4)) (L : List V4) (q1 q2 q3 : Value) (hv : Boxed W (w.heap.size + 1) 54 v) (hrow : W.ownsRow w.heap.size 38 1 v vals.length vals) (hvs : Vr w W vals JJ)
    (h0 : Boxed W w.heap.size 45 q1) (h2 : Boxed W (w.heap.size + 2) 54 q2) (h3 : Boxed W (w.heap.size + 3) 3 q3) (hB : Below w.heap.size w W) (b3 : Below W.heap.size W w3) (hr : Ro w w3 r L)
    (o5 : w5.ownsRow w.heap.size 38 1 v' (vals.length + 1) (vals ++ [r])) (g5 : (w3.alloc (.cells #[r] 38)).grownBy w5 v.ownBlock) :
    (Boxed w5 (w.heap.size + 1) 54 v ∧ Boxed w5 w.heap.size 45 q1 ∧ ∀ k, k < w.heap.size → w5.heap[k]? = w.heap[k]?) ∧ (Boxed (w5.setCell ⟨w.heap.size + 1, 0, none⟩ v') w.heap.size 45 q1 ∧ ∀ k, k < w.heap.size → (w5.setCell ⟨w.heap.size + 1, 0, none⟩ v').heap[k]? = w.heap[k]?) ∧
    KeepsOthers W (w5.setCell ⟨w.heap.size + 1, 0, none⟩ v') ∧ Kb (w.heap.size + 2) (w.heap.size + 3) W (w5.setCell ⟨w.heap.size + 1, 0, none⟩ v') ∧ (∃ v vals', Boxed (w5.setCell ⟨w.heap.size + 1, 0, none⟩ v') (w.heap.size + 1) 54 v ∧ (w5.setCell ⟨w.heap.size + 1, 0, none⟩ v').ownsRow w.heap.size 38 1 v vals'.length vals' ∧ vals'.length = vals.length + 1 ∧ Vr w (w5.setCell ⟨w.heap.size + 1, 0, none⟩ v') vals' (JJ ++ [L])) ∧ (Boxed (w5.setCell ⟨w.heap.size + 1, 0, none⟩ v') (w.heap.size + 2) 54 q2 ∧ Boxed (w5.setCell ⟨w.heap.size + 1, 0, none⟩ v') (w.heap.size + 3) 3 q3) ∧ Below w.heap.size w (w5.setCell ⟨w.heap.size + 1, 0, none⟩ v') := by
  have zW := hB.size
  have hv3 : Boxed w3 (w.heap.size + 1) 54 v := (b3.block _ hv.lt).trans hv
  have h03 : Boxed w3 w.heap.size 45 q1 := (b3.block _ h0.lt).trans h0
  have h23 : Boxed w3 (w.heap.size + 2) 54 q2 := (b3.block _ h2.lt).trans h2
  have h33 : Boxed w3 (w.heap.size + 3) 3 q3 := (b3.block _ h3.lt).trans h3
  have hrow3 : w3.ownsRow w.heap.size 38 1 v vals.length vals := own_below hrow b3
  have zz : w.heap.size ≤ w3.heap.size := Nat.le_trans zW b3.size
  obtain ⟨a1, a2, a3, a4, a5⟩ := hv3.appended (by decide) hrow3 zz (by omega) o5 g5
  have c0 : Boxed w5 w.heap.size 45 q1 := (h03.alloc _).kept g5 (h03.not_row (by decide) hrow3)
  have c2 : Boxed w5 (w.heap.size + 2) 54 q2 := (h23.alloc _).kept g5 (h23.not_row (by decide) hrow3)
  have c3 : Boxed w5 (w.heap.size + 3) 3 q3 := (h33.alloc _).kept g5 (h33.not_row (by decide) hrow3)
  have d0 : Boxed (w5.setCell ⟨w.heap.size + 1, 0, none⟩ v') w.heap.size 45 q1 := c0.other (by omega) _
  have d2 : Boxed (w5.setCell ⟨w.heap.size + 1, 0, none⟩ v') (w.heap.size + 2) 54 q2 := c2.other (by omega) _
  have d3 : Boxed (w5.setCell ⟨w.heap.size + 1, 0, none⟩ v') (w.heap.size + 3) 3 q3 := c3.other (by omega) _
  have b5 : Below w.heap.size w w5 := ((hB.trans (b3.mono zW)).alloc zz _).grown g5 (by simp; omega) (fun j ej => (La.own_lt hrow3 ej).1)
  have b6 : Below w.heap.size w (w5.setCell ⟨w.heap.size + 1, 0, none⟩ v') := (hB.trans (b3.mono zW)).trans a5
  have K : ∀ v1 k xs, w3.ownsRow w.heap.size 44 4 v1 k xs → (w5.setCell ⟨w.heap.size + 1, 0, none⟩ v').ownsRow w.heap.size 44 4 v1 k xs := fun v1 k xs h => by
    have h5 : w5.ownsRow w.heap.size 44 4 v1 k xs := (h.alloc (.cells #[r] 38)).kept g5 (apart h hrow3 (by decide))
    refine h5.kept (grownBy_setCell' w5 (w.heap.size + 1) v') ?_
    exact .inr fun e => a1.not_row (by decide) h5 e.symm
  have VS : Vr w (w5.setCell ⟨w.heap.size + 1, 0, none⟩ v') (vals ++ [r]) (JJ ++ [L]) := by
    refine Vr.snoc ((hvs.imp (W' := w3) fun v1 k xs h => ?_).imp K) (hr.imp id (K _ _ _))
    exact h.kept (row := Option.none) ⟨b3.os, b3.tape, b3.output, b3.size, fun k hk _ => b3.block k hk⟩ (by
      by_cases e : v1.ownBlock = Option.none
      · exact .inl e
      · exact .inr e)
  exact ⟨⟨a1, c0, fun k hk => b5.block k hk⟩, ⟨d0, fun k hk => b6.block k hk⟩, (keeps_of_below b3).trans a4, ⟨(show _ = _ from d2).trans (show _ = _ from h2).symm, (show _ = _ from d3).trans (show _ = _ from h3).symm⟩,
    ⟨v', vals ++ [r], a2, by rw [List.length_append]; exact a3, by simp, VS⟩, ⟨d2, d3⟩, b6⟩
set_option maxHeartbeats 8000000
theorem pairs20 {β : Type} (key : V4 → β) (lt : β → β → Bool) (D : V4 → Prop) (HO : Ord key lt D) (HL : Lin lt) (w : World) (v : Value) (LL : List (List V4)) (h : Rr w v LL) (h2 : 2 ≤ LL.length)
    (hD : ∀ x ∈ LL.flatten, D x ∧ One x) (hn : LL.length ≤ 1000000000) (ht : LL.flatten.length ≤ 1000000000) (hcap : ∀ a n c, v = .slice a n c → c ≤ 9223372036854775807) :
    Calls Try.prog 20 #[.func (.func 13) #[] #[], v] w fun e w' => ∃ r vals, e = .returned r ∧ w'.ownsRow w.heap.size 38 1 r vals.length vals ∧ Vs w' vals (jp key lt LL) ∧ Below w.heap.size w w' := by
  obtain ⟨i0, hi, hz0, hz1, hz2⟩ := info_parts infoS
  obtain ⟨a, c, rfl, hg⟩ := h
  obtain ⟨b, off, u, rfl, hnc, hb, hcell, hsl⟩ := hg 0 (by omega)
  have HJ := Lib.hid (jn_all key lt LL)
  have hcap' := hcap _ _ _ rfl
  obtain ⟨n, hN⟩ : ∃ n, n = LL.length := ⟨_, rfl⟩
  have HG := Lib.hid (show ∀ i, i < n → ∃ u, w.cell? ⟨b, off + i, none⟩ = some u ∧ Sl w u (LL.getD i []) from fun i hi => by
    obtain ⟨_, _, u, e, _, _, h3, h4⟩ := hg i (by omega)
    cases e
    exact ⟨u, h3, h4⟩)
  have JO := Lib.hid (fun (W : World) (u1 u2 : Value) (A B : List V4) h1 h2 h3 h4 h5 => join27 key lt D HO HL W u1 u2 A B h1 h2 h3 h4 h5)
  have HN := Lib.hid hN
  have HD := Lib.hid hD
  have HT := Lib.hid ht
  rw [← hN] at HJ hnc h2 hn ⊢
  clear hg hcell hsl hcap HO HL hN hD ht
  refine callsIn_wide (n := 9).1 ?_
  refine callsIn_of_wp_marks Try.func20 rfl trivial ?_ rfl
  simp only [Try.ntmps20, List.size_toArray, List.length_cons, List.length_nil, Nat.reduceAdd, Nat.reduceSub, Array.replicate_succ, Array.replicate_zero, List.push_toArray, List.append_toArray, List.nil_append, List.cons_append]
  gi_wp2_with fail
  refine ⟨trivial, (callsIn_wide.2 (chunk26 _ _ _ _)).mono ?_⟩
  rintro e w' ⟨rfl, rfl⟩
  have bx0 : Boxed (w.alloc (.cells #[.func (.func 13) #[] #[]] 45)) w.heap.size 45 (.func (.func 13) #[] #[]) := Boxed.new _ _ _
  have bx1 : Boxed ((w.alloc (.cells #[.func (.func 13) #[] #[]] 45)).alloc (.cells #[.slice none 0 0] 54)) (w.heap.size + 1) 54 (.slice none 0 0) := by
    have := Boxed.new (w.alloc (.cells #[.func (.func 13) #[] #[]] 45)) 54 (.slice none 0 0)
    rwa [World.size_alloc] at this
  obtain ⟨w2, hw2⟩ : ∃ w2, w2 = (w.alloc (.cells #[.func (.func 13) #[] #[]] 45)).alloc (.cells #[.slice none 0 0] 54) := ⟨_, rfl⟩
  have sz2 : w2.heap.size = w.heap.size + 2 := by rw [hw2]; simp
  have b2 : Below w.heap.size w w2 := by rw [hw2]; exact ((Below.refl _ w).alloc (Nat.le_refl _) _).alloc (by simp) _
  have bx0 : Boxed w2 w.heap.size 45 (.func (.func 13) #[] #[]) := by rw [hw2]; exact bx0.alloc _
  rw [← hw2] at bx1 ⊢
  clear hw2
  have bx2 : Boxed (w2.alloc (.cells #[.slice (some ⟨b, off, none⟩) n c] 54)) w2.heap.size 54 (.slice (some ⟨b, off, none⟩) n c) := Boxed.new _ _ _
  have bx3 : Boxed ((w2.alloc (.cells #[.slice (some ⟨b, off, none⟩) n c] 54)).alloc (.cells #[.int .i64 2] 3)) (w2.heap.size + 1) 3 (.int .i64 2) := by
    have := Boxed.new (w2.alloc (.cells #[.slice (some ⟨b, off, none⟩) n c] 54)) 3 (.int .i64 2)
    rwa [World.size_alloc] at this
  obtain ⟨W0, hW0⟩ : ∃ W0, W0 = (w2.alloc (.cells #[.slice (some ⟨b, off, none⟩) n c] 54)).alloc (.cells #[.int .i64 2] 3) := ⟨_, rfl⟩
  have sz0 : W0.heap.size = w.heap.size + 4 := by rw [hW0]; simp; omega
  have b0 : Below w.heap.size w W0 := by rw [hW0]; exact (b2.alloc b2.size _).alloc (by simp; omega) _
  have bx0 : Boxed W0 w.heap.size 45 (.func (.func 13) #[] #[]) := by rw [hW0]; exact (bx0.alloc _).alloc _
  have bx1 : Boxed W0 (w.heap.size + 1) 54 (.slice none 0 0) := by rw [hW0]; exact (bx1.alloc _).alloc _
  have bx2 : Boxed W0 (w.heap.size + 2) 54 (.slice (some ⟨b, off, none⟩) n c) := by rw [hW0, ← sz2]; exact bx2.alloc _
  have bx3 : Boxed W0 (w.heap.size + 3) 3 (.int .i64 2) := by rw [hW0, show w.heap.size + 3 = w2.heap.size + 1 by omega]; exact bx3
  rw [← hW0]
  rw [sz2]
  clear hW0
  gi_wp2
  refine wpIn_rangeFunc_ownG rfl (by decide) (gf := 35) (lb := #[.pointer (some ⟨w.heap.size + 2, 0, none⟩), .pointer (some ⟨w.heap.size + 3, 0, none⟩)]) rfl trivial (enters_of Try.func35 (by kernel_rfl) rfl)
    (seq35 _ _ _ b off n c (by omega) h2 hnc hcap' W0 bx2 bx3) kb_t (fun W l o o' hl _ _ _ => ⟨World.putObj_heap_other (by omega), World.putObj_heap_other (by omega)⟩) (Below.refl _ _) (fun _ => rfl)
    (fun pre W => (∃ v vals, Boxed W (w.heap.size + 1) 54 v ∧ W.ownsRow w.heap.size 38 1 v vals.length vals ∧ vals.length ≤ pre.length ∧ Vr w W vals (pre.map fun x => jn key lt LL n x.1)) ∧ (Boxed W w.heap.size 45 (.func (.func 13) #[] #[]) ∧ Boxed W (w.heap.size + 2) 54 (.slice (some ⟨b, off, none⟩) n c) ∧ Boxed W (w.heap.size + 3) 3 (.int .i64 2)) ∧ Below w.heap.size w W)
    (fun _ _ _ => False)
    ?hI (fun _ _ _ _ _ hs _ _ => hs) ⟨⟨_, [], bx1, World.ownsRow_nil _ _ _ _, Nat.le_refl _, vr_nil _ _⟩, ⟨bx0, bx2, bx3⟩, b0⟩
    (fun x => { tmps := #[.func (.func 13) #[] #[], .slice (some ⟨b, off, none⟩) n c, .pointer (some ⟨w.heap.size, 0, none⟩), undef, .slice none 0 0, .pointer (some ⟨w.heap.size + 1, 0, none⟩), chk b off n x.1, .slice (some ⟨b, off, none⟩) n c, .func (.func 35) #[] #[.pointer (some ⟨w.heap.size + 2, 0, none⟩), .pointer (some ⟨w.heap.size + 3, 0, none⟩)], chk b off n x.1, undef, undef, undef, undef, undef, undef, undef, undef, undef, undef, undef, undef, undef, undef, undef, undef, undef, undef, undef, undef, undef], defers := [] })
    ?assign ?body ?done ?stop
  case hI =>
    rintro pre A B row ⟨⟨v, vals, h1, h2, h3, h4⟩, ⟨h5, h7, h8⟩, h6⟩ hg hr
    have hr' := fun r e => (hr r e).2
    exact ⟨⟨v, vals, boxed_kept h1 hg hr', own_kept h2 hg hr', h3, h4.imp fun _ _ _ h => own_kept h hg hr'⟩, ⟨boxed_kept h5 hg hr', boxed_kept h7 hg hr', boxed_kept h8 hg hr'⟩, h6.grown hg h6.size (fun k e => by have := (hr k e).1; omega)⟩
  case assign =>
    intro l x W K hK
    gi_wp2
    exact hK
  case body =>
    rintro l pre ⟨x, hx⟩ W ⟨⟨v, vals, hv, hrow, hl, hvs⟩, ⟨hq, hq2, hq3⟩, hB⟩ hpre
    obtain ⟨u0, e0, s0⟩ := HG.out (2 * x) hx
    obtain ⟨va, vc, hva⟩ := own_forms hrow
    subst hva
    have zB := hB.size
    have t0 := total_le (LL := LL) (i := 2 * x) (by rw [← HN.out]; exact hx)
    have gq : W.cell? ⟨w.heap.size, 0, none⟩ = some (.func (.func 13) #[] #[]) := hq.cell
    have g0 := (hB.cell (p := ⟨b, off + 2 * x, none⟩) hb).trans e0
    have hlen : vals.length ≤ 1000000000 := by omega
    have HT9 := HT.out
    have GEN := Lib.hid (fun w3 v5 w5 r L b3 (hr : Ro w w3 r L) (hL : L = jn key lt LL n x) o5 g5 => round_end w W w3 w5 _ v5 r vals _ L _ _ _ hv hrow hvs hq hq2 hq3 hB b3 hr o5 g5)
    have GV := Lib.hid (show ∀ w3, Below W.heap.size W w3 → w3.cell? ⟨w.heap.size + 1, 0, none⟩ = some (.slice va vals.length vc) from fun w3 h3 => (h3.cell hv.lt).trans hv.cell)
    have gv := hv.cell
    have APP := Lib.hid (show ∀ w3 r L, Below W.heap.size W w3 → Ro w w3 r L → (w3.alloc (.cells #[r] 38)).ownsRow w.heap.size 38 1 (.slice va vals.length vc) vals.length vals ∧ (∀ j u, [r][j]? = some u → (w3.alloc (.cells #[r] 38)).cell? ((⟨w3.heap.size, 0, none⟩ : Addr).add j) = some u) ∧ (∀ u ∈ [r], u.oneCell' = true) ∧ w.heap.size ≤ (w3.alloc (.cells #[r] 38)).heap.size from fun w3 r L h3 hr => by
      have zz := h3.size
      refine ⟨(own_below hrow h3).alloc _, fun j u hj => ?_, fun u hu => ?_, by simp; omega⟩
      · match j, hj with
        | 0, hj => cases hj; exact cell_at (heap_alloc_new w3 (.cells #[r] 38)) 0
      · obtain rfl : u = r := by simpa using hu
        obtain ⟨_, _, e⟩ := (hr.sl (hB.trans (h3.mono zB))).forms
        rw [e]; rfl)
    have FIN := Lib.hid (fun (y : World) (L : List V4) (hL : L = jn key lt LL n x) (h : KeepsOthers W y ∧ Kb (w.heap.size + 2) (w.heap.size + 3) W y ∧ (∃ v vals', Boxed y (w.heap.size + 1) 54 v ∧ y.ownsRow w.heap.size 38 1 v vals'.length vals' ∧ vals'.length = vals.length + 1 ∧ Vr w y vals' (pre.map (fun x => jn key lt LL n x.1) ++ [L])) ∧ (Boxed y (w.heap.size + 2) 54 (.slice (some ⟨b, off, none⟩) n c) ∧ Boxed y (w.heap.size + 3) 3 (.int .i64 2)) ∧ Below w.heap.size w y) (h9 : Boxed y w.heap.size 45 (.func (.func 13) #[] #[])) =>
      show KeepsFrom W0.heap.size W y ∧ Kb (w.heap.size + 2) (w.heap.size + 3) W y ∧ ((∃ v vals, Boxed y (w.heap.size + 1) 54 v ∧ y.ownsRow w.heap.size 38 1 v vals.length vals ∧ vals.length ≤ (pre ++ [(⟨x, hx⟩ : Ix n)]).length ∧ Vr w y vals ((pre ++ [(⟨x, hx⟩ : Ix n)]).map fun x => jn key lt LL n x.1)) ∧ (Boxed y w.heap.size 45 (.func (.func 13) #[] #[]) ∧ Boxed y (w.heap.size + 2) 54 (.slice (some ⟨b, off, none⟩) n c) ∧ Boxed y (w.heap.size + 3) 3 (.int .i64 2)) ∧ Below w.heap.size w y) from by
        obtain ⟨h1, h2, ⟨v, vals', h3, h4, h5, h6⟩, h7, h8⟩ := h
        refine ⟨h1.from _, h2, ⟨v, vals', h3, h4, by simp; omega, ?_⟩, ⟨h9, h7.1, h7.2⟩, h8⟩
        rw [hL] at h6
        simpa using h6)
    by_cases h1 : 2 * x + 1 < n
    · obtain ⟨u1, e1, s1⟩ := HG.out (2 * x + 1) h1
      have e1 : w.cell? ⟨b, off + 2 * x + 1, none⟩ = some u1 := e1
      have g1 := (hB.cell (p := ⟨b, off + 2 * x + 1, none⟩) hb).trans e1
      have t1 := total_le2 (LL := LL) (i := 2 * x) (by rw [← HN.out]; exact h1)
      have hck : chk b off n x = .slice (some ⟨b, off + 2 * x, none⟩) 2 2 := by
        unfold chk cl; rw [show min 2 (n - 2 * x) = 2 by omega]
      have HJN := Lib.hid (show mrg key lt (LL.getD (2 * x) []) (LL.getD (2 * x + 1) []) = jn key lt LL n x by unfold jn; rw [if_pos h1])
      have J6 := Lib.hid (JO.out W.drew u0 u1 _ _ ((s0.below hB.drew (Nat.le_refl _))) ((s1.below hB.drew (Nat.le_refl _))) (fun z hz => HD.out z (getD_flat (by rw [← HN.out]; exact hx) hz)) (fun z hz => HD.out z (getD_flat (by rw [← HN.out]; exact h1) hz)) (by omega))
      have kS : (fun y : World => y.cell? ⟨w.heap.size, 0, none⟩ = some (.func (.func 13) #[] #[]) ∧ y.cell? ⟨b, off + 2 * x, none⟩ = some u0 ∧ y.cell? ⟨b, off + 2 * x + 1, none⟩ = some u1) W.drew := ⟨gq, g0, g1⟩
      have KS3 := Lib.hid (show ∀ w3, Below W.heap.size W w3 → (fun y : World => y.cell? ⟨w.heap.size, 0, none⟩ = some (.func (.func 13) #[] #[]) ∧ y.cell? ⟨b, off + 2 * x, none⟩ = some u0 ∧ y.cell? ⟨b, off + 2 * x + 1, none⟩ = some u1) w3 from fun w3 h => ⟨(h.cell hq.lt).trans gq, (h.cell (p := ⟨b, off + 2 * x, none⟩) (by simp; omega)).trans g0, (h.cell (p := ⟨b, off + 2 * x + 1, none⟩) (by simp; omega)).trans g1⟩)
      have KSA := Lib.hid (show ∀ w3, Below W.heap.size W w3 → ∀ o, (fun y : World => y.cell? ⟨w.heap.size, 0, none⟩ = some (.func (.func 13) #[] #[]) ∧ y.cell? ⟨b, off + 2 * x, none⟩ = some u0 ∧ y.cell? ⟨b, off + 2 * x + 1, none⟩ = some u1) (w3.alloc o) from fun w3 h o => KS3.out _ (h.alloc h.size o))
      have KSW := Lib.hid (show ∀ y : World, y.cell? ⟨w.heap.size, 0, none⟩ = some (.func (.func 13) #[] #[]) → (∀ k, k < w.heap.size → y.heap[k]? = w.heap[k]?) → (fun y : World => y.cell? ⟨w.heap.size, 0, none⟩ = some (.func (.func 13) #[] #[]) ∧ y.cell? ⟨b, off + 2 * x, none⟩ = some u0 ∧ y.cell? ⟨b, off + 2 * x + 1, none⟩ = some u1) y from fun y h1 h2 => ⟨h1, (World.cell?_of_block (h2 b hb)).trans e0, (World.cell?_of_block (h2 b hb)).trans e1⟩)
      simp only [hck]
      have gvd : W.drew.cell? ⟨w.heap.size + 1, 0, none⟩ = some (.slice va vals.length vc) := gv
      clear HG HD HN HJ JO t0 t1 HT hv hrow hvs hq hq2 hq3 s0 s1 gq g0 g1 e0 e1
      gi_wp2
      refine region_round' (by kernel_rfl) (by kernel_rfl) (S := fun y : World => y.cell? ⟨w.heap.size, 0, none⟩ = some (.func (.func 13) #[] #[]) ∧ y.cell? ⟨b, off + 2 * x, none⟩ = some u0 ∧ y.cell? ⟨b, off + 2 * x + 1, none⟩ = some u1) kS (fun hS => ?_)
      refine wpAnyH_take (i := 1) (oi := { dst := some 14, op := Op.load 45 (Operand.tmp 2), type := 45, pos := "rising.go:41", after := #[], guard := none }) (v := ?pv1) rfl (by kernel_rfl) (by kernel_rfl) (by kernel_rfl) (fun _ _ _ h => h) (Or.inl ⟨by rfl, ?ph1⟩) hS ?pr1
      case ph1 => (intro w hSw; (try dsimp only at hSw); go_simp; try (with_reducible rfl))
      try simp only [Act.put, List.setIfInBounds_toArray, List.set_cons_zero, List.set_cons_succ]
      refine wpAnyH_take (i := 2) (oi := { dst := some 15, op := Op.move (Operand.tmp 6), type := 54, pos := "rising.go:41", after := #[], guard := none }) (v := ?pv2) rfl (by kernel_rfl) (by kernel_rfl) (by kernel_rfl) (fun _ _ _ h => h) (Or.inl ⟨by rfl, ?ph2⟩) hS ?pr2
      case ph2 => (intro w hSw; (try dsimp only at hSw); go_simp; try (with_reducible rfl))
      try simp only [Act.put, List.setIfInBounds_toArray, List.set_cons_zero, List.set_cons_succ]
      refine wpAnyH_take (i := 3) (oi := { dst := some 16, op := Op.indexAddr 54 (Operand.tmp 15) (Operand.const (Value.int IntKind.i64 0)), type := 0, pos := "rising.go:41", after := #[{ on := 2, ground := Ground.data }], guard := none }) (v := ?pv3) rfl (by kernel_rfl) (by kernel_rfl) (by kernel_rfl) (fun _ _ _ h => h) (Or.inl ⟨by rfl, ?ph3⟩) hS ?pr3
      case ph3 => (intro w hSw; (try dsimp only at hSw); go_simp; try (with_reducible rfl))
      try simp only [Act.put, List.setIfInBounds_toArray, List.set_cons_zero, List.set_cons_succ]
      refine wpAnyH_take (i := 4) (oi := { dst := some 17, op := Op.load 38 (Operand.tmp 16), type := 38, pos := "rising.go:41", after := #[{ on := 3, ground := Ground.data }], guard := none }) (v := ?pv4) rfl (by kernel_rfl) (by kernel_rfl) (by kernel_rfl) (fun _ _ _ h => h) (Or.inl ⟨by rfl, ?ph4⟩) hS ?pr4
      case ph4 => (intro w hSw; (try dsimp only at hSw); go_simp; try (with_reducible rfl))
      try simp only [Act.put, List.setIfInBounds_toArray, List.set_cons_zero, List.set_cons_succ]
      refine wpAnyH_take (i := 5) (oi := { dst := some 18, op := Op.move (Operand.tmp 6), type := 54, pos := "rising.go:41", after := #[], guard := none }) (v := ?pv5) rfl (by kernel_rfl) (by kernel_rfl) (by kernel_rfl) (fun _ _ _ h => h) (Or.inl ⟨by rfl, ?ph5⟩) hS ?pr5
      case ph5 => (intro w hSw; (try dsimp only at hSw); go_simp; try (with_reducible rfl))
      try simp only [Act.put, List.setIfInBounds_toArray, List.set_cons_zero, List.set_cons_succ]
      refine wpAnyH_take (i := 6) (oi := { dst := some 19, op := Op.indexAddr 54 (Operand.tmp 18) (Operand.const (Value.int IntKind.i64 1)), type := 0, pos := "rising.go:41", after := #[{ on := 5, ground := Ground.data }], guard := none }) (v := ?pv6) rfl (by kernel_rfl) (by kernel_rfl) (by kernel_rfl) (fun _ _ _ h => h) (Or.inl ⟨by rfl, ?ph6⟩) hS ?pr6
      case ph6 => (intro w hSw; (try dsimp only at hSw); go_simp; try (with_reducible rfl))
      try simp only [Act.put, List.setIfInBounds_toArray, List.set_cons_zero, List.set_cons_succ]
      refine wpAnyH_take (i := 7) (oi := { dst := some 20, op := Op.load 38 (Operand.tmp 19), type := 38, pos := "rising.go:41", after := #[{ on := 6, ground := Ground.data }], guard := none }) (v := ?pv7) rfl (by kernel_rfl) (by kernel_rfl) (by kernel_rfl) (fun _ _ _ h => h) (Or.inl ⟨by rfl, ?ph7⟩) hS ?pr7
      case ph7 => (intro w hSw; (try dsimp only at hSw); go_simp; try (with_reducible rfl))
      try simp only [Act.put, List.setIfInBounds_toArray, List.set_cons_zero, List.set_cons_succ]
      refine wpAnyH_ready (rs := [0, 8]) (by kernel_rfl) (by simp) ?_
      refine AllReadyH.cons rfl (fun K hK => ?_) (AllReadyH.cons rfl (fun K hK => ?_) AllReadyH.nil)
      · go_simp
        (try dsimp only)
        refine hK.out _ _ hS (fun hS => ?_)
        clear hK K
        try simp only [Act.put, List.setIfInBounds_toArray, List.set_cons_zero, List.set_cons_succ]
        refine wpAnyH_ready (rs := [8]) (by kernel_rfl) (by simp) ?_
        refine AllReadyH.cons rfl (fun K hK => ?_) AllReadyH.nil
        go_simp
        go_at_call 27
        refine J6.out.mono ?_
        rintro e w3 ⟨r, rfl, o3, b3⟩
        obtain ⟨ra, rn, rc, rfl⟩ := La.own_formsN o3
        have B3 : Below W.heap.size W w3 := (Below.refl _ W).drew.trans b3
        have RO3 := Lib.hid (show Ro w w3 (.slice ra rn rc) _ from .inr (own_base o3 zB))
        clear o3 b3
        have kY := KS3.out w3 B3
        have e3 := GV.out w3 B3
        have e3a := GV.out (w3.alloc (.cells #[.slice ra rn rc] 38)) (B3.alloc B3.size _)
        have AP := Lib.hid (APP.out w3 (.slice ra rn rc) _ B3 RO3.out)
        have kA := KSA.out w3 B3 (.cells #[.slice ra rn rc] 38)
        have kY := KS3.out w3 B3
        (try dsimp only)
        refine hK.out _ _ kY (fun hS => ?_)
        clear hK K
        try simp only [Act.put, List.setIfInBounds_toArray, List.set_cons_zero, List.set_cons_succ]
        refine wpAnyH_ready (rs := [9]) (by kernel_rfl) (by simp) ?_
        refine AllReadyH.cons rfl (fun K hK => ?_) AllReadyH.nil
        go_simp
        (try dsimp only)
        refine hK.out _ _ kA (fun hS => ?_)
        clear hK K
        try simp only [Act.put, List.setIfInBounds_toArray, List.set_cons_zero, List.set_cons_succ]
        refine wpAnyH_ready (rs := [10]) (by kernel_rfl) (by simp) ?_
        refine AllReadyH.cons rfl (fun K hK => ?_) AllReadyH.nil
        refine La.step_append_own rfl (.tmp 13) (.tmp 22) 54 rfl w.heap.size 38 i0 _ 1 24 Try.underlying54 hi hz0 hz1 hz2 rfl (by decide) (.slice va vals.length vc) vals.length vals (by simp [Act.eval]) AP.out.1 ⟨_, 0, none⟩ 1 1 [.slice ra rn rc] (by simp [Act.eval]) rfl AP.out.2.1 AP.out.2.2.1 (by unfold maxLen; omega) (by omega) AP.out.2.2.2 ?_
        intro v5 w5 o5 g5
        have FE := Lib.hid (GEN.out w3 v5 w5 (.slice ra rn rc) _ B3 RO3.out HJN.out o5 g5)
        obtain ⟨ga, gc, rfl⟩ := ownsRow_succ o5
        have kZ := KSW.out w5 FE.out.1.2.1.cell FE.out.1.2.2
        have e5 := FE.out.1.1.cell
        have f5 := FE.out.1.1.frozen
        clear o5 g5
        (try dsimp only)
        refine hK.out _ _ kZ (fun hS => ?_)
        clear hK K
        try simp only [Act.put, List.setIfInBounds_toArray]
        refine wpAnyH_ready (rs := [11]) (by kernel_rfl) (by simp) ?_
        refine AllReadyH.cons rfl (fun K hK => ?_) AllReadyH.nil
        go_simp
        (try dsimp only)
        have kE := KSW.out _ FE.out.2.1.1.cell FE.out.2.1.2
        refine hK.out _ _ kE (fun hS => ?_)
        clear hK K
        refine wpAnyH_done (by kernel_rfl) ?_ _
        exact ⟨rfl, FIN.out _ _ HJN.out FE.out.2.2 FE.out.2.1.1⟩
      · go_simp
        go_at_call 27
        refine J6.out.mono ?_
        rintro e w3 ⟨r, rfl, o3, b3⟩
        obtain ⟨ra, rn, rc, rfl⟩ := La.own_formsN o3
        have B3 : Below W.heap.size W w3 := (Below.refl _ W).drew.trans b3
        have RO3 := Lib.hid (show Ro w w3 (.slice ra rn rc) _ from .inr (own_base o3 zB))
        clear o3 b3
        have kY := KS3.out w3 B3
        have e3 := GV.out w3 B3
        have e3a := GV.out (w3.alloc (.cells #[.slice ra rn rc] 38)) (B3.alloc B3.size _)
        have AP := Lib.hid (APP.out w3 (.slice ra rn rc) _ B3 RO3.out)
        have kA := KSA.out w3 B3 (.cells #[.slice ra rn rc] 38)
        have kY := KS3.out w3 B3
        (try dsimp only)
        refine hK.out _ _ kY (fun hS => ?_)
        clear hK K
        try simp only [Act.put, List.setIfInBounds_toArray, List.set_cons_zero, List.set_cons_succ]
        refine wpAnyH_ready (rs := [0, 9]) (by kernel_rfl) (by simp) ?_
        refine AllReadyH.cons rfl (fun K hK => ?_) (AllReadyH.cons rfl (fun K hK => ?_) AllReadyH.nil)
        · go_simp
          (try dsimp only)
          refine hK.out _ _ kY (fun hS => ?_)
          clear hK K
          try simp only [Act.put, List.setIfInBounds_toArray, List.set_cons_zero, List.set_cons_succ]
          refine wpAnyH_ready (rs := [9]) (by kernel_rfl) (by simp) ?_
          refine AllReadyH.cons rfl (fun K hK => ?_) AllReadyH.nil
          go_simp
          (try dsimp only)
          refine hK.out _ _ kA (fun hS => ?_)
          clear hK K
          try simp only [Act.put, List.setIfInBounds_toArray, List.set_cons_zero, List.set_cons_succ]
          refine wpAnyH_ready (rs := [10]) (by kernel_rfl) (by simp) ?_
          refine AllReadyH.cons rfl (fun K hK => ?_) AllReadyH.nil
          refine La.step_append_own rfl (.tmp 13) (.tmp 22) 54 rfl w.heap.size 38 i0 _ 1 24 Try.underlying54 hi hz0 hz1 hz2 rfl (by decide) (.slice va vals.length vc) vals.length vals (by simp [Act.eval]) AP.out.1 ⟨_, 0, none⟩ 1 1 [.slice ra rn rc] (by simp [Act.eval]) rfl AP.out.2.1 AP.out.2.2.1 (by unfold maxLen; omega) (by omega) AP.out.2.2.2 ?_
          intro v5 w5 o5 g5
          have FE := Lib.hid (GEN.out w3 v5 w5 (.slice ra rn rc) _ B3 RO3.out HJN.out o5 g5)
          obtain ⟨ga, gc, rfl⟩ := ownsRow_succ o5
          have kZ := KSW.out w5 FE.out.1.2.1.cell FE.out.1.2.2
          have e5 := FE.out.1.1.cell
          have f5 := FE.out.1.1.frozen
          clear o5 g5
          (try dsimp only)
          refine hK.out _ _ kZ (fun hS => ?_)
          clear hK K
          try simp only [Act.put, List.setIfInBounds_toArray]
          refine wpAnyH_ready (rs := [11]) (by kernel_rfl) (by simp) ?_
          refine AllReadyH.cons rfl (fun K hK => ?_) AllReadyH.nil
          go_simp
          (try dsimp only)
          have kE := KSW.out _ FE.out.2.1.1.cell FE.out.2.1.2
          refine hK.out _ _ kE (fun hS => ?_)
          clear hK K
          refine wpAnyH_done (by kernel_rfl) ?_ _
          exact ⟨rfl, FIN.out _ _ HJN.out FE.out.2.2 FE.out.2.1.1⟩
        · go_simp
          (try dsimp only)
          refine hK.out _ _ kA (fun hS => ?_)
          clear hK K
          try simp only [Act.put, List.setIfInBounds_toArray, List.set_cons_zero, List.set_cons_succ]
          refine wpAnyH_ready (rs := [0]) (by kernel_rfl) (by simp) ?_
          refine AllReadyH.cons rfl (fun K hK => ?_) AllReadyH.nil
          go_simp
          (try dsimp only)
          refine hK.out _ _ kA (fun hS => ?_)
          clear hK K
          try simp only [Act.put, List.setIfInBounds_toArray, List.set_cons_zero, List.set_cons_succ]
          refine wpAnyH_ready (rs := [10]) (by kernel_rfl) (by simp) ?_
          refine AllReadyH.cons rfl (fun K hK => ?_) AllReadyH.nil
          refine La.step_append_own rfl (.tmp 13) (.tmp 22) 54 rfl w.heap.size 38 i0 _ 1 24 Try.underlying54 hi hz0 hz1 hz2 rfl (by decide) (.slice va vals.length vc) vals.length vals (by simp [Act.eval]) AP.out.1 ⟨_, 0, none⟩ 1 1 [.slice ra rn rc] (by simp [Act.eval]) rfl AP.out.2.1 AP.out.2.2.1 (by unfold maxLen; omega) (by omega) AP.out.2.2.2 ?_
          intro v5 w5 o5 g5
          have FE := Lib.hid (GEN.out w3 v5 w5 (.slice ra rn rc) _ B3 RO3.out HJN.out o5 g5)
          obtain ⟨ga, gc, rfl⟩ := ownsRow_succ o5
          have kZ := KSW.out w5 FE.out.1.2.1.cell FE.out.1.2.2
          have e5 := FE.out.1.1.cell
          have f5 := FE.out.1.1.frozen
          clear o5 g5
          (try dsimp only)
          refine hK.out _ _ kZ (fun hS => ?_)
          clear hK K
          try simp only [Act.put, List.setIfInBounds_toArray]
          refine wpAnyH_ready (rs := [11]) (by kernel_rfl) (by simp) ?_
          refine AllReadyH.cons rfl (fun K hK => ?_) AllReadyH.nil
          go_simp
          (try dsimp only)
          have kE := KSW.out _ FE.out.2.1.1.cell FE.out.2.1.2
          refine hK.out _ _ kE (fun hS => ?_)
          clear hK K
          refine wpAnyH_done (by kernel_rfl) ?_ _
          exact ⟨rfl, FIN.out _ _ HJN.out FE.out.2.2 FE.out.2.1.1⟩
    · have hck : chk b off n x = .slice (some ⟨b, off + 2 * x, none⟩) 1 1 := by
        unfold chk cl; rw [show min 2 (n - 2 * x) = 1 by omega]
      have HJN := Lib.hid (show LL.getD (2 * x) [] = jn key lt LL n x by unfold jn; rw [if_neg h1])
      obtain ⟨ra, rc, hu0⟩ := s0.forms
      obtain ⟨rn, hrn⟩ : ∃ rn, rn = (LL.getD (2 * x) []).length := ⟨_, rfl⟩
      rw [← hrn] at hu0
      subst hu0
      obtain ⟨w3, hw3⟩ : ∃ w3, w3 = W.drew := ⟨_, rfl⟩
      have B3 : Below W.heap.size W w3 := by rw [hw3]; exact (Below.refl _ W).drew
      have RO3 := Lib.hid (show Ro w w3 (.slice ra rn rc) _ from .inl s0)
      have kS : (fun y : World => y.cell? ⟨w.heap.size, 0, none⟩ = some (.func (.func 13) #[] #[]) ∧ y.cell? ⟨b, off + 2 * x, none⟩ = some (.slice ra rn rc)) w3 := by rw [hw3]; exact ⟨gq, g0⟩
      have KS3 := Lib.hid (show ∀ w3, Below W.heap.size W w3 → (fun y : World => y.cell? ⟨w.heap.size, 0, none⟩ = some (.func (.func 13) #[] #[]) ∧ y.cell? ⟨b, off + 2 * x, none⟩ = some (.slice ra rn rc)) w3 from fun w3 h => ⟨(h.cell hq.lt).trans gq, (h.cell (p := ⟨b, off + 2 * x, none⟩) (by simp; omega)).trans g0⟩)
      have KSA := Lib.hid (show ∀ w3, Below W.heap.size W w3 → ∀ o, (fun y : World => y.cell? ⟨w.heap.size, 0, none⟩ = some (.func (.func 13) #[] #[]) ∧ y.cell? ⟨b, off + 2 * x, none⟩ = some (.slice ra rn rc)) (w3.alloc o) from fun w3 h o => KS3.out _ (h.alloc h.size o))
      have KSW := Lib.hid (show ∀ y : World, y.cell? ⟨w.heap.size, 0, none⟩ = some (.func (.func 13) #[] #[]) → (∀ k, k < w.heap.size → y.heap[k]? = w.heap[k]?) → (fun y : World => y.cell? ⟨w.heap.size, 0, none⟩ = some (.func (.func 13) #[] #[]) ∧ y.cell? ⟨b, off + 2 * x, none⟩ = some (.slice ra rn rc)) y from fun y h1 h2 => ⟨h1, (World.cell?_of_block (h2 b hb)).trans e0⟩)
      have kY := KS3.out w3 B3
      have e3 := GV.out w3 B3
      have e3a := GV.out (w3.alloc (.cells #[.slice ra rn rc] 38)) (B3.alloc B3.size _)
      have AP := Lib.hid (APP.out w3 (.slice ra rn rc) _ B3 RO3.out)
      have kA := KSA.out w3 B3 (.cells #[.slice ra rn rc] 38)
      simp only [hck]
      clear HG HD HN HJ JO t0 HT hv hrow hvs hq hq2 hq3 s0 gq g0 e0 hrn
      gi_wp2
      refine region_round' (by kernel_rfl) (by kernel_rfl) (S := fun y : World => y.cell? ⟨w.heap.size, 0, none⟩ = some (.func (.func 13) #[] #[]) ∧ y.cell? ⟨b, off + 2 * x, none⟩ = some (.slice ra rn rc)) (by rw [← hw3]; exact kS) (fun hS => ?_)
      rw [← hw3] at hS ⊢
      clear hw3
      refine wpAnyH_take (i := 1) (oi := { dst := some 25, op := Op.move (Operand.tmp 6), type := 54, pos := "rising.go:43", after := #[], guard := none }) (v := ?qv1) rfl (by kernel_rfl) (by kernel_rfl) (by kernel_rfl) (fun _ _ _ h => h) (Or.inl ⟨by rfl, ?qh1⟩) hS ?qr1
      case qh1 => (intro w hSw; (try dsimp only at hSw); go_simp; try (with_reducible rfl))
      try simp only [Act.put, List.setIfInBounds_toArray, List.set_cons_zero, List.set_cons_succ]
      refine wpAnyH_take (i := 2) (oi := { dst := some 26, op := Op.indexAddr 54 (Operand.tmp 25) (Operand.const (Value.int IntKind.i64 0)), type := 0, pos := "rising.go:43", after := #[{ on := 1, ground := Ground.data }], guard := none }) (v := ?qv2) rfl (by kernel_rfl) (by kernel_rfl) (by kernel_rfl) (fun _ _ _ h => h) (Or.inl ⟨by rfl, ?qh2⟩) hS ?qr2
      case qh2 => (intro w hSw; (try dsimp only at hSw); go_simp; try (with_reducible rfl))
      try simp only [Act.put, List.setIfInBounds_toArray, List.set_cons_zero, List.set_cons_succ]
      refine wpAnyH_take (i := 3) (oi := { dst := some 27, op := Op.load 38 (Operand.tmp 26), type := 38, pos := "rising.go:43", after := #[{ on := 2, ground := Ground.data }], guard := none }) (v := ?qv3) rfl (by kernel_rfl) (by kernel_rfl) (by kernel_rfl) (fun _ _ _ h => h) (Or.inl ⟨by rfl, ?qh3⟩) hS ?qr3
      case qh3 => (intro w hSw; (try dsimp only at hSw); go_simp; try (with_reducible rfl))
      try simp only [Act.put, List.setIfInBounds_toArray, List.set_cons_zero, List.set_cons_succ]
      refine wpAnyH_ready (rs := [0, 4]) (by kernel_rfl) (by simp) ?_
      refine AllReadyH.cons rfl (fun K hK => ?_) (AllReadyH.cons rfl (fun K hK => ?_) AllReadyH.nil)
      · go_simp
        (try dsimp only)
        refine hK.out _ _ hS (fun hS => ?_)
        clear hK K
        try simp only [Act.put, List.setIfInBounds_toArray, List.set_cons_zero, List.set_cons_succ]
        refine wpAnyH_ready (rs := [4]) (by kernel_rfl) (by simp) ?_
        refine AllReadyH.cons rfl (fun K hK => ?_) AllReadyH.nil
        go_simp
        (try dsimp only)
        refine hK.out _ _ kA (fun hS => ?_)
        clear hK K
        try simp only [Act.put, List.setIfInBounds_toArray, List.set_cons_zero, List.set_cons_succ]
        refine wpAnyH_ready (rs := [5]) (by kernel_rfl) (by simp) ?_
        refine AllReadyH.cons rfl (fun K hK => ?_) AllReadyH.nil
        refine La.step_append_own rfl (.tmp 24) (.tmp 28) 54 rfl w.heap.size 38 i0 _ 1 24 Try.underlying54 hi hz0 hz1 hz2 rfl (by decide) (.slice va vals.length vc) vals.length vals (by simp [Act.eval]) AP.out.1 ⟨_, 0, none⟩ 1 1 [.slice ra rn rc] (by simp [Act.eval]) rfl AP.out.2.1 AP.out.2.2.1 (by unfold maxLen; omega) (by omega) AP.out.2.2.2 ?_
        intro v5 w5 o5 g5
        have FE := Lib.hid (GEN.out w3 v5 w5 (.slice ra rn rc) _ B3 RO3.out HJN.out o5 g5)
        obtain ⟨ga, gc, rfl⟩ := ownsRow_succ o5
        have kZ := KSW.out w5 FE.out.1.2.1.cell FE.out.1.2.2
        have e5 := FE.out.1.1.cell
        have f5 := FE.out.1.1.frozen
        clear o5 g5
        (try dsimp only)
        refine hK.out _ _ kZ (fun hS => ?_)
        clear hK K
        try simp only [Act.put, List.setIfInBounds_toArray]
        refine wpAnyH_ready (rs := [6]) (by kernel_rfl) (by simp) ?_
        refine AllReadyH.cons rfl (fun K hK => ?_) AllReadyH.nil
        go_simp
        (try dsimp only)
        have kE := KSW.out _ FE.out.2.1.1.cell FE.out.2.1.2
        refine hK.out _ _ kE (fun hS => ?_)
        clear hK K
        refine wpAnyH_done (by kernel_rfl) ?_ _
        exact ⟨rfl, FIN.out _ _ HJN.out FE.out.2.2 FE.out.2.1.1⟩
      · go_simp
        (try dsimp only)
        refine hK.out _ _ kA (fun hS => ?_)
        clear hK K
        try simp only [Act.put, List.setIfInBounds_toArray, List.set_cons_zero, List.set_cons_succ]
        refine wpAnyH_ready (rs := [0]) (by kernel_rfl) (by simp) ?_
        refine AllReadyH.cons rfl (fun K hK => ?_) AllReadyH.nil
        go_simp
        (try dsimp only)
        refine hK.out _ _ kA (fun hS => ?_)
        clear hK K
        try simp only [Act.put, List.setIfInBounds_toArray, List.set_cons_zero, List.set_cons_succ]
        refine wpAnyH_ready (rs := [5]) (by kernel_rfl) (by simp) ?_
        refine AllReadyH.cons rfl (fun K hK => ?_) AllReadyH.nil
        refine La.step_append_own rfl (.tmp 24) (.tmp 28) 54 rfl w.heap.size 38 i0 _ 1 24 Try.underlying54 hi hz0 hz1 hz2 rfl (by decide) (.slice va vals.length vc) vals.length vals (by simp [Act.eval]) AP.out.1 ⟨_, 0, none⟩ 1 1 [.slice ra rn rc] (by simp [Act.eval]) rfl AP.out.2.1 AP.out.2.2.1 (by unfold maxLen; omega) (by omega) AP.out.2.2.2 ?_
        intro v5 w5 o5 g5
        have FE := Lib.hid (GEN.out w3 v5 w5 (.slice ra rn rc) _ B3 RO3.out HJN.out o5 g5)
        obtain ⟨ga, gc, rfl⟩ := ownsRow_succ o5
        have kZ := KSW.out w5 FE.out.1.2.1.cell FE.out.1.2.2
        have e5 := FE.out.1.1.cell
        have f5 := FE.out.1.1.frozen
        clear o5 g5
        (try dsimp only)
        refine hK.out _ _ kZ (fun hS => ?_)
        clear hK K
        try simp only [Act.put, List.setIfInBounds_toArray]
        refine wpAnyH_ready (rs := [6]) (by kernel_rfl) (by simp) ?_
        refine AllReadyH.cons rfl (fun K hK => ?_) AllReadyH.nil
        go_simp
        (try dsimp only)
        have kE := KSW.out _ FE.out.2.1.1.cell FE.out.2.1.2
        refine hK.out _ _ kE (fun hS => ?_)
        clear hK K
        refine wpAnyH_done (by kernel_rfl) ?_ _
        exact ⟨rfl, FIN.out _ _ HJN.out FE.out.2.2 FE.out.2.1.1⟩
  case done =>
    rintro D ys W hD rfl ⟨⟨v, vals, hv, hrow, hl, hvs⟩, hq, hB⟩ hK
    have hc := hv.cell
    gi_wp2
    refine ⟨by simp, .inl ⟨_, _, rfl, run_takeDeferred hK, ?_⟩⟩
    have hr : ∀ r, some D = some r → ∃ o : Obj, W.heap[r]? = some o ∧ o.isCells = false := fun r e => by cases e; exact ⟨_, hK, rfl⟩
    refine ⟨_, results_tmp rfl _ _ _, v, vals, rfl, ownsRow_putObj hrow _ hK rfl, ?_, hB.trans (belowK_b (w := w) (Nat.le_refl _) W D _ _ (by omega) hK rfl rfl)⟩
    have bD := hB.trans (belowK_b (w := w) (Nat.le_refl _) W D _ (.deferred none) (by omega) hK rfl rfl)
    have h9 := vr_vs (hvs.imp (W' := W.putObj D (.deferred none)) fun _ _ _ h => own_kept h (grownBy_putObj' W D (.deferred none)) hr) bD
    rwa [HJ.out] at h9
  case stop =>
    rintro D c pre W _ _ h _
    exact h.elim
end Nep
end Go.Proofs.Ythaadpijfkmdiaa
