/- The document's Check, Fits. The document's Trimmed. -/
import Derived.Test.YtdaknlmnelfedaaGreatDoorX1
namespace Go.Proofs.YtdaknlmnelfedaaGreatDoor
open Go.RowKit Go.Maps Go.ChangeMaps Go.MapKept
namespace X3
open Jb Jm Jd Jw Jx Jn Je Jf Jg Jh Jk Jc Jl Jo Jq Jr J1 J2 J3 J4 W1 W2 W3 V1 V2 V3 V4 V5 V6 V7 V8 V9 Va Vb Vc Vd Ve Vf Vg X1

def ckE (ov : Bool) (l : Nat) : Nat := if ov then 8 else if l < 1 ∨ 1048576 < l then 1 else 0
theorem check19 (w : World) (D : Nat → Prop) (q : Nat) (L : Lg) (ov : Bool) (h : RL w D q L ov) (a : Option Addr) (l c : Nat) :
    Calls Tryz.prog 19 #[.pointer (some ⟨q, 0, none⟩), .slice a l c] w fun e w' => e = .returned (.int .i64 (ckE ov l : Nat)) ∧ w' = w := by
  have c2 := h.c2
  clear h
  obtain ⟨r, hr⟩ : ∃ r, r = ckE ov l := ⟨_, rfl⟩
  rw [← hr]
  unfold ckE at hr
  cases ov
  · rw [if_neg (by simp)] at hr
    by_cases h1 : l < 1
    · rw [if_pos (.inl h1)] at hr
      obtain rfl : l = 0 := by omega
      subst hr
      go_enter Tryz.func19, Tryz.ntmps19
      go_wp2_with fail
      go_ret
      first | trivial | exact ⟨rfl, rfl⟩
    · by_cases h2 : 1048576 < l
      · rw [if_pos (.inr h2)] at hr
        have d1 : decide ((l : Int) < 1) = false := decide_eq_false (by omega)
        have d2 : decide ((l : Int) > 1048576) = true := decide_eq_true (by omega)
        subst hr
        go_enter Tryz.func19, Tryz.ntmps19
        go_wp2_with fail
        go_ret
        first | trivial | exact ⟨rfl, rfl⟩
      · rw [if_neg (by omega)] at hr
        have d1 : decide ((l : Int) < 1) = false := decide_eq_false (by omega)
        have d2 : decide ((l : Int) > 1048576) = false := decide_eq_false (by omega)
        subst hr
        go_enter Tryz.func19, Tryz.ntmps19
        go_wp2_with fail
        go_ret
        first | trivial | exact ⟨rfl, rfl⟩
  · rw [if_pos rfl] at hr
    subst hr
    go_enter Tryz.func19, Tryz.ntmps19
    go_wp2_with fail
    go_ret
    first | trivial | exact ⟨rfl, rfl⟩
def ftE (ov : Bool) (L : Lg) (n : Int) : Nat := if ov then 8 else if n < (L.first : Int) ∨ (L.nx : Int) < n then 3 else 0
theorem fits22 (w : World) (D : Nat → Prop) (q : Nat) (L : Lg) (ov : Bool) (h : RL w D q L ov) (hs : Sm L.nx) (n : Int) :
    Calls Tryz.prog 22 #[.pointer (some ⟨q, 0, none⟩), .int .i64 n] w fun e w' => e = .returned (.int .i64 (ftE ov L n : Nat)) ∧ Below w.heap.size w w' := by
  have c2 := h.c2
  have c0 := h.c0
  have NX := Lib.hid (rnext27 w D q L ov h hs)
  clear h
  obtain ⟨r, hr⟩ : ∃ r, r = ftE ov L n := ⟨_, rfl⟩
  rw [← hr]
  unfold ftE at hr
  obtain ⟨F, hF⟩ : ∃ F, F = L.first := ⟨_, rfl⟩
  obtain ⟨X, hX⟩ : ∃ X, X = L.nx := ⟨_, rfl⟩
  rw [← hF] at c0 hr
  rw [← hX] at NX hr
  clear hs hF hX
  cases ov
  · rw [if_neg (by simp)] at hr
    by_cases h1 : n < (F : Int)
    · rw [if_pos (.inl h1)] at hr
      subst hr
      go_enter Tryz.func22, Tryz.ntmps22
      go_wp2_with fail
      go_ret
      exact ⟨rfl, Below.refl _ _⟩
    · by_cases h2 : (X : Int) < n
      · rw [if_pos (.inr h2)] at hr
        have d2 : decide (n > (X : Int)) = true := decide_eq_true (by omega)
        subst hr
        go_enter Tryz.func22, Tryz.ntmps22
        go_wp2_with (go_at_call 27; refine (NX.out).mono ?_; rintro e w' ⟨rfl, hb⟩)
        go_ret
        exact ⟨rfl, hb⟩
      · rw [if_neg (by omega)] at hr
        have d2 : decide (n > (X : Int)) = false := decide_eq_false (by omega)
        subst hr
        go_enter Tryz.func22, Tryz.ntmps22
        go_wp2_with (go_at_call 27; refine (NX.out).mono ?_; rintro e w' ⟨rfl, hb⟩)
        go_ret
        exact ⟨rfl, hb⟩
  · rw [if_pos rfl] at hr
    subst hr
    go_enter Tryz.func22, Tryz.ntmps22
    go_wp2_with fail
    go_ret
    exact ⟨rfl, Below.refl _ _⟩
end X3
end Go.Proofs.YtdaknlmnelfedaaGreatDoor
namespace Go.Proofs.YtdaknlmnelfedaaGreatDoor
open Go.RowKit Go.Maps Go.ChangeMaps Go.MapKept
namespace X4
open Jb Jm Jd Jw Jx Jn Je Jf Jg Jh Jk Jc Jl Jo Jq Jr J1 J2 J3 J4 W1 W2 W3 V1 V2 V3 V4 V5 V6 V7 V8 V9 Va Vb Vc Vd Ve Vf Vg X1 X3

/-- A new log of the document's. -/
theorem rl_new {w x y : World} {D : Nat → Prop} {F : Nat} {sv : Value} {es : List (List Nat)} (_ : Below w.heap.size w x) (hy : y.heap = (x.alloc (.cells #[.int .i64 (F : Nat), sv, .bool false] 31)).heap) (hD : ∀ k, D k → k < x.heap.size) (h : RR x D sv es) (h1 : ∀ b ∈ es, ∀ z ∈ b, z < 256) (h2 : ∀ b ∈ es, b.length ≤ 140737488355328) :
    RL y (fun k => D k ∨ k = x.heap.size) x.heap.size ⟨F, es⟩ false := by
  have e : ∀ k : Nat, y.heap[k]? = (x.alloc (.cells #[.int .i64 (F : Nat), sv, .bool false] 31)).heap[k]? := fun k => by rw [hy]
  have hb : Below x.heap.size x (x.alloc (.cells #[.int .i64 (F : Nat), sv, .bool false] 31)) := (Below.refl _ x).alloc (Nat.le_refl _) _
  exact ⟨(World.cell?_of_block (e _)).trans (new_cell _ _ _ 0 _ rfl), ⟨sv, (World.cell?_of_block (e _)).trans (new_cell _ _ _ 1 _ rfl), h.move (fun k hk => .inl hk) fun k hk => (e k).trans (hb.block k (hD k hk))⟩, (World.cell?_of_block (e _)).trans (new_cell _ _ _ 2 _ rfl), .inr rfl, h1, h2⟩
theorem rr_drop {w : World} {D : Nat → Prop} {b off cap : Nat} {es : List (List Nat)} (hDb : D b) (hc : es.length ≤ cap) (hel : ∀ i (h : i < es.length), ∃ a cc, w.cell? ⟨b, off + i, none⟩ = some (.slice a es[i].length cc) ∧ Src w D (.slice a es[i].length cc) es[i]) (i : Nat) (hi : i ≤ es.length) :
    RR w D (.slice (if cap = i then some ⟨b, off, none⟩ else some ⟨b, off + i, none⟩) (es.length - i) (cap - i)) (es.drop i) := by
  by_cases e : i = es.length
  · refine .inl ⟨by rw [e, List.drop_length], ?_⟩
    rw [show es.length - i = 0 by omega]
    by_cases ec : cap = i
    · rw [if_pos ec]; exact ⟨_, _, rfl, fun h => by simp at h⟩
    · rw [if_neg ec]; exact ⟨_, _, rfl, fun h => by simp at h⟩
  · rw [if_neg (by omega)]
    refine .inr ⟨b, off + i, cap - i, by rw [List.length_drop], by rw [List.length_drop]; omega, by rw [List.length_drop]; omega, hDb, fun j hj => ?_⟩
    rw [List.length_drop] at hj
    obtain ⟨a, cc, h1, h2⟩ := hel (i + j) (by omega)
    have eq : (es.drop i)[j]'(by rw [List.length_drop]; omega) = es[i + j]'(by omega) := by rw [List.getElem_drop]
    rw [eq, Nat.add_assoc]
    exact ⟨a, cc, h1, h2⟩
theorem below_of {w x y : World} {B : Nat} (h : Below B w x) (e : y.heap = x.heap) (e1 : y.os = x.os) (e2 : y.tape = x.tape) (e3 : y.output = x.output) : Below B w y :=
  ⟨e1.trans h.os, e2.trans h.tape, e3.trans h.output, by rw [e]; exact h.size, fun k hk => by rw [e]; exact h.block k hk⟩
theorem trim_out {w : World} {D : Nat → Prop} {q : Nat} {L : Lg} {ov : Bool} (h : RL w D q L ov) (hD : ∀ k, D k → k < w.heap.size) (n : Nat) (sv : Value) (hr : RR w D sv (L.es.drop (n - L.first))) (y : World) (e : y.heap = (w.alloc (.cells #[.int .i64 (n : Nat), sv, .bool false] 31)).heap) (e1 : y.os = w.os) (e2 : y.tape = w.tape) (e3 : y.output = w.output) :
    RL y (New D w y) w.heap.size (L.trim n) false ∧ Below w.heap.size w y := by
  have hz : (w.alloc (.cells #[.int .i64 (n : Nat), sv, .bool false] 31)).heap.size = w.heap.size + 1 := by simp
  have hb : Below w.heap.size w y := below_of ((Below.refl _ w).alloc (Nat.le_refl _) _) e e1 e2 e3
  refine ⟨(rl_new (Below.refl _ w) e hD hr (fun b hb => h.byte b (List.mem_of_mem_drop hb)) fun b hb => h.len b (List.mem_of_mem_drop hb)).move (fun k hk => ?_) fun k _ => rfl, hb⟩
  rcases hk with hk | hk
  · exact .inl hk
  · exact .inr ⟨by omega, by rw [e, hz]; omega⟩
theorem trim23 (w : World) (D : Nat → Prop) (q : Nat) (L : Lg) (ov : Bool) (h : RL w D q L ov) (hD : ∀ k, D k → k < w.heap.size) (hs : Sm L.nx) (n : Nat) (h1 : L.first ≤ n) (h2 : n ≤ L.nx) :
    Calls Tryz.prog 23 #[.pointer (some ⟨q, 0, none⟩), .int .i64 (n : Nat)] w fun e w' => ∃ q', e = .returned (.pointer (some ⟨q', 0, none⟩)) ∧ RL w' (New D w w') q' (L.trim n) false ∧ Below w.heap.size w w' := by
  have c0 := h.c0
  obtain ⟨ev, c1, er⟩ := h.c1
  obtain ⟨F, hF⟩ : ∃ F, F = L.first := ⟨_, rfl⟩
  obtain ⟨i, hi⟩ : ∃ i, i = n - L.first := ⟨_, rfl⟩
  have q3 : IntKind.i64.wrap ((n : Int) - (F : Nat)) = (i : Int) := by rw [IntKind.wrap_i64]; unfold Sm at hs; omega
  have hil : i ≤ L.es.length := by unfold Lg.nx at h2; omega
  have dc0 : w.drew.cell? ⟨q, 0, none⟩ = some (.int .i64 (F : Nat)) := by rw [hF]; exact c0
  rw [← hF] at c0
  have EE : Hid (L.es.drop i = L.es.drop (n - L.first)) := Lib.hid (by rw [hi])
  rcases er with ⟨e0, a, c, rfl, hac⟩ | ⟨b, off, cap, rfl, h0, hc1, hDb, hel⟩
  · rw [e0] at hil
    obtain rfl : i = 0 := by simpa using hil
    have dr : L.es.drop (n - L.first) = [] := by rw [e0]; simp
    have dc1 : w.drew.cell? ⟨q, 1, none⟩ = some (.slice a 0 c) := c1
    have q3 : IntKind.i64.wrap ((n : Int) - (F : Nat)) = 0 := q3
    have TO := Lib.hid fun (v : Value) (hv : ∃ a c, v = .slice a 0 c ∧ (a = none → c = 0)) y e e1 e2 e3 => trim_out h hD n v (.inl ⟨dr, hv⟩) y e e1 e2 e3
    clear h hD hF hi hs h1 h2 EE dr e0 hil
    cases a with
    | none =>
      obtain rfl : c = 0 := hac rfl
      clear hac
      go_enter Tryz.func23, Tryz.ntmps23
      go_upto_region 1 with (fail)
      go_region
      go_wp2_with fail
      go_ret
      exact ⟨_, rfl, TO.out _ ⟨_, _, rfl, fun _ => rfl⟩ _ rfl rfl rfl rfl⟩
    | some a =>
      clear hac
      go_enter Tryz.func23, Tryz.ntmps23
      go_upto_region 1 with (fail)
      go_region
      go_wp2_with fail
      go_ret
      exact ⟨_, rfl, TO.out _ ⟨_, _, rfl, fun h => by simp at h⟩ _ rfl rfl rfl rfl⟩
  · have TO := Lib.hid fun y e e1 e2 e3 => trim_out h hD n _ (by have := rr_drop hDb hc1 hel i hil; rw [EE.out] at this; exact this) y e e1 e2 e3
    obtain ⟨l, hl⟩ : ∃ l, l = L.es.length := ⟨_, rfl⟩
    rw [← hl] at c1 hil TO
    have dc1 : w.drew.cell? ⟨q, 1, none⟩ = some (.slice (some ⟨b, off, none⟩) l cap) := c1
    have hcl : l ≤ cap := by omega
    clear h hD hF hi hl hel hs h1 h2 hc1 h0 hDb EE
    go_enter Tryz.func23, Tryz.ntmps23
    go_upto_region 1 with (fail)
    go_region
    obtain ⟨sv, hsv⟩ : ∃ sv, sv = Value.slice (if cap = i then some (⟨b, off, none⟩ : Addr) else some ⟨b, off + i, none⟩) (l - i) (cap - i) := ⟨_, rfl⟩
    rw [← hsv] at TO ⊢
    clear hsv
    go_wp2_with fail
    go_ret
    exact ⟨_, rfl, TO.out _ rfl rfl rfl rfl⟩
end X4
end Go.Proofs.YtdaknlmnelfedaaGreatDoor
