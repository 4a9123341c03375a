/- The writer: what it holds, and what Put, Len and Bytes do to it. -/
import Derived.Test.YtmlbmiegfeadjaaBm
import Derived.Laws.AppendOwnNone
import Derived.OwnWalk
import Derived.Laws.OwnMore
import Derived.Lib.SmallJoins
import Derived.Deep.DeepCutAuto
import Derived.Maps.AppendAt
namespace Go.Proofs.Ytmlbmiegfeadjaa
open Go.RowKit
namespace Wr
open Bm

/-- The bytes as cells. -/
def u8s (bs : List Nat) : List Value := bs.map fun b => .int .u8 (b : Nat)
theorem u8s_len (bs : List Nat) : (u8s bs).length = bs.length := by simp [u8s]
theorem u8s_snoc (bs : List Nat) (b : Nat) : u8s (bs ++ [b]) = u8s bs ++ [.int .u8 (b : Nat)] := by simp [u8s]
theorem u8s_set (bs : List Nat) (j b : Nat) : u8s (bs.set j b) = (u8s bs).set j (.int .u8 (b : Nat)) := by simp [u8s, List.map_set]
theorem u8s_get (bs : List Nat) (j : Nat) (hj : j < bs.length) : (u8s bs)[j]? = some (.int .u8 (bs.getD j 0 : Nat)) := by
  simp [u8s, List.getD_eq_getElem?_getD, hj]
theorem info5 : (Try.prog.info? 5).map (fun i => (i.zero, i.size, i.bytes)) = some (some (.int .u8 0), 1, 1) := by kernel_rfl

theorem ret_int {k : IntKind} {a b : Int} (h : a = b) : Ending.returned (.int k a) = .returned (.int k b) := by rw [h]

/-- The writer at block g: its bytes, and the room of the last one. -/
structure Hold (w : World) (g : Nat) (s : Value) (bs : List Nat) (f : Nat) : Prop where
  lt : g < w.heap.size
  c0 : w.cell? ⟨g, 0, none⟩ = some s
  c1 : w.cell? ⟨g, 1, none⟩ = some (.int .i64 (f : Nat))
  z0 : w.frozen? ⟨g, 0, none⟩ = false
  z1 : w.frozen? ⟨g, 1, none⟩ = false
  own : w.ownsRow (g + 1) 5 1 s bs.length (u8s bs)

/-- Nothing has turned but block g and what s owns; blocks have come. -/
structure Mv (w w' : World) (g : Nat) (s : Value) : Prop where
  os : w'.os = w.os
  tape : w'.tape = w.tape
  output : w'.output = w.output
  size : w.heap.size ≤ w'.heap.size
  block : ∀ k, k < w.heap.size → k ≠ g → s.ownBlock ≠ some k → w'.heap[k]? = w.heap[k]?
/-- What s' owns is what s owned, or new. -/
def Own (w : World) (s s' : Value) : Prop := s'.ownBlock = s.ownBlock ∨ ∃ h, s'.ownBlock = some h ∧ w.heap.size ≤ h

theorem Mv.refl (w : World) (g : Nat) (s : Value) : Mv w w g s := ⟨rfl, rfl, rfl, Nat.le_refl _, fun _ _ _ _ => rfl⟩
theorem Own.refl (w : World) (s : Value) : Own w s s := .inl rfl
theorem Mv.trans {a b c : World} {g : Nat} {s t : Value} (h : Mv a b g s) (o : Own a s t) (k : Mv b c g t) : Mv a c g s := by
  refine ⟨k.os.trans h.os, k.tape.trans h.tape, k.output.trans h.output, Nat.le_trans h.size k.size, fun i hi hg hs => ?_⟩
  rw [k.block i (Nat.lt_of_lt_of_le hi h.size) hg ?_, h.block i hi hg hs]
  rcases o with o | ⟨j, o, hj⟩
  · rw [o]; exact hs
  · rw [o]; intro e; cases e; omega
theorem Own.trans {a b : World} {s t u : Value} (h : Own a s t) (k : Own b t u) (hsz : a.heap.size ≤ b.heap.size) : Own a s u := by
  rcases k with k | ⟨j, k, hj⟩
  · rcases h with h | ⟨i, h, hi⟩
    · exact .inl (k.trans h)
    · exact .inr ⟨i, k.trans h, hi⟩
  · exact .inr ⟨j, k, by omega⟩

set_option maxRecDepth 100000 in
theorem new10 (w : World) :
    Calls Try.prog 33 #[] w fun e w' => e = .returned (.pointer (some ⟨w.heap.size, 0, none⟩)) ∧ Hold w' w.heap.size (.slice none 0 0) [] 0 ∧ Below w.heap.size w w' := by
  go_enter Try.func33, Try.ntmps33
  go_wp2_with fail
  go_ret
  refine ⟨rfl, ⟨by simp, by rw [cell_of_row _ _ _ _ _ _ (heap_alloc_new _ _)]; rfl, by rw [cell_of_row _ _ _ _ _ _ (heap_alloc_new _ _)]; rfl, frozen_of_row _ _ _ _ _ (heap_alloc_new _ _), frozen_of_row _ _ _ _ _ (heap_alloc_new _ _), World.ownsRow_nil _ _ _ _⟩, (Below.refl _ _).alloc (Nat.le_refl _) _⟩

theorem Hold.drewN {w : World} {g : Nat} {s : Value} {bs : List Nat} {f : Nat} (h : Hold w g s bs f) (n : Nat) : Hold (w.drewN n) g s bs f := ⟨h.lt, h.c0, h.c1, h.z0, h.z1, h.own⟩
theorem Hold.forms {w : World} {g : Nat} {s : Value} {bs : List Nat} {f : Nat} (h : Hold w g s bs f) : (s = .slice none 0 0 ∧ bs.length = 0) ∨ ∃ g cap, s = .slice (some ⟨g, 0, none⟩) bs.length cap := Go.Joins.ownsRow_forms h.own


/-- What Put leaves ahead of a round: room in the last byte. -/
def Ahead (w : World) (g : Nat) (s : Value) (β : Nat → Bool) (p : Nat) (w' : World) (s' : Value) : Prop :=
  ∃ bs f, Hold w' g s' bs f ∧ Has bs β ∧ 8 * bs.length = p + f ∧ f < 8 ∧ Mv w w' g s ∧ Own w s s'

theorem cell_other {w : World} {a b : Addr} {v : Value} (h : a ≠ b) : (w.setCell a v).cell? b = w.cell? b := by apply World.cell?_setCell_other; exact h
theorem cell_same {w : World} {a : Addr} {u v : Value} (h : w.cell? a = some u) : (w.setCell a v).cell? a = some v := by apply World.cell?_setCell_same; exact h
theorem grow_hold {w w2 : World} {g : Nat} {s v : Value} {bs : List Nat} (own : Own w s v) (h : Hold w g s bs 0) (hg : (w.alloc (Obj.cells #[Value.int IntKind.u8 0] 5)).grownBy w2 s.ownBlock)
    (ho : w2.ownsRow (g + 1) 5 1 v (bs.length + 1) (u8s bs ++ [Value.int IntKind.u8 0])) :
    Hold ((w2.setCell ⟨g, 0, none⟩ v).setCell ⟨g, 1, none⟩ (.int .i64 8)) g v (bs ++ [0]) 8 ∧ Mv w ((w2.setCell ⟨g, 0, none⟩ v).setCell ⟨g, 1, none⟩ (.int .i64 8)) g s ∧ Own w s v := by
  have hlt := h.lt
  have hne : some g ≠ s.ownBlock := fun e => by have := h.own.lt g e.symm; omega
  have e2 : w2.heap[g]? = w.heap[g]? := (hg.block g (by simp; omega) hne).trans (Below.heap_alloc w _ g hlt)
  have c0 : w2.cell? ⟨g, 0, none⟩ = some s := (World.cell?_of_block e2).trans h.c0
  have c1 : w2.cell? ⟨g, 1, none⟩ = some (.int .i64 0) := (World.cell?_of_block e2).trans h.c1
  have z0 : w2.frozen? ⟨g, 0, none⟩ = false := (World.frozen?_of_block e2).trans h.z0
  have z1 : w2.frozen? ⟨g, 1, none⟩ = false := (World.frozen?_of_block e2).trans h.z1
  have sz : w.heap.size ≤ w2.heap.size := by have := hg.size; simp at this; omega
  refine ⟨⟨by simp; omega, ?_, ?_, by simpa using z0, by simpa using z1, ?_⟩, ⟨hg.os, hg.tape, hg.output, by simpa using sz, fun k hk hkg hks => ?_⟩, ?_⟩
  · rw [cell_other (by simp), cell_same c0]
  · rw [cell_same (u := .int .i64 0) (by rw [cell_other (by simp)]; exact c1)]
    rfl
  · rw [u8s_snoc, List.length_append]
    exact ownsRow_setCell_below (ownsRow_setCell_below ho (by simp) _) (by simp) _
  · rw [heap_setCell_other _ _ _ _ (by simpa using hkg), heap_setCell_other _ _ _ _ (by simpa using hkg), hg.block k (by simp; omega) (by intro e; exact hks e.symm)]
    exact Below.heap_alloc w _ k hk
  · exact own
theorem store_hold {w : World} {g h j cap f : Nat} {bs : List Nat} (hh : Hold w g (.slice (some ⟨h, 0, none⟩) (j + 1) cap) bs f) (hj : bs.length = j + 1) (x f' : Nat) :
    Hold ((w.setCell ⟨h, j, none⟩ (.int .u8 (x : Nat))).setCell ⟨g, 1, none⟩ (.int .i64 (f' : Nat))) g (.slice (some ⟨h, 0, none⟩) (j + 1) cap) (bs.set j x) f' ∧
    Mv w ((w.setCell ⟨h, j, none⟩ (.int .u8 (x : Nat))).setCell ⟨g, 1, none⟩ (.int .i64 (f' : Nat))) g (.slice (some ⟨h, 0, none⟩) (j + 1) cap) := by
  have hb := hh.own.lt h rfl
  have ho := hh.own
  rw [hj] at ho
  refine ⟨⟨by simpa using hh.lt, ?_, ?_, by simpa using hh.z0, by simpa using hh.z1, ?_⟩, ⟨rfl, rfl, rfl, by simp, fun k hk hkg hks => ?_⟩⟩
  · rw [cell_other (by simp), cell_other (by simp; try omega)]
    exact hh.c0
  · rw [cell_same (u := .int .i64 (f : Nat)) (by rw [cell_other (by simp; try omega)]; exact hh.c1)]
  · rw [u8s_set, List.length_set, hj]
    exact ownsRow_setCell_below (ho.stored j _).1 (by simp) _
  · rw [heap_setCell_other _ _ _ _ (by simpa using hkg), heap_setCell_other _ _ _ _ (by simp only [Value.ownBlock] at hks; intro e; exact hks (by rw [e]))]

/-- What Put stands in where the last byte has room. -/
def At (w : World) (g : Nat) (s : Value) (β : Nat → Bool) (m v N l : Nat) (w' : World) : Prop :=
  ∃ bs f j h cap, Hold w' g (.slice (some ⟨h, 0, none⟩) (j + 1) cap) bs f ∧ bs.length = j + 1 ∧ 1 ≤ f ∧ f ≤ 8 ∧ Has bs (put β m v N l) ∧ 8 * bs.length = m + (N - l) + f ∧ Mv w w' g s ∧ Own w s (.slice (some ⟨h, 0, none⟩) (j + 1) cap)

set_option maxRecDepth 100000 in
set_option maxHeartbeats 4000000 in
theorem put11 (w : World) (g : Nat) (s : Value) (bs : List Nat) (f v N m : Nat) (β : Nat → Bool) (hHold : Hold w g s bs f) (hH : Has bs β) (hβ : ∀ i, m ≤ i → β i = false) (hm : 8 * bs.length = m + f) (hf8 : f < 8)
    (_hv : v < 18446744073709551616) (n : Int) (hn1 : -9223372036854775808 ≤ n) (hn2 : n ≤ 9223372036854775807) (hN : N = (min n 64).toNat) (hb : m ≤ 1125899906826176) :
    Calls Try.prog 35 #[.pointer (some ⟨g, 0, none⟩), .int .u64 (v : Nat), .int .i64 n] w fun e w' => e = .returned (.tuple #[]) ∧ ∃ s', Ahead w g s (put β m v N 0) (m + N) w' s' := by
  obtain ⟨i0, hi, hz0, hz1, hz2⟩ := info_parts info5
  go_enter Try.func35, Try.ntmps35
  go_wp2_with fail
  all_goals
    go_loopw [6] (fun i wr => ∃ q l sr, l ≤ N ∧ i = .int .i64 q ∧ l = q.toNat ∧ q ≤ 64 ∧ -9223372036854775808 ≤ q ∧ Ahead w g s (put β m v N l) (m + (N - l)) wr sr) (fun i _ => (intOf i).toNat)
    case atStart => exact ⟨_, N, s, Nat.le_refl _, rfl, by omega, by omega, by omega, bs, f, hHold, hH.congr fun i _ => (put_zero β m v N hβ i).symm, by omega, hf8, Mv.refl _ _ _, Own.refl _ _⟩
    case round =>
      obtain ⟨q, l, sr, hlN, rfl, hlq, hq64, hq0, bs2, f2, hH2, hHas, hlen, hf2, hmv, hown⟩ := hrel
      have hN64 : N ≤ 64 := by omega
      clear hN
      by_cases hq : 0 < q
      · obtain rfl : q = (l : Int) := by omega
        clear hlq hq0
        have c0 := hH2.c0
        have c1 := hH2.c1
        have z0 := hH2.z0
        have z1 := hH2.z1
        have glt := hH2.lt
        have hz := hlen
        by_cases hf0 : f2 = 0
        case' pos =>
          subst hf0
          have hown2 := hH2.own
          have HH := Lib.hid hH2
          have HO := Lib.hid hown
          clear hH2 hown
          go_wp2_with (at_builtin; refine wpList_append_own_at _ rfl (.tmp 24) (.tmp 25) 23 rfl (g + 1) 5 i0 (.int .u8 0) 1 1 Try.underlying23 hi hz0 hz1 hz2 rfl (by decide) _ _ _ rfl (hown2.alloc _) ⟨wr.heap.size, 0, none⟩ 1 1 [.int .u8 0] rfl rfl ?c1 ?c2 ?c3 ?c4 ?c5 ?_)
          case c1 =>
            intro j u hj
            match j, hj with
            | 0, hj => simp at hj; subst hj; simp [Addr.add]
          case c2 => intro u hu; simp at hu; subst hu; rfl
          case c3 => unfold maxLen; omega
          case c4 => omega
          case c5 => simp; omega
          intro v' w2 hown' hgrow _ hat
          obtain ⟨hb1, hh⟩ : ∃ hb1, ∃ cap, v' = .slice (some ⟨hb1, 0, none⟩) (bs2.length + 1) cap := Go.Joins.ownsRow_form hown' (by omega)
          obtain ⟨cap, rfl⟩ := hh
          have hne : sr.ownBlock ≠ some g := fun e => by have := hown2.lt g e; omega
          have e2 : w2.heap[g]? = wr.heap[g]? := (hgrow.block g (by simp; omega) (by first | exact hne | exact hne.symm)).trans (Below.heap_alloc wr _ g glt)
          have c0' : w2.cell? ⟨g, 0, none⟩ = some sr := (World.cell?_of_block e2).trans c0
          have c1' : w2.cell? ⟨g, 1, none⟩ = some (.int .i64 0) := (World.cell?_of_block e2).trans c1
          have z0' : w2.frozen? ⟨g, 0, none⟩ = false := (World.frozen?_of_block e2).trans z0
          have z1' : w2.frozen? ⟨g, 1, none⟩ = false := (World.frozen?_of_block e2).trans z1
          have HG := Lib.hid (grow_hold (.elim hat .inl fun e => .inr ⟨_, e, by simp⟩) HH.out hgrow hown')
          clear hgrow hown'
          go_upto_region 6 with (fail)
          obtain ⟨w3, hw3⟩ : ∃ w3, w3 = (w2.setCell ⟨g, 0, none⟩ (.slice (some ⟨hb1, 0, none⟩) (bs2.length + 1) cap)).setCell ⟨g, 1, none⟩ (.int .i64 8) := ⟨_, rfl⟩
          rw [← hw3] at HG ⊢
          have HAT : Hid (At w g s β m v N l w3) := by
            obtain ⟨a1, a2, a3⟩ := HG.out
            exact ⟨bs2 ++ [0], 8, bs2.length, hb1, cap, a1, by simp, by omega, by omega, hHas.zero fun k hk => put_past _ _ _ _ _ _ (by omega), by simp; omega, hmv.trans HO.out a2, HO.out.trans a3 hmv.size⟩
          clear HG hw3 e2 c0' c1' z0' z1' HH hown2 HO hne
        case' neg =>
          obtain ⟨w3, hw3⟩ : ∃ w3, w3 = wr := ⟨_, rfl⟩
          have HAT : Hid (At w g s β m v N l w3) := by
            subst hw3
            rcases hH2.forms with ⟨rfl, h0⟩ | ⟨hb1, cap, rfl⟩
            · omega
            · exact ⟨bs2, f2, bs2.length - 1, hb1, cap, by rw [show bs2.length - 1 + 1 = bs2.length from by omega]; exact hH2, by omega, by omega, by omega, hHas, hlen, hmv, hown⟩
          have hf0' : ((f2 : Int) == 0) = false := by simp; omega
          clear hH2 hown
          go_upto_region 6 with (fail)
          rw [← hw3]
          clear hw3
        all_goals
          clear c0 c1 z0 z1 glt hlen hz hf2 hHas hmv
          obtain ⟨bs3, f3, j, hb1, cap, hold3, hj, hf1, hf8', hHas3, hlen3, hmv3, hown3⟩ := HAT.out
          have d0 := hold3.c0
          have d1 := hold3.c1
          have y1 := hold3.z1
          have e1 : w3.cell? ⟨hb1, j, none⟩ = some (.int .u8 (bs3.getD j 0 : Nat)) := by
            rw [World.ownsRow.cellAt (g := hb1) (n := bs3.length) (cap := cap) (by have := hold3.own; rw [← hj] at this; exact this) j (by omega)]
            exact u8s_get _ _ (by omega)
          have e0 : w3.frozen? ⟨hb1, j, none⟩ = false := World.ownsRow.frozenAt (n := bs3.length) (cap := cap) (by have := hold3.own; rw [← hj] at this; exact this) j
          have ne : g ≠ hb1 := by have := hold3.own.lt hb1 rfl; omega
          have hbyte := getD_lt hHas3.1 j
          have H3 := Lib.hid hold3
          have O3 := Lib.hid hown3
          clear hold3 hown3 HAT
          go_upto_region 8 with (fail)
          obtain ⟨T, hT, hT1, hT2, hT3⟩ : ∃ T : Nat, (if f3 < l then (f3 : Int) else (l : Int)) = (T : Int) ∧ 1 ≤ T ∧ T ≤ f3 ∧ T ≤ l := by
            by_cases hlt : f3 < l
            · exact ⟨f3, by rw [if_pos hlt], by omega, by omega, by omega⟩
            · exact ⟨l, by rw [if_neg hlt], by omega, by omega, by omega⟩
          simp only [hT]
          clear hT
          go_quiet (fail)
          go_upto_region 9 with (fail)
          have hp : (v : Int) / 2 ^ (l - T) % 256 * 2 ^ (8 - T) % 256 / 2 ^ (8 - f3) = ((piece v (l - T) T f3 : Nat) : Int) := by unfold piece; push_cast; rfl
          rw [hp]
          have hp8 := piece_lt v (l - T) T f3
          obtain ⟨p, hpe⟩ : ∃ p, p = piece v (l - T) T f3 := ⟨_, rfl⟩
          rw [← hpe] at hp8 ⊢
          have HPE := Lib.hid hpe
          obtain ⟨B, hB⟩ : ∃ B, B = bs3.getD j 0 := ⟨_, rfl⟩
          rw [← hB] at e1 hbyte
          have HB := Lib.hid hB
          have hor : bits .or .u8 (B : Int) (p : Int) = ((B ||| p : Nat) : Int) := u8_or_nat _ _ hbyte hp8
          obtain ⟨w4, hw4⟩ : ∃ w4, w4 = w3.drewN nq := ⟨_, rfl⟩
          have d0' : w4.cell? ⟨g, 0, none⟩ = some (.slice (some ⟨hb1, 0, none⟩) (j + 1) cap) := by rw [hw4]; exact d0
          have d1' : w4.cell? ⟨g, 1, none⟩ = some (.int .i64 (f3 : Nat)) := by rw [hw4]; exact d1
          have y1' : w4.frozen? ⟨g, 1, none⟩ = false := by rw [hw4]; exact y1
          have e1' : w4.cell? ⟨hb1, j, none⟩ = some (.int .u8 (B : Nat)) := by rw [hw4]; exact e1
          have e0' : w4.frozen? ⟨hb1, j, none⟩ = false := by rw [hw4]; exact e0
          have H4 : Hid (Hold w4 g (Value.slice (some { block := hb1, off := 0 }) (j + 1) cap) bs3 f3) := by rw [hw4]; exact Lib.hid (H3.out.drewN _)
          have M4 : Hid (Mv w w4 g s) := by rw [hw4]; exact Lib.hid ⟨hmv3.os, hmv3.tape, hmv3.output, hmv3.size, hmv3.block⟩
          have HH3 := Lib.hid hHas3
          rw [← hw4]
          clear hw4 hpe hB hp d0 d1 y1 e1 e0 H3 hmv3 hHas3
          have hjb : j ≤ 140737488353300 := by omega
          go_region
          go_wp2
          go_roundw
          case rel =>
            obtain ⟨a1, a2⟩ := store_hold H4.out hj (B ||| p) (f3 - T)
            refine ⟨_, l - T, _, by omega, rfl, by omega, by omega, by omega, bs3.set j (B ||| p), f3 - T, ?_, ?_, ?_, ?_, ?_, O3.out⟩
            · rw [show (f3 : Int) - (T : Int) = ((f3 - T : Nat) : Int) from by omega]
              exact a1.drewN 1
            · rw [HB.out, HPE.out]
              exact put_round HH3.out hj hlen3 hf8' hlN hT2 hT3 hT1
            · simp; omega
            · omega
            · rw [show (f3 : Int) - (T : Int) = ((f3 - T : Nat) : Int) from by omega]
              have a3 := M4.out.trans O3.out a2
              exact ⟨a3.os, a3.tape, a3.output, a3.size, a3.block⟩
          case measure => simp [intOf]; omega
      · obtain rfl : l = 0 := by omega
        have H2 := Lib.hid hH2
        have HH2 := Lib.hid hHas
        clear hHas hlq hH2
        go_wp2_with fail
        go_end0
        exact ⟨rfl, sr, bs2, f2, H2.out, HH2.out, hlen, hf2, hmv, hown⟩
end Wr
end Go.Proofs.Ytmlbmiegfeadjaa
