/- What a copy is; the writer's bytes; the law's own small example. -/
import Derived.Test.YtmlbmiegfeadjaaWr
namespace Go.Proofs.Ytmlbmiegfeadjaa
open Go.RowKit
namespace Wr
open Bm

theorem Hold.below {w w' : World} {g : Nat} {s : Value} {bs : List Nat} {f : Nat} (h : Hold w g s bs f) (b : Below w.heap.size w w') : Hold w' g s bs f := by
  have hb := b.block g h.lt
  refine ⟨Nat.lt_of_lt_of_le h.lt b.size, (World.cell?_of_block hb).trans h.c0, (World.cell?_of_block hb).trans h.c1, (World.frozen?_of_block hb).trans h.z0, (World.frozen?_of_block hb).trans h.z1, ?_⟩
  exact h.own.kept (row := none) ⟨b.os, b.tape, b.output, b.size, fun k hk _ => b.block k hk⟩ (by
    by_cases e : s.ownBlock = none
    · exact .inl e
    · exact .inr e)

theorem cell_lt {w : World} {a : Addr} {v : Value} (h : w.cell? a = some v) : a.block < w.heap.size := by
  unfold World.cell? at h
  by_cases hl : a.block < w.heap.size
  · exact hl
  · rw [Array.getElem?_eq_none (by omega)] at h; simp at h
/-- A slice whose cells are these bytes. -/
def Is (w : World) (s : Value) (bs : List Nat) : Prop :=
  (s = .slice none 0 0 ∧ bs = []) ∨ ∃ ad c, s = .slice (some ad) bs.length c ∧ ∀ j u, (u8s bs)[j]? = some u → w.cell? (ad.add j) = some u
theorem is_own {w : World} {B : Nat} {s : Value} {bs : List Nat} (h : w.ownsRow B 5 1 s bs.length (u8s bs)) : Is w s bs := by
  rcases Go.Joins.ownsRow_forms h with ⟨rfl, h0⟩ | ⟨g, cap, rfl⟩
  · exact .inl ⟨rfl, List.length_eq_zero_iff.1 h0⟩
  · exact .inr ⟨_, _, rfl, h.cells rfl⟩

set_option maxRecDepth 100000 in
theorem clone30 (w : World) (s : Value) (bs : List Nat) (h : Is w s bs) (hb : bs.length ≤ 140737488353272) :
    Calls Try.prog 51 #[s] w fun e w' => ∃ v, e = .returned v ∧ w'.ownsRow w.heap.size 5 1 v bs.length (u8s bs) ∧ Below w.heap.size w w' := by
  obtain ⟨i0, hi, hz0, hz1, hz2⟩ := info_parts info5
  rcases h with ⟨rfl, rfl⟩ | ⟨ad, c, rfl, hc⟩
  · have he : ∀ w : World, (binOp .eql 23 (.slice none 0 0) (.slice none 0 0)).run Try.prog w = .ok (.bool true) w := fun _ => rfl
    go_enter Try.func51, Try.ntmps51
    go_wp2_with fail
    go_ret
    exact ⟨_, rfl, World.ownsRow_nil _ _ _ _, Below.refl _ _⟩
  · obtain ⟨n, hn⟩ : ∃ n, n = bs.length := ⟨_, rfl⟩
    rw [← hn] at hb ⊢
    have he : ∀ w : World, (binOp .eql 23 (.slice (some ad) n c) (.slice none 0 0)).run Try.prog w = .ok (.bool false) w := fun _ => rfl
    have HN := Lib.hid hn
    have hlen := u8s_len bs
    rw [← hn] at hlen
    clear hn
    go_enter Try.func51, Try.ntmps51
    go_wp2_with (at_builtin; refine wpList_append_own _ rfl (.tmp 5) (.tmp 6) 23 rfl w.heap.size 5 i0 (.int .u8 0) 1 1 Try.underlying23 hi hz0 hz1 hz2 rfl (by decide) _ 0 [] rfl ?o1 ad n c (u8s bs) rfl (by rw [hlen]; omega) ?c1 ?c2 ?c3 ?c4 ?c5 ?_)
    case o1 => exact World.ownsRow_lit (size := 1) w #[] 0 (Nat.le_refl _) (by decide) rfl
    case c1 => intro j u hj; rw [((Below.refl w.heap.size w).alloc (Nat.le_refl _) _).cell (cell_lt (hc j u hj))]; exact hc j u hj
    case c2 => intro u hu; simp [u8s] at hu; obtain ⟨x, _, rfl⟩ := hu; rfl
    case c3 => unfold maxLen; omega
    case c4 => omega
    case c5 => simp
    intro v' w2 hown' hgrow _
    have bl : Below w.heap.size w w2 := ((Below.refl _ _).alloc (Nat.le_refl _) _).grown hgrow (by simp) (fun r hr => by simp [Value.ownBlock] at hr; omega)
    clear hgrow
    go_wp2_with fail
    go_ret
    exact ⟨_, rfl, hown', bl⟩

theorem lit_is (w : World) (s : Value) (B : Nat) (bs : List Nat) (h : w.ownsRow B 5 1 s bs.length (u8s bs)) (hn : 0 < bs.length) :
    ∃ g c, s = .slice (some ⟨g, 0, none⟩) bs.length c ∧ ∀ j, j < bs.length → w.cell? ⟨g, j, none⟩ = some (.int .u8 (bs.getD j 0 : Nat)) := by
  obtain ⟨g, c, rfl⟩ := Go.Joins.ownsRow_form h hn
  exact ⟨g, c, rfl, fun j hj => by rw [h.cellAt j (by omega)]; exact u8s_get bs j hj⟩

set_option maxRecDepth 100000 in
theorem bytes14 (w : World) (g : Nat) (s : Value) (bs : List Nat) (f : Nat) (h : Hold w g s bs f) (hb : bs.length ≤ 140737488353272) :
    Calls Try.prog 36 #[.pointer (some ⟨g, 0, none⟩)] w fun e w' => ∃ v, e = .returned v ∧ w'.ownsRow w.heap.size 5 1 v bs.length (u8s bs) ∧ Below w.heap.size w w' := by
  have c0 := h.c0
  have hs : ∃ a n c, s = .slice a n c := by
    rcases h.forms with ⟨rfl, _⟩ | ⟨g, c, rfl⟩
    · exact ⟨_, _, _, rfl⟩
    · exact ⟨_, _, _, rfl⟩
  obtain ⟨a, n, c, rfl⟩ := hs
  have H := Lib.hid (is_own h.own)
  clear h
  go_enter Try.func36, Try.ntmps36
  go_wp2_with (go_at_call 51; refine (clone30 _ _ _ H.out hb).mono ?_; rintro e w2 ⟨v, rfl, ho, bl⟩)
  go_ret
  exact ⟨_, rfl, ho, bl⟩


/-- The writer at block g holds m bits β. -/
def Wt (w : World) (g : Nat) (s : Value) (m : Nat) (β : Nat → Bool) : Prop :=
  ∃ bs f, Hold w g s bs f ∧ Has bs β ∧ 8 * bs.length = m + f ∧ f < 8 ∧ ∀ i, m ≤ i → β i = false
theorem Wt.below {w w' : World} {g : Nat} {s : Value} {m : Nat} {β : Nat → Bool} (h : Wt w g s m β) (b : Below w.heap.size w w') : Wt w' g s m β := by
  obtain ⟨bs, f, h1, h2⟩ := h
  exact ⟨bs, f, h1.below b, h2⟩
theorem Wt.lt {w : World} {g : Nat} {s : Value} {m : Nat} {β : Nat → Bool} (h : Wt w g s m β) : g < w.heap.size := by
  obtain ⟨bs, f, h1, h2⟩ := h; exact h1.lt
theorem Wt.own {w : World} {g : Nat} {s : Value} {m : Nat} {β : Nat → Bool} (h : Wt w g s m β) : ∀ k, s.ownBlock = some k → g + 1 ≤ k ∧ k < w.heap.size := by
  obtain ⟨bs, f, h1, h2⟩ := h; exact h1.own.lt
theorem new_wt (w : World) : Calls Try.prog 33 #[] w fun e w' => e = .returned (.pointer (some ⟨w.heap.size, 0, none⟩)) ∧ Wt w' w.heap.size (.slice none 0 0) 0 (fun _ => false) ∧ Below w.heap.size w w' := by
  refine (new10 w).mono ?_
  rintro e w' ⟨rfl, h, b⟩
  exact ⟨rfl, ⟨[], 0, h, Has.nil _, rfl, by decide, fun _ _ => rfl⟩, b⟩
theorem put_wt (w : World) (g : Nat) (s : Value) (m : Nat) (β : Nat → Bool) (v N : Nat) (n : Int) (h : Wt w g s m β) (hv : v < 18446744073709551616) (hn1 : -9223372036854775808 ≤ n) (hn2 : n ≤ 9223372036854775807)
    (hN : N = (min n 64).toNat) (hb : m ≤ 1125899906826176) :
    Calls Try.prog 35 #[.pointer (some ⟨g, 0, none⟩), .int .u64 (v : Nat), .int .i64 n] w fun e w' => e = .returned (.tuple #[]) ∧ ∃ s', Wt w' g s' (m + N) (put β m v N 0) ∧ Mv w w' g s ∧ Own w s s' := by
  obtain ⟨bs, f, h1, h2, h3, h4, h5⟩ := h
  refine (put11 w g s bs f v N m β h1 h2 h5 h3 h4 hv n hn1 hn2 hN hb).mono ?_
  rintro e w' ⟨rfl, s', bs', f', k1, k2, k3, k4, k5, k6⟩
  exact ⟨rfl, s', ⟨bs', f', k1, k2, k3, k4, fun i hi => put_past _ _ _ _ _ _ (by omega)⟩, k5, k6⟩
theorem bytes_wt (w : World) (g : Nat) (s : Value) (m : Nat) (β : Nat → Bool) (h : Wt w g s m β) (hb : m ≤ 1125899906826176) :
    Calls Try.prog 36 #[.pointer (some ⟨g, 0, none⟩)] w fun e w' => ∃ v bs f, e = .returned v ∧ w'.ownsRow w.heap.size 5 1 v bs.length (u8s bs) ∧ Below w.heap.size w w' ∧ Has bs β ∧ 8 * bs.length = m + f ∧ f < 8 := by
  obtain ⟨bs, f, h1, h2, h3, h4, h5⟩ := h
  refine (bytes14 w g s bs f h1 (by omega)).mono ?_
  rintro e w' ⟨v, rfl, ho, bl⟩
  exact ⟨v, bs, f, rfl, ho, bl, h2, h3, h4⟩

theorem Mv.below {w w' : World} {g B : Nat} {s : Value} (h : Mv w w' g s) (hB : B ≤ g) (hs : ∀ k, s.ownBlock = some k → B ≤ k) (hw : g < w.heap.size) : Below B w w' :=
  ⟨h.os, h.tape, h.output, h.size, fun k hk => h.block k (by omega) (by omega) (fun e => by have := hs k e; omega)⟩


end Wr
end Go.Proofs.Ytmlbmiegfeadjaa
