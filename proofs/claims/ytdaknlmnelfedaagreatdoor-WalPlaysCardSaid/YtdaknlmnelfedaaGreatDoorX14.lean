/- The law's run: a new one; fuses, rooms. -/
import Derived.Test.YtdaknlmnelfedaaGreatDoorXe
import Derived.Test.YtdaknlmnelfedaaGreatDoorXd
namespace Go.Proofs.YtdaknlmnelfedaaGreatDoor
open Go.RowKit Go.Maps Go.ChangeMaps Go.MapKept
namespace X14
open Jb Jm Jd Jw Jx Jn Je Jf Jg Jh Jk Jc Jl Jo Jq Jr J1 J2 J3 J4 W1 W2 W3 V1 V2 V3 V4 V5 V6 V7 V8 V9 Va Vb Vc Vd Ve Vf Vg X1 X2 X3 X4 X5 X6 X7 X8 X9 X10 X11 X12 X13

/-- A slice of slices of bytes that came in. -/
def BL2 (w : World) (v : Value) (xs : List (List Nat)) : Prop :=
  (xs = [] ∧ ∃ a c, v = .slice a 0 c) ∨ ∃ b off c, v = .slice (some ⟨b, off, none⟩) xs.length c ∧ 0 < xs.length ∧ b < w.heap.size ∧ ∀ i (h : i < xs.length), ∃ a cc, w.cell? ⟨b, off + i, none⟩ = some (.slice a xs[i].length cc) ∧ Src w (fun k => k < w.heap.size) (.slice a xs[i].length cc) xs[i] ∧ (a = none → cc = 0)
/-- A new run. -/
theorem pre_new {w w1 : World} {B : Nat} (en : En w B) (hb : Below w.heap.size w w1) (h : DV w1 (fun k => w.heap.size ≤ k ∧ k < w1.heap.size) w.heap.size 0 (V0 1073741824)) {w2 : World} (h2 : w2 = w1.alloc (.cells #[.int .i64 0, .slice none 0 0, .bool false] 31)) {w3 : World} (h3 : w3 = w2.alloc (.cells #[.pointer (some ⟨w.heap.size, 0, none⟩), .pointer none, .pointer (some ⟨w1.heap.size, 0, none⟩), .pointer none] 34)) :
    Pre w3 B w2.heap.size w.heap.size 0 ∧ Below w.heap.size w w3 := by
  have hi := en.hi
  have s1 := hb.size
  have b2 : Below w1.heap.size w1 w2 := by rw [h2]; exact (Below.refl _ _).alloc (Nat.le_refl _) _
  have b3 : Below w2.heap.size w2 w3 := by rw [h3]; exact (Below.refl _ _).alloc (Nat.le_refl _) _
  have s2 : w2.heap.size = w1.heap.size + 1 := by rw [h2]; simp
  have s3 : w3.heap.size = w2.heap.size + 1 := by rw [h3]; simp
  have bb : Below w1.heap.size w1 w3 := b2.trans (b3.mono (by omega))
  have eq1 : ∀ i, w3.cell? ⟨w1.heap.size, i, none⟩ = w2.cell? ⟨w1.heap.size, i, none⟩ := fun i => World.cell?_of_block (b3.block w1.heap.size (by omega))
  have bw : Below w.heap.size w w3 := hb.trans (bb.mono s1)
  refine ⟨⟨fun k => w.heap.size ≤ k ∧ k < w1.heap.size, fun k => k = w1.heap.size, w1.heap.size, 0, V0 1073741824, ⟨0, []⟩, false, none, ⟨0, []⟩, ⟨?_, ⟨.pointer none, ?_⟩, ?_, ?_, fun i => ?_, h.below bb (Nat.le_refl _), uok0 _, en.move bw.size fun k hk => bw.block k (by omega), fun k hk => by omega, ⟨?_, ⟨.slice none 0 0, ?_, .inl ⟨rfl, none, 0, rfl, fun _ => rfl⟩⟩, ?_, rfl, fun b hb => by simp at hb, fun b hb => by simp at hb⟩, by omega, by omega, by omega, by omega, fun k hk => by omega, fun k hk => by omega, (clean0 _).d, .inl ⟨rfl, rfl⟩, by simp [Lg.nx], by simp [V0], by simp⟩, rfl, fun _ => rfl⟩, bw⟩
  · rw [h3]; exact new_cell _ _ _ 0 _ rfl
  · rw [h3]; exact new_cell _ _ _ 1 _ rfl
  · rw [h3]; exact new_cell _ _ _ 2 _ rfl
  · rw [h3]; exact new_cell _ _ _ 3 _ rfl
  · rw [h3]; exact Go.frozen_of_row _ _ _ _ _ (heap_alloc_new _ _)
  · rw [eq1, h2]; exact new_cell _ _ _ 0 _ rfl
  · rw [eq1, h2]; exact new_cell _ _ _ 1 _ rfl
  · rw [eq1, h2]; exact new_cell _ _ _ 2 _ rfl
theorem Run.mono {w : World} {B r g k k' : Nat} {c : Bool} (h : Run w B r g k c) (hk : k ≤ k') : Run w B r g k' := by
  obtain ⟨U, D, p, q, N, V, L, ov, m, h⟩ := h
  refine ⟨U, D, p, q, N, V, L, ov, m, h.rn, h.lv, fun e => ?_, Nat.le_trans h.nx hk, Nat.le_trans h.us (Nat.mul_le_mul_right _ hk), by have := h.nn; omega, fun e => by cases e⟩
  obtain ⟨q2, L2, e1, e2, e3⟩ := h.gn e
  exact ⟨q2, L2, e1, by omega, e3⟩
/-- A call of the disk's that turns its numbers alone. -/
theorem run_nums {w w' : World} {B r g k : Nat} {f : Vw → Vw} (hF : ∀ V, (f V).F = V.F) (hu : ∀ V, (f V).used = V.used) (hd : ∀ V, (f V).down = V.down) {U D S T : Nat → Prop} {p q N : Nat} {V : Vw} {L : Lg} {ov : Bool} {m : Option Nat} (h : Stt w U D B r p g q N V L ov m k false)
    (k2 : LM w T p g L ov) (k3 : ∀ k, S k → ¬ T k) (k4 : ∀ k, S k → U k) (k5 : ∀ k, T k → U k) (j1 : DV w' S g N (f V)) (c : Chg w w' S) : Run w' B r g k ∧ Below B w w' := by
  have hi := h.rn.ws.en.hi
  have cU : Chg w w' U := c.imp fun k hk _ => k4 k hk
  have uok : UOk (f V) N := by
    obtain ⟨l, u1, u2, u3⟩ := h.rn.ws.uok
    exact ⟨l, by rw [hF]; exact u1, by rw [hF, hu]; exact u2, u3⟩
  have ws : WS w' U B p g N (f V) L ov := ⟨⟨S, T, j1, k2.move c.size fun k hk => c.block k (k2.lt k hk) fun e => k3 k e hk, k3, k4, k5⟩, uok, h.rn.ws.en.move c.size fun k hk => c.block k (by omega) fun e => by have := h.rn.ws.ge k (k4 k e); omega, h.rn.ws.ge, fun k hk => Nat.lt_of_lt_of_le (h.rn.ws.lt k hk) c.size⟩
  have er := c.block r h.rn.rs fun e => h.rn.ru (k4 r e)
  have eD : ∀ j, D j → w'.heap[j]? = w.heap[j]? := fun j hj => c.block j (h.rn.dl j hj) fun e => h.rn.du j hj (k4 j e)
  obtain ⟨x, y⟩ := rn_step h.rn cU ws (fun j hj => .inl hj) (Below.refl _ _) (h.rn.rl.move (w' := w') (D' := D) (fun _ hk => hk) eD) (fun j hj => ⟨.inl hj, by have := h.rn.dl j hj; have := c.size; omega⟩) (Chg.refl _ _) ((World.cell?_of_block er).trans h.rn.c0) ((World.cell?_of_block er).trans h.rn.c1) ((World.cell?_of_block er).trans h.rn.c2) ((World.cell?_of_block er).trans h.rn.c3) fun i => (World.frozen?_of_block er).trans (h.rn.z i)
  refine ⟨⟨U, D, p, q, N, f V, L, ov, m, x, fun e => ?_, fun e => ?_, h.nx, by rw [hu]; exact h.us, h.nn, fun e => by cases e⟩, y⟩
  · obtain ⟨a, b, c⟩ := h.lv e
    exact ⟨a, b.same fun s => by rw [hF], (hd V).trans c⟩
  · obtain ⟨q2, L2, e1, e2, e3, e4, e5⟩ := h.gn e
    exact ⟨q2, L2, e1, e2, e3.move (fun _ hk => hk) eD, (hd V).trans e4, e5.imp (fun d => d.same fun s _ => by rw [hF]) fun d => d.same fun s _ => by rw [hF]⟩
theorem run_fuse (w : World) (B r g k : Nat) (h : Run w B r g k) (n : Int) (hn : -9223372036854775808 ≤ n ∧ n ≤ 9223372036854775807) :
    Calls Tryz.prog 10 #[.pointer (some ⟨g, 0, none⟩), .int .i64 n] w fun e w' => e = .returned (.tuple #[]) ∧ Run w' B r g k ∧ Below B w w' := by
  obtain ⟨U, D, p, q, N, V, L, ov, m, h⟩ := h
  obtain ⟨S, T, k1, k2, k3, k4, k5⟩ := h.rn.ws.ex
  refine (SetFuse_c w S g N V k1 n hn).mono ?_
  rintro e w' ⟨rfl, j1, j2⟩
  exact ⟨rfl, run_nums (f := fun V => { V with fused := decide (0 ≤ n), fuse := n.toNat }) (fun _ => rfl) (fun _ => rfl) (fun _ => rfl) h k2 k3 k4 k5 j1 j2⟩
theorem run_room (w : World) (B r g k : Nat) (h : Run w B r g k) (n : Int) (hn : -9223372036854775808 ≤ n ∧ n ≤ 9223372036854775807) :
    Calls Tryz.prog 13 #[.pointer (some ⟨g, 0, none⟩), .int .i64 n] w fun e w' => e = .returned (.tuple #[]) ∧ Run w' B r g k ∧ Below B w w' := by
  obtain ⟨U, D, p, q, N, V, L, ov, m, h⟩ := h
  obtain ⟨S, T, k1, k2, k3, k4, k5⟩ := h.rn.ws.ex
  refine (SetRoom_c w S g N V k1 n hn).mono ?_
  rintro e w' ⟨rfl, j1, j2⟩
  exact ⟨rfl, run_nums (f := fun V => { V with room := n.toNat }) (fun _ => rfl) (fun _ => rfl) (fun _ => rfl) h k2 k3 k4 k5 j1 j2⟩
theorem Run.c0 {w : World} {B r g k : Nat} {c : Bool} (h : Run w B r g k c) : w.cell? ⟨r, 0, none⟩ = some (.pointer (some ⟨g, 0, none⟩)) := by
  obtain ⟨U, D, p', q', N, V, L, ov, m, h⟩ := h
  exact h.rn.c0
/-- The run's own test: where maybe is nil, the logs are one. -/
theorem Run.ask {w : World} {B r g k : Nat} {c : Bool} (h : Run w B r g k c) (hk : k ≤ 100000) : ∃ (p q : Nat) (m : Option Nat), w.cell? ⟨r, 1, none⟩ = some (.pointer (some ⟨p, 0, none⟩)) ∧ w.cell? ⟨r, 2, none⟩ = some (.pointer (some ⟨q, 0, none⟩)) ∧ w.cell? ⟨r, 3, none⟩ = some (.pointer (m.map fun x => ⟨x, 0, none⟩)) ∧ (c = true → m = none) ∧
    (m = none → ∀ y, Below w.heap.size w y → Calls Tryz.prog 15 #[.pointer (some ⟨p, 0, none⟩), .pointer (some ⟨q, 0, none⟩)] y fun e w' => e = .returned (.bool true) ∧ Below w.heap.size w w') := by
  obtain ⟨U, D, p, q, N, V, L, ov, m, st⟩ := h
  refine ⟨p, q, m, st.rn.c1, st.rn.c2, st.rn.c3, fun e => (st.lv (st.cc e).1).1, fun hm y hy => ?_⟩
  subst hm
  have er := hy.block r st.rn.rs
  refine (run_same (k := k) ⟨U, D, p, q, N, V, L, ov, none, st.below hy⟩ hk ((World.cell?_of_block er).trans st.rn.c1) ((World.cell?_of_block er).trans st.rn.c2) ((World.cell?_of_block er).trans st.rn.c3)).mono ?_
  rintro e w' ⟨rfl, b⟩
  exact ⟨rfl, hy.trans (b.mono hy.size)⟩
end X14
end Go.Proofs.YtdaknlmnelfedaaGreatDoor
