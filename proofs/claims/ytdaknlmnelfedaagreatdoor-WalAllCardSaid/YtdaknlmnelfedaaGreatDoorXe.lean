/- The law's run ahead of an opening; restarts. The law's open. -/
import Derived.Test.YtdaknlmnelfedaaGreatDoorXc
import Derived.Test.YtdaknlmnelfedaaGreatDoorX2
namespace Go.Proofs.YtdaknlmnelfedaaGreatDoor
open Go.RowKit Go.Maps Go.ChangeMaps Go.MapKept
namespace X12
open Jb Jm Jd Jw Jx Jn Je Jf Jg Jh Jk Jc Jl Jo Jq Jr J1 J2 J3 J4 W1 W2 W3 V1 V2 V3 V4 V5 V6 V7 V8 V9 Va Vb Vc Vd Ve Vf Vg X1 X2 X3 X4 X5 X6 X7 X8 X9

/-- What is there ahead of an opening; LL is what lies on the disk. -/
structure Po (w : World) (S D : Nat → Prop) (B r g q N : Nat) (V : Vw) (R : Lg) (rov : Bool) (m : Option Nat) (LL : Lg) (k : Nat) : Prop where
  c0 : w.cell? ⟨r, 0, none⟩ = some (.pointer (some ⟨g, 0, none⟩))
  c1 : ∃ v, w.cell? ⟨r, 1, none⟩ = some v
  c2 : w.cell? ⟨r, 2, none⟩ = some (.pointer (some ⟨q, 0, none⟩))
  c3 : w.cell? ⟨r, 3, none⟩ = some (.pointer (m.map fun x => ⟨x, 0, none⟩))
  z : ∀ i, w.frozen? ⟨r, i, none⟩ = false
  dv : DV w S g N V
  uok : UOk V N
  en : En w B
  ge : ∀ k, S k → B ≤ k
  rl : RL w D q R rov
  br : B ≤ r
  ru : ¬ S r
  rd : ¬ D r
  rs : r < w.heap.size
  du : ∀ k, D k → ¬ S k
  dl : ∀ k, D k → k < w.heap.size
  dirt : Dirt V LL
  cand : (m = none ∧ LL = R) ∨ ∃ q2 R2, m = some q2 ∧ RL w D q2 R2 false ∧ R2.nx ≤ k ∧ (LL = R ∨ LL = R2)
  nx : R.nx ≤ k
  us : V.used ≤ k * 1048576
  nn : N ≤ 2 * k
theorem Po.lx {w : World} {S D : Nat → Prop} {B r g q N : Nat} {V : Vw} {R : Lg} {rov : Bool} {m : Option Nat} {LL : Lg} {k : Nat} (h : Po w S D B r g q N V R rov m LL k) : LL.nx ≤ k := by
  rcases h.cand with ⟨_, e⟩ | ⟨q2, R2, _, _, e2, e | e⟩
  · rw [e]; exact h.nx
  · rw [e]; exact h.nx
  · rw [e]; exact e2
theorem Po.move {w w' : World} {S S' D : Nat → Prop} {B r g q N : Nat} {V V' : Vw} {R : Lg} {rov : Bool} {m : Option Nat} {LL : Lg} {k : Nat} (h : Po w S D B r g q N V R rov m LL k) (c : Chg w w' S) (dv : DV w' S' g N V') (hS : ∀ j, S' j → S j ∨ w.heap.size ≤ j) (uok : UOk V' N) (hd : Dirt V' LL) (hu : V'.used ≤ V.used) : Po w' S' D B r g q N V' R rov m LL k := by
  have er := c.block r h.rs h.ru
  have eD : ∀ j, D j → w'.heap[j]? = w.heap[j]? := fun j hj => c.block j (h.dl j hj) (h.du j hj)
  have hi := h.en.hi
  have hz := c.size
  have hrs := h.rs
  refine ⟨(World.cell?_of_block er).trans h.c0, h.c1.imp fun v hv => (World.cell?_of_block er).trans hv, (World.cell?_of_block er).trans h.c2, (World.cell?_of_block er).trans h.c3, fun i => (World.frozen?_of_block er).trans (h.z i), dv, uok, h.en.move hz fun j hj => c.block j (by omega) fun e => by have := h.ge j e; omega, fun j hj => (hS j hj).elim (h.ge j) fun e => by omega, h.rl.move (fun _ hk => hk) eD, h.br, fun e => (hS r e).elim h.ru fun e => by omega, h.rd, by omega, fun j hj e => (hS j e).elim (h.du j hj) fun e => by have := h.dl j hj; omega, fun j hj => by have := h.dl j hj; omega, hd, ?_, h.nx, Nat.le_trans hu h.us, h.nn⟩
  exact h.cand.imp id fun ⟨q2, R2, e1, e2, e3⟩ => ⟨q2, R2, e1, e2.move (fun _ hk => hk) eD, e3⟩
def Pre (w : World) (B r g k : Nat) (c : Bool := false) : Prop := ∃ S D q N V R rov m LL, Po w S D B r g q N V R rov m LL k ∧ V.down = false ∧ (c = true → V.fused = false)
theorem po_restart (w : World) (S D : Nat → Prop) (B r g q N : Nat) (V : Vw) (R : Lg) (rov : Bool) (m : Option Nat) (LL : Lg) (k : Nat) (h : Po w S D B r g q N V R rov m LL k) (hk : k ≤ 100000) (Q : Nat → Prop) (hQ : ∀ j, Q j → j < B) (v : Value) (ch : List Nat) (hv : Src w Q v ch) (hby : ∀ x ∈ ch, x < 256) :
    Calls Tryz.prog 11 #[.pointer (some ⟨g, 0, none⟩), v] w fun e w' => e = .returned (.tuple #[]) ∧ Below B w w' ∧ ∃ S' V', Po w' S' D B r g q N V' R rov m LL k ∧ V'.down = false ∧ V'.fused = false := by
  obtain ⟨l, u1, u2, u3⟩ := h.uok
  obtain ⟨ns, hn⟩ := u1.names
  obtain ⟨e1, e2, e3, _⟩ := UOk.restart h.uok hn (fun s b hb => DV.le h.dv s b hb) ch
  have hi := h.en.hi
  have hnn := h.nn
  refine (Restart_c w S g N V h.dv (by omega) Q (fun j hj => ⟨fun e => by have := h.ge j e; have := hQ j hj; omega, by have := hQ j hj; omega⟩) v ch hv hby ns hn e1 (by have := h.us; omega) ?_ (by omega)).mono ?_
  · intro x hx
    have := mine_size (L := LL) (by have := h.lx; unfold Sm; omega) (mine_of h.dirt ((hn.2 x).1 hx))
    rwa [nm_size] at this
  · rintro e w' ⟨rfl, k1, k2⟩
    refine ⟨rfl, k2.below (fun j hj _ => h.ge j hj) hi, _, _, h.move k2 k1 (fun j hj => hj.imp id fun e => e.1) e3 (h.dirt.restart hn (fun s b hb => DV.le h.dv s b hb) ch) ?_, rfl, rfl⟩
    exact rs_used_le _ _
/-- A run that lost its power, or has it, restarted. -/
theorem run_po {w : World} {B r g k : Nat} (h : Run w B r g k) : ∃ S D q N V R rov m LL, Po w S D B r g q N V R rov m LL k ∧ (m = none → V.down = false) := by
  obtain ⟨U, D, p, q, N, V, L, ov, m, h⟩ := h
  obtain ⟨S, T, k1, k2, k3, k4, k5⟩ := h.rn.ws.ex
  have base : ∀ LL, Dirt V LL → ((m = none ∧ LL = L) ∨ ∃ q2 R2, m = some q2 ∧ RL w D q2 R2 false ∧ R2.nx ≤ k ∧ (LL = L ∨ LL = R2)) → Po w S D B r g q N V L ov m LL k := fun LL hd hc =>
    ⟨h.rn.c0, ⟨_, h.rn.c1⟩, h.rn.c2, h.rn.c3, h.rn.z, k1, h.rn.ws.uok, h.rn.ws.en, fun j hj => h.rn.ws.ge j (k4 j hj), h.rn.rl, h.rn.br, fun e => h.rn.ru (k4 r e), h.rn.rd, h.rn.rs, fun j hj e => h.rn.du j hj (k4 j e), h.rn.dl, hd, hc, h.nx, h.us, h.nn⟩
  cases ov with
  | false =>
    obtain ⟨e1, e2, e3⟩ := h.lv rfl
    exact ⟨S, D, q, N, V, L, false, m, L, base L e2.d (.inl ⟨e1, rfl⟩), fun _ => e3⟩
  | true =>
    obtain ⟨q2, L2, e1, e2, e3, e4, e5⟩ := h.gn rfl
    rcases e5 with e | e
    · exact ⟨S, D, q, N, V, L, true, m, L, base L e (.inr ⟨q2, L2, e1, e3, e2, .inl rfl⟩), fun e' => by rw [e1] at e'; cases e'⟩
    · exact ⟨S, D, q, N, V, L, true, m, L2, base L2 e (.inr ⟨q2, L2, e1, e3, e2, .inr rfl⟩), fun e' => by rw [e1] at e'; cases e'⟩
theorem run_restart (w : World) (B r g k : Nat) (h : Run w B r g k) (hk : k ≤ 100000) (Q : Nat → Prop) (hQ : ∀ j, Q j → j < B) (v : Value) (ch : List Nat) (hv : Src w Q v ch) (hby : ∀ x ∈ ch, x < 256) :
    Calls Tryz.prog 11 #[.pointer (some ⟨g, 0, none⟩), v] w fun e w' => e = .returned (.tuple #[]) ∧ Below B w w' ∧ Pre w' B r g k true := by
  obtain ⟨S, D, q, N, V, R, rov, m, LL, h, _⟩ := run_po h
  refine (po_restart w S D B r g q N V R rov m LL k h hk Q hQ v ch hv hby).mono ?_
  rintro e w' ⟨rfl, b, S', V', p, hd, hf⟩
  exact ⟨rfl, b, S', D, q, N, V', R, rov, m, LL, p, hd, fun _ => hf⟩
/-- Open, ahead of which Po holds. -/
theorem po_open (w : World) (S D : Nat → Prop) (B r g q N : Nat) (V : Vw) (R : Lg) (rov : Bool) (m : Option Nat) (LL : Lg) (k : Nat) (h : Po w S D B r g q N V R rov m LL k) (hd : V.down = false) (hk : k ≤ 100000) :
    Calls Tryz.prog 16 #[.pointer (some ⟨g, 0, none⟩)] w fun e w' => (e = .returned (.tuple #[.pointer none, .int .i64 8]) ∧ Below B w w' ∧ V.fused = true ∧ ∃ S' V', Po w' S' D B r g q N V' R rov m LL k) ∨
      ∃ p U V', e = .returned (.tuple #[.pointer (some ⟨p, 0, none⟩), .int .i64 0]) ∧ WS w' U B p g N V' LL false ∧ (∀ j, U j → S j ∨ w.heap.size ≤ j) ∧ Chg w w' S ∧ Cln V' LL ∧ V'.down = false ∧ V'.used ≤ V.used ∧ V'.fused = V.fused := by
  have hx := h.lx
  have hnn := h.nn
  have hus := h.us
  have hi := h.en.hi
  refine (Open6 w S B g N V LL h.dv h.uok h.en h.ge h.dirt hd (by unfold Sm; omega) (by omega) (by unfold Lg.nx at hx; omega) (by omega)).mono ?_
  rintro e w' ⟨p, er, V', he, k1, k2, k3, k4, k5⟩
  have kf := k3.fused
  rcases he with ⟨rfl, rfl⟩ | ⟨rfl, rfl⟩
  · rcases k5 with ⟨_, f, _, d⟩ | ⟨e, _⟩
    · obtain ⟨S', T, q1, _, _, q4, _⟩ := k1.ex
      refine .inl ⟨rfl, k2.below (fun j hj _ => h.ge j hj) hi, f, S', V', h.move k2 q1 (fun j hj => (q4 j hj).imp id fun e => e.1) k1.uok d k4⟩
    · cases e
  · rcases k5 with ⟨e, _⟩ | ⟨_, d, c⟩
    · cases e
    · exact .inr ⟨p, _, V', rfl, k1, fun j hj => hj.imp id fun e => e.1, k2, c, d, k4, kf⟩
end X12
end Go.Proofs.YtdaknlmnelfedaaGreatDoor
namespace Go.Proofs.YtdaknlmnelfedaaGreatDoor
open Go.RowKit Go.Maps Go.ChangeMaps Go.MapKept
namespace X13
open Jb Jm Jd Jw Jx Jn Je Jf Jg Jh Jk Jc Jl Jo Jq Jr J1 J2 J3 J4 W1 W2 W3 V1 V2 V3 V4 V5 V6 V7 V8 V9 Va Vb Vc Vd Ve Vf Vg X1 X2 X3 X4 X5 X6 X7 X8 X9 X12

theorem Run.hi {w : World} {B r g k : Nat} {c : Bool} (h : Run w B r g k c) : B ≤ w.heap.size := by
  obtain ⟨U, D, p', q', N, V, L, ov, m, h⟩ := h
  exact h.rn.ws.en.hi
/-- A run that is live has one log. -/
theorem run_same {w : World} {B r g k p q : Nat} {c : Bool} (h : Run w B r g k c) (hk : k ≤ 100000) (e1 : w.cell? ⟨r, 1, none⟩ = some (.pointer (some ⟨p, 0, none⟩))) (e2 : w.cell? ⟨r, 2, none⟩ = some (.pointer (some ⟨q, 0, none⟩))) (e3 : w.cell? ⟨r, 3, none⟩ = some (.pointer none)) :
    Calls Tryz.prog 15 #[.pointer (some ⟨p, 0, none⟩), .pointer (some ⟨q, 0, none⟩)] w fun e w' => e = .returned (.bool true) ∧ Below w.heap.size w w' := by
  obtain ⟨U, D, p', q', N, V, L, ov, m, h⟩ := h
  have c1 := h.rn.c1.symm.trans e1
  have c2 := h.rn.c2.symm.trans e2
  have c3 := h.rn.c3.symm.trans e3
  simp only [Option.some.injEq, Value.pointer.injEq, Addr.mk.injEq, and_true] at c1 c2
  subst c1 c2
  have hm : m = none := by
    cases m with
    | none => rfl
    | some x => simp at c3
  cases ov with
  | true =>
    obtain ⟨q2, L2, e, _⟩ := h.gn rfl
    rw [hm] at e; cases e
  | false =>
    have hs : Sm L.nx := by have := h.nx; unfold Sm; omega
    refine (same15 w U B p' g N V L false h.rn.ws hs D q' L false h.rn.rl h.rn.dl hs).mono ?_
    rintro e w' ⟨b, rfl, hb, bl⟩
    rw [hb.2 rfl]
    exact ⟨rfl, bl⟩
/-- Ahead of round i of the opening. -/
def Rd (c : Bool) (w : World) (B r g k : Nat) (i : Nat) : Prop := ∃ S D q N V R rov m LL, Po w S D B r g q N V R rov m LL k ∧ V.down = false ∧ (c = true → V.fused = false) ∧ (i = 0 ∨ (i = 1 ∧ V.fused = false))
/-- The opened log is the run's; a new one of the document's with it. -/
structure Mid (w1 w3 : World) (D : Nat → Prop) (r g p b : Nat) (m : Option Nat) (R : Lg) : Prop where
  chg : Chg w1 w3 (fun k => k = r)
  c0 : w3.cell? ⟨r, 0, none⟩ = some (.pointer (some ⟨g, 0, none⟩))
  c1 : w3.cell? ⟨r, 1, none⟩ = some (.pointer (some ⟨p, 0, none⟩))
  c2 : w3.cell? ⟨r, 2, none⟩ = some (.pointer (some ⟨b, 0, none⟩))
  c3 : w3.cell? ⟨r, 3, none⟩ = some (.pointer (m.map fun x => ⟨x, 0, none⟩))
  z : ∀ i, w3.frozen? ⟨r, i, none⟩ = false
  rl : RL w3 (fun k => D k ∨ k = b) b R false
  lt : b < w3.heap.size
  bg : w1.heap.size ≤ b
theorem Mid.below {w1 w3 w4 : World} {D : Nat → Prop} {r g p b : Nat} {m : Option Nat} {R : Lg} (h : Mid w1 w3 D r g p b m R) (hr : r < w1.heap.size) (hD : ∀ j, D j → j < w1.heap.size) (k : Below w3.heap.size w3 w4) : Mid w1 w4 D r g p b m R := by
  have hz := h.chg.size
  have er := k.block r (by omega)
  exact ⟨h.chg.trans (Chg.of_below k (Nat.le_refl _) (fun k => k = r)) fun _ hk _ => hk, (World.cell?_of_block er).trans h.c0, (World.cell?_of_block er).trans h.c1, (World.cell?_of_block er).trans h.c2, (World.cell?_of_block er).trans h.c3, fun i => (World.frozen?_of_block er).trans (h.z i),
    h.rl.move (fun _ hk => hk) fun j hj => k.block j (hj.elim (fun e => by have := hD j e; omega) fun e => by rw [e]; exact h.lt), Nat.lt_of_lt_of_le h.lt k.size, h.bg⟩
theorem mid_new {w1 : World} {D : Nat → Prop} {r g p q : Nat} {m : Option Nat} {R : Lg} {rov : Bool} {sv v1 : Value} (hr : r < w1.heap.size) (hD : ∀ j, D j → j < w1.heap.size) (hrd : ¬ D r) (c0 : w1.cell? ⟨r, 0, none⟩ = some (.pointer (some ⟨g, 0, none⟩))) (c1 : w1.cell? ⟨r, 1, none⟩ = some v1) (c2 : w1.cell? ⟨r, 2, none⟩ = some (.pointer (some ⟨q, 0, none⟩)))
    (c3 : w1.cell? ⟨r, 3, none⟩ = some (.pointer (m.map fun x => ⟨x, 0, none⟩))) (z : ∀ i, w1.frozen? ⟨r, i, none⟩ = false) (rl : RL w1 D q R rov) (er : RR w1 D sv R.es) :
    Mid w1 ((((w1.setCell ⟨r, 1, none⟩ (.pointer (some ⟨p, 0, none⟩))).alloc (.cells #[.int .i64 (R.first : Nat), sv, .bool false] 31)).setCell ⟨r, 2, none⟩ (.pointer (some ⟨(w1.setCell ⟨r, 1, none⟩ (.pointer (some ⟨p, 0, none⟩))).heap.size, 0, none⟩))).drew) D r g p (w1.setCell ⟨r, 1, none⟩ (.pointer (some ⟨p, 0, none⟩))).heap.size m R := by
  obtain ⟨w2, hw2⟩ : ∃ w2, w2 = w1.setCell ⟨r, 1, none⟩ (.pointer (some ⟨p, 0, none⟩)) := ⟨_, rfl⟩
  have g2 : Chg w1 w2 (fun k => k = r) := by rw [hw2]; exact (Chg.refl w1 (fun k => k = r)).setCell rfl _
  have a0 : w2.cell? ⟨r, 0, none⟩ = some (.pointer (some ⟨g, 0, none⟩)) := by rw [hw2, cell_other (by simp)]; exact c0
  have a1 : w2.cell? ⟨r, 1, none⟩ = some (.pointer (some ⟨p, 0, none⟩)) := by rw [hw2, cell_same c1]
  have a2 : w2.cell? ⟨r, 2, none⟩ = some (.pointer (some ⟨q, 0, none⟩)) := by rw [hw2, cell_other (by simp)]; exact c2
  have a3 : w2.cell? ⟨r, 3, none⟩ = some (.pointer (m.map fun x => ⟨x, 0, none⟩)) := by rw [hw2, cell_other (by simp)]; exact c3
  have az : ∀ i, w2.frozen? ⟨r, i, none⟩ = false := fun i => by rw [hw2]; simp only [World.frozen?_setCell]; exact z i
  rw [← hw2]
  clear hw2
  have s2 := g2.size
  have bA : Below w2.heap.size w2 (w2.alloc (.cells #[.int .i64 (R.first : Nat), sv, .bool false] 31)) := (Below.refl _ _).alloc (Nat.le_refl _) _
  have hz : (w2.alloc (.cells #[.int .i64 (R.first : Nat), sv, .bool false] 31)).heap.size = w2.heap.size + 1 := by simp
  have R1 := rl_newo (F := R.first) (ov := false) (fun k hk => Nat.lt_of_lt_of_le (hD k hk) s2) (er.move (w' := w2) (D' := D) (fun _ hk => hk) fun j hj => g2.block j (hD j hj) fun e => hrd (e ▸ hj)) rl.byte rl.len
  obtain ⟨wa, hwa⟩ : ∃ wa, wa = w2.alloc (.cells #[.int .i64 (R.first : Nat), sv, .bool false] 31) := ⟨_, rfl⟩
  rw [← hwa] at bA hz R1 ⊢
  have rb : r < w2.heap.size := by omega
  have eb := bA.block r rb
  have b2 : wa.cell? ⟨r, 2, none⟩ = some (.pointer (some ⟨q, 0, none⟩)) := (World.cell?_of_block eb).trans a2
  have hp : Chg wa ((wa.setCell ⟨r, 2, none⟩ (.pointer (some ⟨w2.heap.size, 0, none⟩))).drew) (fun k => k = r) := ((Chg.refl wa (fun k => k = r)).setCell rfl _).drew
  refine ⟨(g2.trans (Chg.of_below bA (Nat.le_refl _) (fun k => k = r)) fun _ hk _ => hk).trans hp fun _ hk _ => hk, ?_, ?_, ?_, ?_, ?_, R1.move (fun _ hk => hk) fun j hj => ?_, ?_, s2⟩
  · show World.cell? (wa.setCell ⟨r, 2, none⟩ (.pointer (some ⟨w2.heap.size, 0, none⟩))) _ = _
    rw [cell_other (by simp)]; exact (World.cell?_of_block eb).trans a0
  · show World.cell? (wa.setCell ⟨r, 2, none⟩ (.pointer (some ⟨w2.heap.size, 0, none⟩))) _ = _
    rw [cell_other (by simp)]; exact (World.cell?_of_block eb).trans a1
  · show World.cell? (wa.setCell ⟨r, 2, none⟩ (.pointer (some ⟨w2.heap.size, 0, none⟩))) _ = _
    exact cell_same b2
  · show World.cell? (wa.setCell ⟨r, 2, none⟩ (.pointer (some ⟨w2.heap.size, 0, none⟩))) _ = _
    rw [cell_other (by simp)]; exact (World.cell?_of_block eb).trans a3
  · intro i
    show World.frozen? (wa.setCell ⟨r, 2, none⟩ (.pointer (some ⟨w2.heap.size, 0, none⟩))) _ = _
    simp only [World.frozen?_setCell]
    exact (World.frozen?_of_block eb).trans (az i)
  · refine hp.block j (hj.elim (fun e => by have := hD j e; omega) fun e => by omega) fun e => ?_
    rcases hj with e' | e'
    · exact hrd (e ▸ e')
    · omega
  · have := hp.size; omega
/-- What is left at the end. -/
theorem po_end {w w1 w3 wf : World} {S D U : Nat → Prop} {B r g p q q' N b : Nat} {V V' : Vw} {R LL : Lg} {rov : Bool} {m : Option Nat} {k : Nat} (h : Po w S D B r g q N V R rov m LL k) (k1 : WS w1 U B p g N V' LL false) (kU : ∀ j, U j → S j ∨ w.heap.size ≤ j) (k2 : Chg w w1 S) (c : Cln V' LL) (hd : V'.down = false) (hu : V'.used ≤ V.used) (M : Mid w1 w3 D r g p b m R)
    (hw : Chg w3 wf (fun k => k = r)) (c0 : wf.cell? ⟨r, 0, none⟩ = w3.cell? ⟨r, 0, none⟩) (c1 : wf.cell? ⟨r, 1, none⟩ = w3.cell? ⟨r, 1, none⟩) (c2 : wf.cell? ⟨r, 2, none⟩ = some (.pointer (some ⟨q', 0, none⟩))) (c3 : wf.cell? ⟨r, 3, none⟩ = some (.pointer none)) (z : ∀ i, wf.frozen? ⟨r, i, none⟩ = w3.frozen? ⟨r, i, none⟩)
    (rl : RL w3 (fun k => D k ∨ k = b) q' LL false) (x : Bool) (hx : x = true → V'.fused = false) : Run wf B r g k x ∧ Below B w wf := by
  have s1 := k2.size
  have s3 := M.chg.size
  have sf := hw.size
  have hrs := h.rs
  have hi := h.en.hi
  have lt := M.lt
  have bg := M.bg
  have nd : ¬ (D r ∨ r = b) := fun e => e.elim h.rd fun e => by omega
  have nu : ¬ U r := fun e => (kU r e).elim h.ru fun e => by omega
  have dl : ∀ j, D j ∨ j = b → j < w3.heap.size := fun j hj => hj.elim (fun e => by have := h.dl j e; omega) fun e => by omega
  refine ⟨⟨U, fun k => D k ∨ k = b, p, q', N, V', LL, false, none, ⟨c0.trans M.c0, c1.trans M.c1, c2, c3, fun i => (z i).trans (M.z i), (k1.chg M.chg fun j e => ⟨e ▸ nu, e ▸ h.br⟩).chg hw fun j e => ⟨e ▸ nu, e ▸ h.br⟩, rl.move (fun _ hk => hk) fun j hj => hw.block j (dl j hj) fun e => nd (e ▸ hj), h.br, nu, nd, by omega, fun j hj e => ?_, fun j hj => by have := dl j hj; omega⟩, fun _ => ⟨rfl, c, hd⟩, fun e => (by cases e), h.lx, Nat.le_trans hu h.us, h.nn, fun e => ⟨rfl, hx e⟩⟩, ?_⟩
  · have hl := k1.lt j e
    rcases hj with e' | e'
    · rcases kU j e with e2 | e2
      · exact h.du j e' e2
      · have := h.dl j e'; omega
    · omega
  · exact ((k2.below (fun j hj _ => h.ge j hj) hi).trans (M.chg.below (fun j hj _ => hj ▸ h.br) (by omega))).trans (hw.below (fun j hj _ => hj ▸ h.br) (by omega))
set_option maxRecDepth 100000 in
set_option maxHeartbeats 4000000 in
theorem open8x (w : World) (B r g k : Nat) (c : Bool) (h : Pre w B r g k c) (hk : k ≤ 100000) (Q : Nat → Prop) (hQ : ∀ j, Q j → j < B) (va : Option Addr) (vc : Nat) (ch : List Nat) (hv : Src w Q (.slice va ch.length vc) ch) (hby : ∀ x ∈ ch, x < 256) :
    Calls Tryz.prog 8 #[.pointer (some ⟨r, 0, none⟩), .slice va ch.length vc] w fun e w' => e = .returned (.bool true) ∧ (Run w' B r g k c ∧ w'.cell? ⟨r, 3, none⟩ = some (.pointer none)) ∧ Below B w w' := by
  have R0 : Hid (Rd c w B r g k 0) := Lib.hid (by
    obtain ⟨S, D, q, N, V, R, rov, m, LL, p, d, f⟩ := h
    exact ⟨S, D, q, N, V, R, rov, m, LL, p, d, f, .inl rfl⟩)
  have SV : Hid (∀ y, Below B w y → Src y Q (.slice va ch.length vc) ch) := Lib.hid fun y hy => hv.move fun j hj _ => hy.block j (hQ j hj)
  have HK := Lib.hid (And.intro hk (And.intro hQ hby))
  obtain ⟨l, hl⟩ : ∃ l, l = ch.length := ⟨_, rfl⟩
  rw [← hl] at SV ⊢
  have HL := Lib.hid hl
  clear hl
  clear h hk hQ hv hby
  go_enter Tryz.func8, Tryz.ntmps8
  go_wp2_with fail
  go_loopw [5, 6, 7] (fun _ _ i wr => ∃ k', i = .int .i64 (k' : Nat) ∧ k' ≤ 1 ∧ Rd c wr B r g k k' ∧ Below B w wr) (fun _ _ i _ => 6 - (intOf i).toNat)
  case atStart => exact ⟨0, rfl, by omega, R0.out, Below.refl _ _⟩
  case round =>
    obtain ⟨i, rfl, hi, RD, hb⟩ := hrel
    have HB := Lib.hid hb
    obtain ⟨S, D, q, N, V, R, rov, m, LL, p0, hd, hcf, hi2⟩ := RD
    have OP := Lib.hid (po_open wr S D B r g q N V R rov m LL k p0 hd HK.out.1)
    have c0 := p0.c0
    have hi6 : i < 6 := by omega
    have P0 := Lib.hid p0
    have HI := Lib.hid hi2
    have HCF := Lib.hid hcf
    clear hb p0 hd hi2 hcf
    have PR : Hid (∀ y S' V', Po y S' D B r g q N V' R rov m LL k → Below B w y → Calls Tryz.prog 11 #[.pointer (some ⟨g, 0, none⟩), .slice va l vc] y _) := Lib.hid fun y S' V' hp hy => po_restart y S' D B r g q N V' R rov m LL k hp HK.out.1 Q HK.out.2.1 (.slice va l vc) ch (SV.out y hy) HK.out.2.2
    go_wp2_with fail
    go_at_call 16
    refine (OP.out).mono ?_
    rintro e w1 (⟨rfl, b1, f, S', V', p1⟩ | ⟨p, U, V', rfl, k1, kU, k2, k3, k4, k5, k6⟩)
    · have d0 := p1.c0
      have B1 := Lib.hid (HB.out.trans b1)
      have PR1 := Lib.hid (PR.out w1 S' V' p1 B1.out)
      have hi0 : i = 0 := by
        rcases HI.out with e | ⟨_, e⟩
        · exact e
        · rw [e] at f; cases f
      subst hi0
      clear p1 f b1
      go_wp2_with (go_at_call 11; refine (PR1.out).mono ?_; rintro e w2 ⟨rfl, b2, S2, V2, p2, e2, e3⟩)
      have P2 := Lib.hid (And.intro b2 (And.intro p2 (And.intro e2 e3)))
      clear p2 e2 e3 b2
      go_roundw
      case rel => exact ⟨1, by simp, by omega, ⟨S2, D, q, N, V2, R, rov, m, LL, P2.out.2.1, P2.out.2.2.1, fun _ => P2.out.2.2.2, .inr ⟨rfl, P2.out.2.2.2⟩⟩, B1.out.trans P2.out.1⟩
      case measure => simp [intOf]
    · have er := k2.block r P0.out.rs P0.out.ru
      have d0 := (World.cell?_of_block er).trans c0
      obtain ⟨v1, hv1⟩ := P0.out.c1
      have d1 := (World.cell?_of_block er).trans hv1
      have d2 := (World.cell?_of_block er).trans P0.out.c2
      have d3 := (World.cell?_of_block er).trans P0.out.c3
      have dz : ∀ i, w1.frozen? ⟨r, i, none⟩ = false := fun i => (World.frozen?_of_block er).trans (P0.out.z i)
      have z1 := dz 1
      have z2 := dz 2
      have z3 := dz 3
      have eD : ∀ j, D j → w1.heap[j]? = wr.heap[j]? := fun j hj => k2.block j (P0.out.dl j hj) (P0.out.du j hj)
      have RQ := P0.out.rl.move (w' := w1) (D' := D) (fun _ hk => hk) eD
      have sz := k2.size
      have rs1 : r < w1.heap.size := by have := P0.out.rs; omega
      have dl1 : ∀ j, D j → j < w1.heap.size := fun j hj => by have := P0.out.dl j hj; omega
      have q0 := RQ.c0
      obtain ⟨ev, q1, er1⟩ := RQ.c1
      obtain ⟨ea, ec, rfl⟩ := er1.form
      have MN := Lib.hid (mid_new (p := p) rs1 dl1 P0.out.rd d0 d1 d2 d3 dz RQ er1)
      have nq : q ≠ r := fun e => P0.out.rd (e ▸ P0.out.rl.dq)
      obtain ⟨el, hel⟩ : ∃ el, el = R.es.length := ⟨_, rfl⟩
      obtain ⟨F, hF⟩ : ∃ F, F = R.first := ⟨_, rfl⟩
      rw [← hel] at q1 MN
      rw [← hF] at q0 MN
      obtain ⟨w2, hw2⟩ : ∃ w2, w2 = w1.setCell ⟨r, 1, none⟩ (.pointer (some ⟨p, 0, none⟩)) := ⟨_, rfl⟩
      have a0 : w2.cell? ⟨r, 0, none⟩ = some (.pointer (some ⟨g, 0, none⟩)) := by rw [hw2, cell_other (by simp)]; exact d0
      have a2 : w2.cell? ⟨r, 2, none⟩ = some (.pointer (some ⟨q, 0, none⟩)) := by rw [hw2, cell_other (by simp)]; exact d2
      have p0' : w2.cell? ⟨q, 0, none⟩ = some (.int .i64 (F : Nat)) := by rw [hw2, cell_other fun e => by injection e with e; exact nq e.symm]; exact q0
      have p1' : w2.cell? ⟨q, 1, none⟩ = some (.slice ea el ec) := by rw [hw2, cell_other fun e => by injection e with e; exact nq e.symm]; exact q1
      have hw2' := hw2
      rw [← hw2] at MN
      have KK := Lib.hid (And.intro k1 (And.intro kU (And.intro k2 (And.intro k3 (And.intro k4 k5)))))
      have HCF2 := Lib.hid (show c = true → V'.fused = false from fun e => k6.trans (HCF.out e))
      clear k6
      have HR := Lib.hid (And.intro hel (And.intro hF (And.intro rs1 dl1)))
      have ED := Lib.hid eD
      clear k1 kU k2 k3 k4 k5 er eD RQ sz rs1 dl1 er1 dz hel hF hv1
      go_upto_region 9 with (fail)
      rw [← hw2]
      obtain ⟨b, hb⟩ : ∃ b, b = w2.heap.size := ⟨_, rfl⟩
      have bA : Below w2.heap.size w2 (w2.alloc (.cells #[.int .i64 (F : Nat), .slice ea el ec, .bool false] 31)) := (Below.refl _ _).alloc (Nat.le_refl _) _
      have eb := bA.block r (by have := HR.out.2.2.1; rw [hw2]; simpa using this)
      have b2 : (w2.alloc (.cells #[.int .i64 (F : Nat), .slice ea el ec, .bool false] 31)).cell? ⟨r, 2, none⟩ = some (.pointer (some ⟨q, 0, none⟩)) := (World.cell?_of_block eb).trans a2
      have bz : (w2.alloc (.cells #[.int .i64 (F : Nat), .slice ea el ec, .bool false] 31)).frozen? ⟨r, 2, none⟩ = false := (World.frozen?_of_block eb).trans (by rw [hw2]; simp only [World.frozen?_setCell]; exact z2)
      clear hw2 hw2' bA eb
      go_region
      rw [← hb] at MN ⊢
      obtain ⟨w3, hw3⟩ : ∃ w3, w3 = ((w2.alloc (.cells #[.int .i64 (F : Nat), .slice ea el ec, .bool false] 31)).setCell ⟨r, 2, none⟩ (.pointer (some ⟨b, 0, none⟩))).drew := ⟨_, rfl⟩
      rw [← hw3] at MN ⊢
      clear hw3 hb b2 bz a0 a2 p0' p1' q0 q1 d0 d1 d2 d3 z1 z2 z3 c0
      have m0 := MN.out.c0
      have m1 := MN.out.c1
      have m2 := MN.out.c2
      have m3 := MN.out.c3
      have mz2 := MN.out.z 2
      have mz3 := MN.out.z 3
      have nu : ¬ U r := fun e => (KK.out.2.1 r e).elim P0.out.ru fun e => by have := P0.out.rs; omega
      have W3 : Hid (WS w3 U B p g N V' LL false) := Lib.hid (KK.out.1.chg MN.out.chg fun j e => ⟨e ▸ nu, e ▸ P0.out.br⟩)
      have D3 : Hid (∀ j, D j ∨ j = b → j < w3.heap.size) := Lib.hid fun j hj => hj.elim (fun e => by have := HR.out.2.2.2 j e; have := MN.out.chg.size; omega) fun e => by rw [e]; exact MN.out.lt
      have SS : Hid (Calls Tryz.prog 15 #[.pointer (some ⟨p, 0, none⟩), .pointer (some ⟨b, 0, none⟩)] w3 fun e w' => ∃ x : Bool, e = .returned (.bool x) ∧ (x = true ↔ LL = R) ∧ Below w3.heap.size w3 w') := Lib.hid (same15 w3 U B p g N V' LL false W3.out (by have := P0.out.lx; have := HK.out.1; unfold Sm; omega) (fun k => D k ∨ k = b) b R false MN.out.rl D3.out (by have := P0.out.nx; have := HK.out.1; unfold Sm; omega))
      have ME : Hid (∀ y, Below w3.heap.size w3 y → Mid w1 y D r g p b m R) := Lib.hid fun y hy => MN.out.below HR.out.2.2.1 HR.out.2.2.2 hy
      have R2 : Hid (∀ y q2 R2 ro, Below w3.heap.size w3 y → RL wr D q2 R2 ro → RL y (fun k => D k ∨ k = b) q2 R2 ro) := Lib.hid fun y q2 R2 ro hy hr => hr.move (fun j hj => .inl hj) fun j hj => ((hy.block j (D3.out j (.inl hj))).trans (MN.out.chg.block j (HR.out.2.2.2 j hj) fun e => P0.out.rd (e ▸ hj))).trans (ED.out j hj)
      have FIN : Hid (∀ w3 wf q', Mid w1 w3 D r g p b m R → Chg w3 wf (fun k => k = r) → wf.cell? ⟨r, 0, none⟩ = w3.cell? ⟨r, 0, none⟩ → wf.cell? ⟨r, 1, none⟩ = w3.cell? ⟨r, 1, none⟩ → wf.cell? ⟨r, 2, none⟩ = some (.pointer (some ⟨q', 0, none⟩)) → wf.cell? ⟨r, 3, none⟩ = some (.pointer none) → (∀ i, wf.frozen? ⟨r, i, none⟩ = w3.frozen? ⟨r, i, none⟩) → RL w3 (fun k => D k ∨ k = b) q' LL false → Run wf B r g k c ∧ Below B w wf ∧ Calls Tryz.prog 15 #[.pointer (some ⟨p, 0, none⟩), .pointer (some ⟨q', 0, none⟩)] wf fun e w' => e = .returned (.bool true) ∧ (Run w' B r g k c ∧ w'.cell? ⟨r, 3, none⟩ = some (.pointer none)) ∧ Below B w w') := Lib.hid fun w3 wf q' M h1 h2 h3 h4 h5 h6 h7 => by
        obtain ⟨x, y⟩ := po_end P0.out KK.out.1 KK.out.2.1 KK.out.2.2.1 KK.out.2.2.2.1 KK.out.2.2.2.2.1 KK.out.2.2.2.2.2 M h1 h2 h3 h4 h5 h6 h7 c HCF2.out
        have y := HB.out.trans y
        refine ⟨x, y, (run_same x HK.out.1 (h3.trans M.c1) h4 h5).mono ?_⟩
        rintro e w' ⟨rfl, bl⟩
        exact ⟨rfl, ⟨x.below bl, (World.cell?_of_block (bl.block r (cell_lt h5))).trans h5⟩, y.trans (bl.mono (Run.hi x))⟩
      clear nu MN W3 KK D3 ED hi hi6
      rcases P0.out.cand with ⟨hm, hLR⟩ | ⟨q2, R2', hm, e2, e3, e4⟩
      · subst hm hLR
        have M3 := ME.out w3 (Below.refl _ _)
        have FF := Lib.hid (FIN.out w3 (w3.setCell ⟨r, 3, none⟩ (.pointer none)) b M3 ((Chg.refl w3 (fun k => k = r)).setCell rfl _) (by rw [cell_other (by simp)]) (by rw [cell_other (by simp)]) (by rw [cell_other (by simp)]; exact M3.c2) (cell_same M3.c3) (fun i => by simp only [World.frozen?_setCell]) M3.rl).2.2
        clear M3
        go_wp2_with fail
        go_at_call 15
        refine (FF.out).mono ?_
        rintro e w9 ⟨rfl, x, y⟩
        have E := Lib.hid (And.intro x y)
        clear x y
        go_wp2_with fail
        go_ret
        exact ⟨rfl, E.out⟩
      · subst hm
        by_cases hLR : LL = R
        · have SS1 : Hid (Calls Tryz.prog 15 #[.pointer (some ⟨p, 0, none⟩), .pointer (some ⟨b, 0, none⟩)] w3 fun e w' => e = .returned (.bool true) ∧ Below w3.heap.size w3 w') := Lib.hid (by
            refine (SS.out).mono ?_
            rintro e w' ⟨x, rfl, hx, bl⟩
            rw [hx.2 hLR]; exact ⟨rfl, bl⟩)
          have HLR := Lib.hid hLR
          clear hLR SS e2 e3 e4
          go_wp2_with fail
          go_at_call 15
          refine (SS1.out).mono ?_
          rintro e w4 ⟨rfl, b4⟩
          have M4 := ME.out w4 b4
          have FF := Lib.hid (FIN.out w4 (w4.setCell ⟨r, 3, none⟩ (.pointer none)) b M4 ((Chg.refl w4 (fun k => k = r)).setCell rfl _) (by rw [cell_other (by simp)]) (by rw [cell_other (by simp)]) (by rw [cell_other (by simp)]; exact M4.c2) (cell_same M4.c3) (fun i => by simp only [World.frozen?_setCell]) (by rw [HLR.out]; exact M4.rl)).2.2
          have n1 := M4.c1
          have n2 := M4.c2
          have n3 := M4.c3
          have nz3 := M4.z 3
          clear M4 b4
          go_wp2_with fail
          go_at_call 15
          refine (FF.out).mono ?_
          rintro e w9 ⟨rfl, x, y⟩
          have E := Lib.hid (And.intro x y)
          clear x y
          go_wp2_with fail
          go_ret
          exact ⟨rfl, E.out⟩
        · have SS1 : Hid (Calls Tryz.prog 15 #[.pointer (some ⟨p, 0, none⟩), .pointer (some ⟨b, 0, none⟩)] w3 fun e w' => e = .returned (.bool false) ∧ Below w3.heap.size w3 w') := Lib.hid (by
            refine (SS.out).mono ?_
            rintro e w' ⟨x, rfl, hx, bl⟩
            have : x = false := by
              cases x with
              | false => rfl
              | true => exact absurd (hx.1 rfl) hLR
            rw [this]; exact ⟨rfl, bl⟩)
          have hLR2 : LL = R2' := e4.resolve_left hLR
          have HLR := Lib.hid (And.intro hLR2 e2)
          clear hLR hLR2 SS e2 e3 e4
          go_wp2_with fail
          go_at_call 15
          refine (SS1.out).mono ?_
          rintro e w4 ⟨rfl, b4⟩
          have M4 := ME.out w4 b4
          have FF := Lib.hid (FIN.out w4 ((w4.setCell ⟨r, 2, none⟩ (.pointer (some ⟨q2, 0, none⟩))).setCell ⟨r, 3, none⟩ (.pointer none)) q2 M4 (((Chg.refl w4 (fun k => k = r)).setCell rfl _).setCell rfl _) (by rw [cell_other (by simp), cell_other (by simp)]) (by rw [cell_other (by simp), cell_other (by simp)]) (by rw [cell_other (by simp), cell_same M4.c2]) (cell_same (by rw [cell_other (by simp)]; exact M4.c3)) (fun i => by simp only [World.frozen?_setCell]) (by rw [HLR.out.1]; exact R2.out w4 q2 R2' false b4 HLR.out.2)).2.2
          have n1 := M4.c1
          have n2 := M4.c2
          have n3 := M4.c3
          have nz2 := M4.z 2
          have nz3 := M4.z 3
          clear M4 b4
          go_wp2_with fail
          go_at_call 15
          refine (FF.out).mono ?_
          rintro e w9 ⟨rfl, x, y⟩
          have E := Lib.hid (And.intro x y)
          clear x y
          go_wp2_with fail
          go_ret
          exact ⟨rfl, E.out⟩
theorem open8 (w : World) (B r g k : Nat) (c : Bool) (h : Pre w B r g k c) (hk : k ≤ 100000) (Q : Nat → Prop) (hQ : ∀ j, Q j → j < B) (va : Option Addr) (vc : Nat) (ch : List Nat) (hv : Src w Q (.slice va ch.length vc) ch) (hby : ∀ x ∈ ch, x < 256) :
    Calls Tryz.prog 8 #[.pointer (some ⟨r, 0, none⟩), .slice va ch.length vc] w fun e w' => e = .returned (.bool true) ∧ Run w' B r g k c ∧ Below B w w' := by
  refine (open8x w B r g k c h hk Q hQ va vc ch hv hby).mono ?_
  rintro e w' ⟨rfl, x, y⟩
  exact ⟨rfl, x.1, y⟩
end X13
end Go.Proofs.YtdaknlmnelfedaaGreatDoor
