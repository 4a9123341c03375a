/- Trim's refusals. The law's run: what it may be; one step of it. -/
import Derived.Test.YtdaknlmnelfedaaGreatDoorXb
namespace Go.Proofs.YtdaknlmnelfedaaGreatDoor
open Go.RowKit Go.Maps Go.ChangeMaps Go.MapKept
namespace X8
open Jb Jm Jd Jw Jx Jn Je Jf Jg Jh Jk Jc Jl Jo Jq Jr J1 J2 J3 J4 W1 W2 W3 V1 V2 V3 V4 V5 V6 V7 V8 V9 Va Vb Vc Vd Ve Vf Vg X1 X3 X4 X5 X6 X7

theorem Trim_over (w : World) (U : Nat → Prop) (B p g N : Nat) (V : Vw) (L : Lg) (h : WS w U B p g N V L true) (n : Int) :
    Calls Tryz.prog 21 #[.pointer (some ⟨p, 0, none⟩), .int .i64 n] w fun e w' => e = .returned (.int .i64 8) ∧ w' = w := by
  have OV := Lib.hid (ws_over h)
  clear h
  go_enter Tryz.func21, Tryz.ntmps21
  go_wp2_with (first | (go_at_call 34; refine (OV.out).mono ?_; rintro e w ⟨rfl, rfl⟩))
  go_ret
  first | trivial | exact ⟨rfl, rfl⟩
theorem Trim_bad (w : World) (U : Nat → Prop) (B p g N : Nat) (V : Vw) (L : Lg) (h : WS w U B p g N V L false) (hs : Sm L.nx) (n : Int) (hn : n < (L.first : Int) ∨ (L.nx : Int) < n) :
    Calls Tryz.prog 21 #[.pointer (some ⟨p, 0, none⟩), .int .i64 n] w fun e w' => e = .returned (.int .i64 3) ∧ Below w.heap.size w w' := by
  have OV := Lib.hid (ws_over h)
  have NX := Lib.hid (ws_next h hs)
  have f1 := ws_first h
  obtain ⟨F, hF⟩ : ∃ F, F = L.first := ⟨_, rfl⟩
  obtain ⟨X, hX⟩ : ∃ X, X = L.nx := ⟨_, rfl⟩
  rw [← hF] at f1 hn
  rw [← hX] at NX hn
  by_cases h1 : n < (F : Int)
  · have d1 : decide (n < (F : Int)) = true := decide_eq_true h1
    clear h hs hn hF hX
    go_enter Tryz.func21, Tryz.ntmps21
    go_wp2_with (first | (go_at_call 34; refine (OV.out).mono ?_; rintro e w ⟨rfl, rfl⟩))
    go_ret
    exact ⟨rfl, Below.refl _ _⟩
  · have d1 : decide (n < (F : Int)) = false := decide_eq_false h1
    have q2 : (X : Int) < n := by omega
    have d2 : decide (n > (X : Int)) = true := decide_eq_true q2
    clear h hs hn hF hX
    go_enter Tryz.func21, Tryz.ntmps21
    go_wp2_with (first | (go_at_call 34; refine (OV.out).mono ?_; rintro e w ⟨rfl, rfl⟩) | (go_at_call 18; refine (NX.out).mono ?_; rintro e x ⟨rfl, hx⟩))
    go_ret
    exact ⟨rfl, hx⟩
/-- The law's run in memory: the disk, the log, the document's log, and perhaps another. -/
structure RN (w : World) (U D : Nat → Prop) (B r p g q N : Nat) (V : Vw) (L R : Lg) (ov rov : Bool) (m : Option Nat) : Prop where
  c0 : w.cell? ⟨r, 0, none⟩ = some (.pointer (some ⟨g, 0, none⟩))
  c1 : w.cell? ⟨r, 1, none⟩ = some (.pointer (some ⟨p, 0, none⟩))
  c2 : w.cell? ⟨r, 2, none⟩ = some (.pointer (some ⟨q, 0, none⟩))
  c3 : w.cell? ⟨r, 3, none⟩ = some (.pointer (m.map fun x => ⟨x, 0, none⟩))
  z : ∀ i, w.frozen? ⟨r, i, none⟩ = false
  ws : WS w U B p g N V L ov
  rl : RL w D q R rov
  br : B ≤ r
  ru : ¬ U r
  rd : ¬ D r
  rs : r < w.heap.size
  du : ∀ k, D k → ¬ U k
  dl : ∀ k, D k → k < w.heap.size
end X8
end Go.Proofs.YtdaknlmnelfedaaGreatDoor
namespace Go.Proofs.YtdaknlmnelfedaaGreatDoor
open Go.RowKit Go.Maps Go.ChangeMaps Go.MapKept
namespace X9
open Jb Jm Jd Jw Jx Jn Je Jf Jg Jh Jk Jc Jl Jo Jq Jr J1 J2 J3 J4 W1 W2 W3 V1 V2 V3 V4 V5 V6 V7 V8 V9 Va Vb Vc Vd Ve Vf Vg X1 X3 X4 X5 X6 X7 X8

theorem rn_step {w w4 w6 w7 : World} {U D U' D' : Nat → Prop} {B r p g q N : Nat} {V : Vw} {L R : Lg} {ov rov : Bool} {m : Option Nat} (h : RN w U D B r p g q N V L R ov rov m)
    {p' N' q' : Nat} {V' : Vw} {L' R' : Lg} {ov' rov' : Bool} {m' : Option Nat} (c4 : Chg w w4 U) (ws : WS w4 U' B p' g N' V' L' ov') (hU : ∀ k, U' k → U k ∨ w.heap.size ≤ k) (b6 : Below w4.heap.size w4 w6) (rl : RL w6 D' q' R' rov') (hD : ∀ k, D' k → (D k ∨ w4.heap.size ≤ k) ∧ k < w6.heap.size)
    (c7 : Chg w6 w7 (fun k => k = r)) (e0 : w7.cell? ⟨r, 0, none⟩ = some (.pointer (some ⟨g, 0, none⟩))) (e1 : w7.cell? ⟨r, 1, none⟩ = some (.pointer (some ⟨p', 0, none⟩))) (e2 : w7.cell? ⟨r, 2, none⟩ = some (.pointer (some ⟨q', 0, none⟩))) (e3 : w7.cell? ⟨r, 3, none⟩ = some (.pointer (m'.map fun x => ⟨x, 0, none⟩)))
    (ez : ∀ i, w7.frozen? ⟨r, i, none⟩ = false) : RN w7 U' D' B r p' g q' N' V' L' R' ov' rov' m' ∧ Below B w w7 := by
  have s4 := c4.size
  have s6 := b6.size
  have s7 := c7.size
  have hrs := h.rs
  have hi := h.ws.en.hi
  have nu : ¬ U' r := fun e => (hU r e).elim h.ru fun e => by omega
  have nd : ¬ D' r := fun e => (hD r e).1.elim h.rd fun e => by omega
  refine ⟨⟨e0, e1, e2, e3, ez, (ws.below b6).chg c7 fun k e => ⟨e ▸ nu, e ▸ h.br⟩, rl.move (fun _ hk => hk) fun k hk => c7.block k (hD k hk).2 fun e => nd (e ▸ hk), h.br, nu, nd, by omega, fun k hk hu => ?_, fun k hk => by have := (hD k hk).2; omega⟩, ?_⟩
  · have hl := ws.lt k hu
    rcases (hD k hk).1 with e | e
    · rcases hU k hu with e' | e'
      · exact h.du k e e'
      · have := h.dl k e; omega
    · omega
  · exact ((c4.below (fun k hk _ => h.ws.ge k hk) hi).trans (b6.mono (by omega))).trans (c7.below (fun k hk _ => hk ▸ h.br) (by omega))
/-- The law's run, in one of two states. -/
structure Stt (w : World) (U D : Nat → Prop) (B r p g q N : Nat) (V : Vw) (L : Lg) (ov : Bool) (m : Option Nat) (k : Nat) (c : Bool) : Prop where
  rn : RN w U D B r p g q N V L L ov ov m
  lv : ov = false → m = none ∧ Cln V L ∧ V.down = false
  gn : ov = true → ∃ q2 L2, m = some q2 ∧ L2.nx ≤ k ∧ RL w D q2 L2 false ∧ V.down = true ∧ (Dirt V L ∨ Dirt V L2)
  nx : L.nx ≤ k
  us : V.used ≤ k * 1048576
  nn : N ≤ 2 * k
  cc : c = true → ov = false ∧ V.fused = false
def Run (w : World) (B r g k : Nat) (c : Bool := false) : Prop := ∃ U D p q N V L ov m, Stt w U D B r p g q N V L ov m k c
theorem RN.below {w w' : World} {U D : Nat → Prop} {B r p g q N : Nat} {V : Vw} {L R : Lg} {ov rov : Bool} {m : Option Nat} (h : RN w U D B r p g q N V L R ov rov m) (b : Below w.heap.size w w') : RN w' U D B r p g q N V L R ov rov m := by
  have er := b.block r h.rs
  exact ⟨(World.cell?_of_block er).trans h.c0, (World.cell?_of_block er).trans h.c1, (World.cell?_of_block er).trans h.c2, (World.cell?_of_block er).trans h.c3, fun i => (World.frozen?_of_block er).trans (h.z i), h.ws.below b, h.rl.move (fun _ hk => hk) fun k hk => b.block k (h.dl k hk), h.br, h.ru, h.rd, Nat.lt_of_lt_of_le h.rs b.size, h.du, fun k hk => Nat.lt_of_lt_of_le (h.dl k hk) b.size⟩
theorem Stt.below {w w' : World} {U D : Nat → Prop} {B r p g q N : Nat} {V : Vw} {L : Lg} {ov : Bool} {m : Option Nat} {k : Nat} {c : Bool} (h : Stt w U D B r p g q N V L ov m k c) (b : Below w.heap.size w w') : Stt w' U D B r p g q N V L ov m k c :=
  ⟨RN.below h.rn b, h.lv, fun e => by
    obtain ⟨q2, L2, e1, e2, e3, e4, e5⟩ := h.gn e
    exact ⟨q2, L2, e1, e2, e3.move (fun _ hk => hk) fun j hj => b.block j (h.rn.dl j hj), e4, e5⟩, h.nx, h.us, h.nn, h.cc⟩
theorem Run.below {w w' : World} {B r g k : Nat} {c : Bool} (h : Run w B r g k c) (b : Below w.heap.size w w') : Run w' B r g k c := by
  obtain ⟨U, D, p, q, N, V, L, ov, m, h⟩ := h
  exact ⟨U, D, p, q, N, V, L, ov, m, h.below b⟩
/-- Nothing has come of it. -/
theorem run_keep {w w4 w6 : World} {U D U' : Nat → Prop} {B r p g q N N' : Nat} {V V' : Vw} {L : Lg} {ov : Bool} {m : Option Nat} {k k' : Nat} {c : Bool} (h : Stt w U D B r p g q N V L ov m k c) (c4 : Chg w w4 U) (ws : WS w4 U' B p g N' V' L ov) (hU : ∀ k, U' k → U k ∨ w.heap.size ≤ k) (b6 : Below w4.heap.size w4 w6)
    (hl : ov = false → Cln V' L ∧ V'.down = false) (hg : ov = true → V' = V) (hk : k ≤ k') (hu : V'.used ≤ k' * 1048576) (hn : N' ≤ 2 * k') (hf : c = true → V'.fused = false) : Run w6 B r g k' c ∧ Below B w w6 := by
  have er : w6.heap[r]? = w.heap[r]? := (b6.block r (by have := c4.size; have := h.rn.rs; omega)).trans (c4.block r h.rn.rs h.rn.ru)
  have eD : ∀ j, D j → w6.heap[j]? = w.heap[j]? := fun j hj => (b6.block j (by have := c4.size; have := h.rn.dl j hj; omega)).trans (c4.block j (h.rn.dl j hj) (h.rn.du j hj))
  have s4 := c4.size
  have s6 := b6.size
  obtain ⟨x, y⟩ := rn_step h.rn c4 ws hU b6 (h.rn.rl.move (w' := w6) (D' := D) (fun _ hk => hk) eD) (fun j hj => ⟨.inl hj, by have := h.rn.dl j hj; omega⟩) (Chg.refl _ _) ((World.cell?_of_block er).trans h.rn.c0) ((World.cell?_of_block er).trans h.rn.c1) ((World.cell?_of_block er).trans h.rn.c2) ((World.cell?_of_block er).trans h.rn.c3) fun i => (World.frozen?_of_block er).trans (h.rn.z i)
  refine ⟨⟨_, _, _, _, _, _, _, _, _, x, fun e => ⟨(h.lv e).1, hl e⟩, fun e => ?_, Nat.le_trans h.nx hk, hu, hn, fun e => ⟨(h.cc e).1, hf e⟩⟩, y⟩
  obtain ⟨q2, L2, e1, e2, e3, e4, e5⟩ := h.gn e
  rw [hg e]
  exact ⟨q2, L2, e1, by omega, e3.move (fun _ hk => hk) eD, e4, e5⟩
/-- It was done. -/
theorem run_done {w w4 w6 w7 : World} {U D U' D' : Nat → Prop} {B r p g q N N' q' : Nat} {V V' : Vw} {L L' : Lg} {ov : Bool} {m : Option Nat} {k k' : Nat} {c : Bool} (h : Stt w U D B r p g q N V L ov m k c) (c4 : Chg w w4 U) (ws : WS w4 U' B p g N' V' L' false) (hU : ∀ k, U' k → U k ∨ w.heap.size ≤ k) (b6 : Below w4.heap.size w4 w6) (rl : RL w6 D' q' L' false) (hD : ∀ k, D' k → (D k ∨ w4.heap.size ≤ k) ∧ k < w6.heap.size)
    (c7 : Chg w6 w7 (fun k => k = r)) (e2 : w7.cell? ⟨r, 2, none⟩ = some (.pointer (some ⟨q', 0, none⟩))) (e3 : w7.cell? ⟨r, 3, none⟩ = some (.pointer none)) (e0 : w7.cell? ⟨r, 0, none⟩ = w6.cell? ⟨r, 0, none⟩) (e1 : w7.cell? ⟨r, 1, none⟩ = w6.cell? ⟨r, 1, none⟩) (ez : ∀ i, w7.frozen? ⟨r, i, none⟩ = w6.frozen? ⟨r, i, none⟩)
    (hl : Cln V' L' ∧ V'.down = false) (hx : L'.nx ≤ k') (hu : V'.used ≤ k' * 1048576) (hn : N' ≤ 2 * k') (hf : c = true → V'.fused = false) : Run w7 B r g k' c ∧ Below B w w7 := by
  have er : w6.heap[r]? = w.heap[r]? := (b6.block r (by have := c4.size; have := h.rn.rs; omega)).trans (c4.block r h.rn.rs h.rn.ru)
  obtain ⟨x, y⟩ := rn_step (m' := none) h.rn c4 ws hU b6 rl hD c7 (e0.trans ((World.cell?_of_block er).trans h.rn.c0)) (e1.trans ((World.cell?_of_block er).trans h.rn.c1)) e2 e3 fun i => (ez i).trans ((World.frozen?_of_block er).trans (h.rn.z i))
  exact ⟨⟨_, _, _, _, _, _, _, _, _, x, fun _ => ⟨rfl, hl⟩, fun e => (by cases e), hx, hu, hn, fun e => ⟨rfl, hf e⟩⟩, y⟩
/-- It was lost. -/
theorem run_lost {w w4 w6 w7 : World} {U D U' D' : Nat → Prop} {B r p g q N N' q' q2 : Nat} {V V' : Vw} {L L2 : Lg} {ov : Bool} {m : Option Nat} {k k' : Nat} {c : Bool} (h : Stt w U D B r p g q N V L ov m k c) (c4 : Chg w w4 U) (ws : WS w4 U' B p g N' V' L true) (hU : ∀ k, U' k → U k ∨ w.heap.size ≤ k) (b6 : Below w4.heap.size w4 w6) (rl : RL w6 D' q' L true) (rl2 : RL w6 D' q2 L2 false) (hD : ∀ k, D' k → (D k ∨ w4.heap.size ≤ k) ∧ k < w6.heap.size)
    (c7 : Chg w6 w7 (fun k => k = r)) (e2 : w7.cell? ⟨r, 2, none⟩ = some (.pointer (some ⟨q', 0, none⟩))) (e3 : w7.cell? ⟨r, 3, none⟩ = some (.pointer (some ⟨q2, 0, none⟩))) (e0 : w7.cell? ⟨r, 0, none⟩ = w6.cell? ⟨r, 0, none⟩) (e1 : w7.cell? ⟨r, 1, none⟩ = w6.cell? ⟨r, 1, none⟩) (ez : ∀ i, w7.frozen? ⟨r, i, none⟩ = w6.frozen? ⟨r, i, none⟩)
    (hd : V'.down = true) (hl : Dirt V' L ∨ Dirt V' L2) (hx2 : L2.nx ≤ k') (hx : L.nx ≤ k') (hu : V'.used ≤ k' * 1048576) (hn : N' ≤ 2 * k') (hf : c = true → False) : Run w7 B r g k' c ∧ Below B w w7 := by
  have er : w6.heap[r]? = w.heap[r]? := (b6.block r (by have := c4.size; have := h.rn.rs; omega)).trans (c4.block r h.rn.rs h.rn.ru)
  obtain ⟨x, y⟩ := rn_step (m' := some q2) h.rn c4 ws hU b6 rl hD c7 (e0.trans ((World.cell?_of_block er).trans h.rn.c0)) (e1.trans ((World.cell?_of_block er).trans h.rn.c1)) e2 e3 fun i => (ez i).trans ((World.frozen?_of_block er).trans (h.rn.z i))
  exact ⟨⟨_, _, _, _, _, _, _, _, _, x, fun e => (by cases e), fun _ => ⟨q2, L2, rfl, hx2, rl2.move (fun _ hk => hk) fun j hj => c7.block j (hD j hj).2 fun e => x.rd (e ▸ hj), hd, hl⟩, hx, hu, hn, fun e => (hf e).elim⟩, y⟩
theorem rl_newo {x : World} {D : Nat → Prop} {F : Nat} {sv : Value} {es : List (List Nat)} {ov : Bool} (hD : ∀ k, D k → k < x.heap.size) (h : RR x D sv es) (h1 : ∀ b ∈ es, ∀ z ∈ b, z < 256) (h2 : ∀ b ∈ es, b.length ≤ 140737488355328) :
    RL (x.alloc (.cells #[.int .i64 (F : Nat), sv, .bool ov] 31)) (fun k => D k ∨ k = x.heap.size) x.heap.size ⟨F, es⟩ ov := by
  have hb : Below x.heap.size x (x.alloc (.cells #[.int .i64 (F : Nat), sv, .bool ov] 31)) := (Below.refl _ x).alloc (Nat.le_refl _) _
  exact ⟨new_cell _ _ _ 0 _ rfl, ⟨sv, new_cell _ _ _ 1 _ rfl, h.move (fun k hk => .inl hk) fun k hk => hb.block k (hD k hk)⟩, new_cell _ _ _ 2 _ rfl, .inr rfl, h1, h2⟩
/-- The end of a call that was lost. -/
theorem lost_end {w w4 w7 : World} {U D U' D' : Nat → Prop} {B r p g q N N' q2 : Nat} {V V' : Vw} {L L2 : Lg} {ov : Bool} {m : Option Nat} {k k' : Nat} {c : Bool} {sv : Value} {u2 u3 : Value} (h : Stt w U D B r p g q N V L ov m k c) (c4 : Chg w w4 U) (ws : WS w4 U' B p g N' V' L true) (hU : ∀ k, U' k → U k ∨ w.heap.size ≤ k) (b6 : Below w4.heap.size w4 w7) (rl2 : RL w7 D' q2 L2 false)
    (hD : ∀ k, D' k → (D k ∨ w4.heap.size ≤ k) ∧ k < w7.heap.size) (hS : ∀ j, D j → D' j) (er : RR w7 D sv L.es) (d2 : w7.cell? ⟨r, 2, none⟩ = some u2) (d3 : w7.cell? ⟨r, 3, none⟩ = some u3) (hd : V'.down = true) (hl : Dirt V' L ∨ Dirt V' L2) (hk : k ≤ k') (hx2 : L2.nx ≤ k') (hu : V'.used ≤ k' * 1048576) (hn : N' ≤ 2 * k') (hf : c = true → False) :
    Run (((w7.alloc (.cells #[.int .i64 (L.first : Nat), sv, .bool true] 31)).setCell ⟨r, 2, none⟩ (.pointer (some ⟨w7.heap.size, 0, none⟩))).setCell ⟨r, 3, none⟩ (.pointer (some ⟨q2, 0, none⟩))).drew B r g k' c ∧ Below B w (((w7.alloc (.cells #[.int .i64 (L.first : Nat), sv, .bool true] 31)).setCell ⟨r, 2, none⟩ (.pointer (some ⟨w7.heap.size, 0, none⟩))).setCell ⟨r, 3, none⟩ (.pointer (some ⟨q2, 0, none⟩))).drew := by
  have s4 := c4.size
  have s7 := b6.size
  have hrs := h.rn.rs
  have bA : Below w7.heap.size w7 (w7.alloc (.cells #[.int .i64 (L.first : Nat), sv, .bool true] 31)) := (Below.refl _ _).alloc (Nat.le_refl _) _
  have hz : (w7.alloc (.cells #[.int .i64 (L.first : Nat), sv, .bool true] 31)).heap.size = w7.heap.size + 1 := by simp
  have R1 := rl_newo (F := L.first) (ov := true) (fun k hk => (hD k hk).2) (er.move (w' := w7) hS fun _ _ => rfl) h.rn.rl.byte h.rn.rl.len
  obtain ⟨wa, hwa⟩ : ∃ wa, wa = w7.alloc (.cells #[.int .i64 (L.first : Nat), sv, .bool true] 31) := ⟨_, rfl⟩
  rw [← hwa] at bA hz R1 ⊢
  have rb : r < w7.heap.size := by omega
  have c2 : wa.cell? ⟨r, 2, none⟩ = some u2 := (World.cell?_of_block (bA.block r rb)).trans d2
  have c3 : wa.cell? ⟨r, 3, none⟩ = some u3 := (World.cell?_of_block (bA.block r rb)).trans d3
  have hp : Chg wa ((wa.setCell ⟨r, 2, none⟩ (.pointer (some ⟨w7.heap.size, 0, none⟩))).setCell ⟨r, 3, none⟩ (.pointer (some ⟨q2, 0, none⟩))).drew (fun k => k = r) := (((Chg.refl wa (fun k => k = r)).setCell rfl _).setCell rfl _).drew
  refine run_lost h c4 ws hU (b6.trans (bA.mono s7)) R1 (rl2.move (fun _ hk => .inl hk) fun k hk => bA.block k (hD k hk).2) (fun j hj => hj.elim (fun e => ⟨(hD j e).1, by have := (hD j e).2; omega⟩) fun e => ⟨.inr (by omega), by omega⟩) hp ?_ ?_ ?_ ?_ ?_ hd hl hx2 (Nat.le_trans h.nx hk) hu hn hf
  · show World.cell? ((wa.setCell ⟨r, 2, none⟩ (.pointer (some ⟨w7.heap.size, 0, none⟩))).setCell ⟨r, 3, none⟩ (.pointer (some ⟨q2, 0, none⟩))) _ = _
    rw [cell_other (by simp), cell_same c2]
  · show World.cell? ((wa.setCell ⟨r, 2, none⟩ (.pointer (some ⟨w7.heap.size, 0, none⟩))).setCell ⟨r, 3, none⟩ (.pointer (some ⟨q2, 0, none⟩))) _ = _
    exact cell_same (by rw [cell_other (by simp)]; exact c3)
  · show World.cell? ((wa.setCell ⟨r, 2, none⟩ (.pointer (some ⟨w7.heap.size, 0, none⟩))).setCell ⟨r, 3, none⟩ (.pointer (some ⟨q2, 0, none⟩))) _ = _
    rw [cell_other (by simp), cell_other (by simp)]
  · show World.cell? ((wa.setCell ⟨r, 2, none⟩ (.pointer (some ⟨w7.heap.size, 0, none⟩))).setCell ⟨r, 3, none⟩ (.pointer (some ⟨q2, 0, none⟩))) _ = _
    rw [cell_other (by simp), cell_other (by simp)]
  · intro i
    show World.frozen? ((wa.setCell ⟨r, 2, none⟩ (.pointer (some ⟨w7.heap.size, 0, none⟩))).setCell ⟨r, 3, none⟩ (.pointer (some ⟨q2, 0, none⟩))) _ = _
    simp only [World.frozen?_setCell]
/-- What an Append of any bytes answers, and leaves. -/
def AppY (ov : Bool) (V : Vw) (L : Lg) (bs : List Nat) (er : Nat) (V' : Vw) (L' : Lg) (ov' : Bool) : Prop :=
  (ckE ov bs.length ≠ 0 ∧ er = ckE ov bs.length ∧ V' = V ∧ L' = L ∧ ov' = ov) ∨ (ov = false ∧ ckE ov bs.length = 0 ∧ bs.length ≤ 1048576 ∧ App V L bs er V' L' ov')
theorem append_any (w : World) (U : Nat → Prop) (B p g N : Nat) (V : Vw) (L : Lg) (ov : Bool) (h : WS w U B p g N V L ov) (hc : ov = false → Cln V L ∧ V.down = false) (hs : Sm L.nx) (v : Value) (bs : List Nat) (R : Nat → Prop) (hR : ∀ k, R k → ¬ U k ∧ k < w.heap.size) (hv : Src w R v bs) (hcap : ∀ c, v = .slice none bs.length c → c = 0) (hby : ∀ x ∈ bs, x < 256)
    (hN : N ≤ 140737488350000) (hB : V.used + 1048576 ≤ 140737488355328) (hn : (L.es.length + 1) * 24 ≤ 140737488355328) :
    Calls Tryz.prog 17 #[.pointer (some ⟨p, 0, none⟩), v] w fun e w' => ∃ (er : Nat) (V' : Vw) (L' : Lg) (ov' : Bool), e = .returned (.int .i64 (er : Nat)) ∧ WS w' (New U w w') B p g (N + 2) V' L' ov' ∧ Chg w w' U ∧ AppY ov V L bs er V' L' ov' := by
  cases ov with
  | true =>
    refine (Append_over w U B p g N V L h v).mono ?_
    rintro e w' ⟨rfl, rfl⟩
    exact ⟨8, V, L, true, rfl, (h.mono (by omega)).new h.en.hi, Chg.refl _ _, .inl ⟨by unfold ckE; rw [if_pos rfl]; decide, by unfold ckE; rw [if_pos rfl], rfl, rfl, rfl⟩⟩
  | false =>
    obtain ⟨hc, hd⟩ := hc rfl
    by_cases hl : bs.length < 1 ∨ 1048576 < bs.length
    · obtain ⟨a, c, rfl⟩ := hv.forms
      refine (Append_bad w U B p g N V L h a bs.length c hl).mono ?_
      rintro e w' ⟨rfl, rfl⟩
      have e1 : ckE false bs.length = 1 := by unfold ckE; rw [if_neg (by simp), if_pos hl]
      exact ⟨1, V, L, false, rfl, (h.mono (by omega)).new h.en.hi, Chg.refl _ _, .inl ⟨by rw [e1]; decide, e1.symm, rfl, rfl, rfl⟩⟩
    · refine (Append7 w U B p g N V L h hc hd hs v bs R hR hv hcap hby (by omega) (by omega) hN (by omega) hn).mono ?_
      rintro e w' ⟨er, V', L', ov', rfl, k1, k2, k3⟩
      exact ⟨er, V', L', ov', rfl, k1, k2, .inr ⟨rfl, by unfold ckE; rw [if_neg (by simp), if_neg hl], by omega, k3⟩⟩
end X9
end Go.Proofs.YtdaknlmnelfedaaGreatDoor
