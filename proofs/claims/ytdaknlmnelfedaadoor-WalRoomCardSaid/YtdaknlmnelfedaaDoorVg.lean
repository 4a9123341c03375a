/- The law WalRoom: the walk. -/
import Derived.Test.YtdaknlmnelfedaaDoorVf
namespace Go.Proofs.YtdaknlmnelfedaaDoor
open Go.RowKit Go.Maps Go.ChangeMaps Go.MapKept
namespace Vg
open Jb Jm Jd Jw Jx Jn Je Jf Jg Jh Jk Jc Jl Jo Jq Jr J1 J2 J3 J4 W1 W2 W3 V1 V2 V3 V4 V5 V6 V7 V8 V9 Va Vb Vc Vd Ve Vf

/-- A slice of slices of bytes that came in. -/
def BL (w : World) (v : Value) (xs : List (List Nat)) : Prop :=
  (xs = [] ∧ ∃ a c, v = .slice a 0 c) ∨ ∃ b off c, v = .slice (some ⟨b, off, none⟩) xs.length c ∧ 0 < xs.length ∧ b < w.heap.size ∧ ∀ i (h : i < xs.length), ∃ a cc, w.cell? ⟨b, off + i, none⟩ = some (.slice a xs[i].length cc) ∧ Src w (fun k => k < w.heap.size) (.slice a xs[i].length cc) xs[i]
def need (xs : List (List Nat)) : Nat := 16 + (xs.map fun x => x.length + 16).sum
theorem need_succ (xs : List (List Nat)) (k : Nat) (h : k < xs.length) : need (xs.take (k + 1)) = need (xs.take k) + xs[k].length + 16 := by
  unfold need
  rw [List.take_succ_eq_append_getElem h, List.map_append, List.sum_append]
  simp
  omega
theorem need_le (xs : List (List Nat)) (h : ∀ x ∈ xs, x.length ≤ 4000) : need xs ≤ 16 + xs.length * 4016 := by
  unfold need
  induction xs with
  | nil => simp
  | cons x r ih =>
    have h1 := h x (List.mem_cons_self ..)
    have h2 := ih fun y hy => h y (List.mem_cons_of_mem _ hy)
    simp only [List.map_cons, List.sum_cons, List.length_cons, Nat.succ_mul]
    omega
theorem need_mono (xs : List (List Nat)) : ∀ d k, need (xs.take k) ≤ need (xs.take (k + d)) := by
  intro d
  induction d with
  | zero => intro k; exact Nat.le_refl _
  | succ d ih =>
    intro k
    refine Nat.le_trans (ih k) ?_
    by_cases h : k + d < xs.length
    · rw [show k + (d + 1) = k + d + 1 from rfl, need_succ xs _ h]; omega
    · rw [List.take_of_length_le (by omega : xs.length ≤ k + d), List.take_of_length_le (by omega : xs.length ≤ k + (d + 1))]; exact Nat.le_refl _
/-- The log as the law has it in a round. -/
structure St (W wr : World) (U : Nat → Prop) (B p g N : Nat) (V : Vw) (L : Lg) (R u nN nX : Nat) : Prop where
  ws : WS wr U B p g N V L false
  be : Below B W wr
  fused : V.fused = false
  down : V.down = false
  cln : Cln V L
  room : V.room = R
  used : V.used ≤ u
  n : N ≤ nN
  nx : L.nx ≤ nX
theorem st_append {W wr : World} {U : Nat → Prop} {B p g N : Nat} {V : Vw} {L : Lg} {R u nN nX : Nat} (h : St W wr U B p g N V L R u nN nX) (hB : B ≤ W.heap.size) (a : Option Addr) (c : Nat) (bs : List Nat) (hv : Src W (fun k => k < B) (.slice a bs.length c) bs) (hby : ∀ x ∈ bs, x < 256)
    (h1 : 1 ≤ bs.length) (h2 : bs.length ≤ 1048576) (hr : u + bs.length ≤ R) (hu : u ≤ 1000000000) (hN : nN ≤ 1000000) (hX : nX ≤ 1000000) :
    Calls Tryd.prog 7 #[.pointer (some ⟨p, 0, none⟩), .slice a bs.length c] wr fun e w' => e = .returned (.int .i64 0) ∧ ∃ U' V' L', St W w' U' B p g (N + 2) V' L' R (u + bs.length) (nN + 2) (nX + 1) := by
  have hes : L.es.length ≤ nX := by have := h.nx; unfold Lg.nx at this; omega
  have hus := h.used
  have hro := h.room
  have hnn := h.n
  have hxx := h.nx
  have hsz := h.be.size
  have hsrc : Src wr (fun k => k < B) (.slice a bs.length c) bs := hv.below h.be fun k hk => hk
  refine (Append7 wr U B p g N V L h.ws h.cln h.down (by unfold Sm; omega) _ bs (fun k => k < B) (fun k hk => ⟨fun e => by have := h.ws.ge k e; omega, by omega⟩) hsrc (fun c' e => ?_) hby h1 h2 (by omega) (by omega) (by omega)).mono ?_
  · rcases hsrc with ⟨e0, _⟩ | ⟨_, b, off, cc, e1, _⟩
    · rw [e0] at h1; simp at h1
    · rw [e1] at e; cases e
  · rintro e w' ⟨er, V', L', ov', rfl, k1, k2, k3⟩
    obtain ⟨rfl, rfl, rfl, a1, a2, a3, a4, a5⟩ := App.ok k3 h.fused (by omega)
    refine ⟨rfl, _, V', _, k1, h.be.trans (k2.below (fun k hk _ => h.ws.ge k hk) (by omega)), a1, a4, a5, a2.trans hro, by omega, by omega, ?_⟩
    rw [Lg.app_nx]; omega
theorem st_trim {W wr : World} {U : Nat → Prop} {B p g N : Nat} {V : Vw} {L : Lg} {R u nN nX : Nat} (h : St W wr U B p g N V L R u nN nX) (hB : B ≤ W.heap.size) (n : Nat) (h1 : L.first ≤ n) (h2 : n ≤ L.nx) (hu : u ≤ 1000000000) (hN : nN ≤ 1000000) (hX : nX ≤ 1000000) :
    Calls Tryd.prog 10 #[.pointer (some ⟨p, 0, none⟩), .int .i64 (n : Nat)] wr fun e w' => e = .returned (.int .i64 0) ∧ ∃ U' V', St W w' U' B p g (N + 1) V' (L.trim n) R u (nN + 1) nX := by
  have hus := h.used
  have hro := h.room
  have hnn := h.n
  have hxx := h.nx
  have hsz := h.be.size
  refine (Trim10 wr U B p g N V L h.ws h.cln h.down (by unfold Sm; omega) n h1 h2 (by omega) (by omega)).mono ?_
  rintro e w' ⟨er, V', L', ov', rfl, k1, k2, k3⟩
  obtain ⟨rfl, rfl, rfl, a1, a2, a3, a4, a5⟩ := Trm.ok k3 h.fused
  refine ⟨rfl, _, V', k1, h.be.trans (k2.below (fun k hk _ => h.ws.ge k hk) (by omega)), a1, a4, a5, a2.trans hro, by omega, by omega, ?_⟩
  rw [Lg.trim_nx h1 h2]; omega
theorem ws_first8 {w : World} {U : Nat → Prop} {B p g N : Nat} {V : Vw} {L : Lg} {ov : Bool} (h : WS w U B p g N V L ov) : Calls Tryd.prog 8 #[.pointer (some ⟨p, 0, none⟩)] w fun e w' => e = .returned (.int .i64 (L.first : Nat)) ∧ Below w.heap.size w w' := by
  obtain ⟨S, T, k1, k2, _⟩ := h.ex
  refine (first8 w T p g L ov k2).mono ?_
  rintro e w' ⟨rfl, rfl⟩
  exact ⟨rfl, Below.refl _ _⟩
theorem St.below {W wr w' : World} {U : Nat → Prop} {B p g N : Nat} {V : Vw} {L : Lg} {R u nN nX : Nat} (h : St W wr U B p g N V L R u nN nX) (hB : B ≤ W.heap.size) (b : Below wr.heap.size wr w') : St W w' U B p g N V L R u nN nX :=
  ⟨h.ws.below b, h.be.trans (b.mono (by have := h.be.size; omega)), h.fused, h.down, h.cln, h.room, h.used, h.n, h.nx⟩
end Vg
end Go.Proofs.YtdaknlmnelfedaaDoor
