/- The document's log: First, List, Over; its Next, Get, Check, Fits. -/
import Derived.Test.YtdaknlmnelfedaaGreatDoorVy
namespace Go.Proofs.YtdaknlmnelfedaaGreatDoor
open Go.RowKit Go.Maps Go.ChangeMaps Go.MapKept
namespace X1
open Jb Jm Jd Jw Jx Jn Je Jf Jg Jh Jk Jc Jl Jo Jq Jr J1 J2 J3 J4 W1 W2 W3 V1 V2 V3 V4 V5 V6 V7 V8 V9 Va Vb Vc Vd Ve Vf Vg

/-- A slice of slices of bytes that nobody turns; all in blocks of D. -/
def RR (w : World) (D : Nat → Prop) (ev : Value) (es : List (List Nat)) : Prop :=
  (es = [] ∧ ∃ a c, ev = .slice a 0 c ∧ (a = none → c = 0)) ∨ ∃ b off cap, ev = .slice (some ⟨b, off, none⟩) es.length cap ∧ 0 < es.length ∧ es.length ≤ cap ∧ D b ∧
    ∀ i (h : i < es.length), ∃ a cc, w.cell? ⟨b, off + i, none⟩ = some (.slice a es[i].length cc) ∧ Src w D (.slice a es[i].length cc) es[i]
theorem RR.move {w w' : World} {D D' : Nat → Prop} {ev : Value} {es : List (List Nat)} (h : RR w D ev es) (f : ∀ k, D k → D' k) (e : ∀ k, D k → w'.heap[k]? = w.heap[k]?) : RR w' D' ev es := by
  rcases h with h | ⟨b, off, cap, h1, h2, h3, h4, h5⟩
  · exact .inl h
  · refine .inr ⟨b, off, cap, h1, h2, h3, f b h4, fun i hi => ?_⟩
    obtain ⟨a, cc, q1, q2⟩ := h5 i hi
    exact ⟨a, cc, (World.cell?_of_block (e b h4)).trans q1, (q2.move fun k hk _ => e k hk).imp f⟩
theorem RR.form {w : World} {D : Nat → Prop} {ev : Value} {es : List (List Nat)} (h : RR w D ev es) : ∃ a c, ev = .slice a es.length c := by
  rcases h with ⟨rfl, a, c, rfl, _⟩ | ⟨b, off, cap, rfl, _⟩
  · exact ⟨a, c, rfl⟩
  · exact ⟨_, _, rfl⟩
structure RL (w : World) (D : Nat → Prop) (q : Nat) (L : Lg) (ov : Bool) : Prop where
  c0 : w.cell? ⟨q, 0, none⟩ = some (.int .i64 (L.first : Nat))
  c1 : ∃ ev, w.cell? ⟨q, 1, none⟩ = some ev ∧ RR w D ev L.es
  c2 : w.cell? ⟨q, 2, none⟩ = some (.bool ov)
  dq : D q
  byte : ∀ b ∈ L.es, ∀ x ∈ b, x < 256
  len : ∀ b ∈ L.es, b.length ≤ 140737488355328
theorem RL.move {w w' : World} {D D' : Nat → Prop} {q : Nat} {L : Lg} {ov : Bool} (h : RL w D q L ov) (f : ∀ k, D k → D' k) (e : ∀ k, D k → w'.heap[k]? = w.heap[k]?) : RL w' D' q L ov := by
  have eq := e q h.dq
  obtain ⟨ev, a, b⟩ := h.c1
  exact ⟨(World.cell?_of_block eq).trans h.c0, ⟨ev, (World.cell?_of_block eq).trans a, b.move f e⟩, (World.cell?_of_block eq).trans h.c2, f q h.dq, h.byte, h.len⟩
theorem rnext27 (w : World) (D : Nat → Prop) (q : Nat) (L : Lg) (ov : Bool) (h : RL w D q L ov) (hs : Sm L.nx) : Calls Tryz.prog 27 #[.pointer (some ⟨q, 0, none⟩)] w fun e w' => e = .returned (.int .i64 (L.nx : Nat)) ∧ Below w.heap.size w w' := by
  have c1 := h.c0
  obtain ⟨ev, c2, er⟩ := h.c1
  obtain ⟨a, c, rfl⟩ := er.form
  obtain ⟨l, hl⟩ : ∃ l, l = L.es.length := ⟨_, rfl⟩
  obtain ⟨F, hF⟩ : ∃ F, F = L.first := ⟨_, rfl⟩
  have e : L.nx = F + l := by rw [hF, hl]; rfl
  rw [e] at hs ⊢
  rw [← hl] at c2
  rw [← hF] at c1
  have q1 : IntKind.i64.wrap ((F : Int) + (l : Nat)) = ((F + l : Nat) : Int) := by rw [IntKind.wrap_i64]; unfold Sm at hs; omega
  have q2 : IntKind.i64.wrap ((F : Int)) = ((F : Nat) : Int) := by rw [IntKind.wrap_i64]; unfold Sm at hs; omega
  clear h er hl hF e hs
  go_enter Tryz.func27, Tryz.ntmps27
  go_wp2_with fail
  go_region
  go_wp2_with fail
  go_ret
  exact ⟨by simp, ⟨rfl, rfl, rfl, Nat.le_refl _, fun _ _ => rfl⟩⟩
/-- What Get answers of an entry that is there. -/
def Got (w' : World) (w : World) (bs : List Nat) (e : Ending) (D : Nat → Prop) : Prop := ∃ a c, e = .returned (.tuple #[.slice a bs.length c, .int .i64 0]) ∧ Src w' D (.slice a bs.length c) bs ∧ Below w.heap.size w w'
theorem rget_out (w : World) (D : Nat → Prop) (q : Nat) (L : Lg) (ov : Bool) (h : RL w D q L ov) (hs : Sm L.nx) (n : Int) (hn : n < (L.first : Int) ∨ (L.nx : Int) ≤ n) (_ : -9223372036854775808 ≤ n ∧ n ≤ 9223372036854775807) :
    Calls Tryz.prog 29 #[.pointer (some ⟨q, 0, none⟩), .int .i64 n] w fun e w' => e = .returned (.tuple #[.slice none 0 0, .int .i64 3]) ∧ Below w.heap.size w w' := by
  have c0 := h.c0
  have NX := Lib.hid (rnext27 w D q L ov h hs)
  obtain ⟨F, hF⟩ : ∃ F, F = L.first := ⟨_, rfl⟩
  obtain ⟨X, hX⟩ : ∃ X, X = L.nx := ⟨_, rfl⟩
  rw [← hF] at c0 hn
  rw [← hX] at NX hn
  by_cases h1 : n < (F : Int)
  · clear h hs hn hF hX
    go_enter Tryz.func29, Tryz.ntmps29
    go_wp2_with fail
    refine bodyPost_ret (v := .tuple #[.slice none 0 0, .int .i64 3]) (by simp [results, Tryz.results29, go_sem]) rfl ⟨rfl, Below.refl _ _⟩
  · have h2 : (X : Int) ≤ n := by omega
    clear h hs hn hF hX
    go_enter Tryz.func29, Tryz.ntmps29
    go_wp2_with (go_at_call 27; refine (NX.out).mono ?_; rintro e w' ⟨rfl, hb⟩)
    refine bodyPost_ret (v := .tuple #[.slice none 0 0, .int .i64 3]) (by simp [results, Tryz.results29, go_sem]) rfl ⟨rfl, hb⟩
theorem get_out (w : World) (U : Nat → Prop) (B p g N : Nat) (V : Vw) (L : Lg) (ov : Bool) (h : WS w U B p g N V L ov) (hs : Sm L.nx) (n : Int) (hn : n < (L.first : Int) ∨ (L.nx : Int) ≤ n) (_ : -9223372036854775808 ≤ n ∧ n ≤ 9223372036854775807) :
    Calls Tryz.prog 28 #[.pointer (some ⟨p, 0, none⟩), .int .i64 n] w fun e w' => e = .returned (.tuple #[.slice none 0 0, .int .i64 3]) ∧ Below w.heap.size w w' := by
  have F8 : Hid (Calls Tryz.prog 26 #[.pointer (some ⟨p, 0, none⟩)] w fun e w' => e = .returned (.int .i64 (L.first : Nat)) ∧ w' = w) := Lib.hid (by
    obtain ⟨S, T, k1, k2, _⟩ := h.ex
    exact first8 w T p g L ov k2)
  have NX := Lib.hid (ws_next h hs)
  obtain ⟨F, hF⟩ : ∃ F, F = L.first := ⟨_, rfl⟩
  obtain ⟨X, hX⟩ : ∃ X, X = L.nx := ⟨_, rfl⟩
  rw [← hF] at F8 hn
  rw [← hX] at NX hn
  by_cases h1 : n < (F : Int)
  · clear h hs hn hF hX
    go_enter Tryz.func28, Tryz.ntmps28
    go_wp2_with (go_at_call 26; refine (F8.out).mono ?_; rintro e w ⟨rfl, rfl⟩)
    refine bodyPost_ret (v := .tuple #[.slice none 0 0, .int .i64 3]) (by simp [results, Tryz.results28, go_sem]) rfl ⟨rfl, Below.refl _ _⟩
  · have h2 : (X : Int) ≤ n := by omega
    clear h hs hn hF hX
    go_enter Tryz.func28, Tryz.ntmps28
    go_wp2_with (first | (go_at_call 26; refine (F8.out).mono ?_; rintro e w ⟨rfl, rfl⟩) | (go_at_call 18; refine (NX.out).mono ?_; rintro e w' ⟨rfl, hb⟩))
    refine bodyPost_ret (v := .tuple #[.slice none 0 0, .int .i64 3]) (by simp [results, Tryz.results28, go_sem]) rfl ⟨rfl, hb⟩
theorem rget_in (w : World) (D : Nat → Prop) (q : Nat) (L : Lg) (ov : Bool) (h : RL w D q L ov) (hs : Sm L.nx) (i : Nat) (bs : List Nat) (hbs : L.es[i]? = some bs) :
    Calls Tryz.prog 29 #[.pointer (some ⟨q, 0, none⟩), .int .i64 (L.first + i : Nat)] w fun e w' => Got w' w bs e D := by
  obtain ⟨hi, he⟩ := List.getElem?_eq_some_iff.1 hbs
  have c0 := h.c0
  have NX := Lib.hid (rnext27 w D q L ov h hs)
  obtain ⟨ev, c1, er⟩ := h.c1
  rcases er with ⟨e0, _⟩ | ⟨b, off, cap, rfl, h0, hc1, hDb, hel⟩
  · rw [e0] at hi; simp at hi
  obtain ⟨a, cc, c2, src⟩ := hel i hi
  rw [he] at c2 src
  obtain ⟨F, hF⟩ : ∃ F, F = L.first := ⟨_, rfl⟩
  obtain ⟨X, hX⟩ : ∃ X, X = L.nx := ⟨_, rfl⟩
  obtain ⟨n, hn⟩ : ∃ n, n = L.first + i := ⟨_, rfl⟩
  obtain ⟨l, hl⟩ : ∃ l, l = L.es.length := ⟨_, rfl⟩
  obtain ⟨k, hk⟩ : ∃ k, k = bs.length := ⟨_, rfl⟩
  have FN : Hid (∀ w', Below w.heap.size w w' → Got w' w bs (.returned (.tuple #[.slice a k cc, .int .i64 0])) D) := Lib.hid fun w' hb => ⟨a, cc, by rw [hk], src.move fun j _ hj => hb.block j hj, hb⟩
  rw [← hF] at c0
  rw [← hX] at NX
  rw [← hl] at c1
  rw [← hk] at c2
  rw [← hn]
  have q1 : ¬ (n : Int) < (F : Int) := by omega
  have hXl : X = F + l := by rw [hX, hF, hl]; rfl
  have q2 : ¬ (X : Int) ≤ (n : Int) := by omega
  have q3 : IntKind.i64.wrap ((n : Int) - (F : Nat)) = (i : Int) := by rw [IntKind.wrap_i64]; unfold Sm at hs; omega
  have q4 : i < l := by omega
  have CX : Hid (∀ y, Below w.heap.size w y → y.cell? ⟨q, 0, none⟩ = some (.int .i64 (F : Nat)) ∧ y.cell? ⟨q, 1, none⟩ = some (.slice (some ⟨b, off, none⟩) l cap) ∧ y.cell? ⟨b, off + i, none⟩ = some (.slice a k cc)) := Lib.hid fun y hy =>
    ⟨(World.cell?_of_block (hy.block q (cell_lt c0))).trans c0, (World.cell?_of_block (hy.block q (cell_lt c0))).trans c1, (World.cell?_of_block (hy.block b (cell_lt c2))).trans c2⟩
  have q5 : ¬ n < F := by omega
  have q6 : ¬ X ≤ n := by omega
  have q7 : F ≤ n := by omega
  have q8 : n < X := by omega
  clear h hs hel hF hX hn hl hk src hXl hDb hbs he hi
  go_enter Tryz.func29, Tryz.ntmps29
  go_upto_region 3 with (go_at_call 27; refine (NX.out).mono ?_; rintro e w' ⟨rfl, hb⟩; obtain ⟨d1, d2, d3⟩ := CX.out w' hb)
  go_region
  go_wp2_with fail
  refine bodyPost_ret (v := .tuple #[.slice a k cc, .int .i64 0]) (by simp [results, Tryz.results29, go_sem]) rfl (FN.out _ ⟨hb.os, hb.tape, hb.output, hb.size, hb.block⟩)
set_option maxRecDepth 100000 in
set_option maxHeartbeats 2000000 in
/-- The program's Get. -/
theorem get_in (w : World) (U : Nat → Prop) (B p g N : Nat) (V : Vw) (L : Lg) (ov : Bool) (h : WS w U B p g N V L ov) (hs : Sm L.nx) (i : Nat) (bs : List Nat) (hbs : L.es[i]? = some bs) :
    Calls Tryz.prog 28 #[.pointer (some ⟨p, 0, none⟩), .int .i64 (L.first + i : Nat)] w fun e w' => Got w' w bs e (fun k => w.heap.size ≤ k) := by
  obtain ⟨hi, he⟩ := List.getElem?_eq_some_iff.1 hbs
  have NX : Hid (∀ y, Below w.heap.size w y → Calls Tryz.prog 18 #[.pointer (some ⟨p, 0, none⟩)] y fun e y' => e = .returned (.int .i64 (L.nx : Nat)) ∧ Below w.heap.size w y') := Lib.hid fun y hy => by
    refine (ws_next (h.below hy) hs).mono ?_
    rintro e y' ⟨rfl, b⟩
    exact ⟨rfl, hy.trans (b.mono hy.size)⟩
  obtain ⟨S, T, h1, h2, h3, h4, h5⟩ := h.ex
  have F8 := Lib.hid (first8 w T p g L ov h2)
  have c0 := h2.c1
  obtain ⟨ev, c1, er⟩ := h2.c2
  rcases er with ⟨e0, _⟩ | ⟨b, off, cap, rfl, h0, hc1, hc2, hTb, hbp, hcells, hel⟩
  · rw [e0] at hi; simp at hi
  obtain ⟨cv, c2, src⟩ := hel i hi
  rw [he] at src
  obtain ⟨a, cc, rfl⟩ := src.forms
  have hlen := h2.len bs (List.mem_of_getElem? hbs)
  obtain ⟨F, hF⟩ : ∃ F, F = L.first := ⟨_, rfl⟩
  obtain ⟨X, hX⟩ : ∃ X, X = L.nx := ⟨_, rfl⟩
  obtain ⟨n, hn⟩ : ∃ n, n = L.first + i := ⟨_, rfl⟩
  obtain ⟨l, hl⟩ : ∃ l, l = L.es.length := ⟨_, rfl⟩
  have CL : Hid (∀ y, Below w.heap.size w y → Calls Tryz.prog 37 #[.slice a bs.length cc] y fun e y' => ∃ a' cc', e = .returned (.slice a' bs.length cc') ∧ Got y' w bs (.returned (.tuple #[.slice a' bs.length cc', .int .i64 0])) (fun k => w.heap.size ≤ k)) := Lib.hid fun y hy => by
    refine (clone45 y _ _ bs (src.move fun j _ hj => hy.block j hj) hlen).mono ?_
    rintro e y' ⟨v', rfl, o, b⟩
    have so := (src_own o).imp (R' := fun k => w.heap.size ≤ k) fun k hk => by have := hy.size; omega
    obtain ⟨a', cc', rfl⟩ := so.forms
    exact ⟨a', cc', rfl, a', cc', rfl, so, hy.trans (b.mono hy.size)⟩
  obtain ⟨k, hk⟩ : ∃ k, k = bs.length := ⟨_, rfl⟩
  rw [← hF] at c0 F8
  rw [← hX] at NX
  rw [← hl] at c1
  rw [← hk] at c2 CL
  rw [← hn]
  have hXl : X = F + l := by rw [hX, hF, hl]; rfl
  have q1 : ¬ (n : Int) < (F : Int) := by omega
  have q2 : ¬ (X : Int) ≤ (n : Int) := by omega
  have q3 : IntKind.i64.wrap ((n : Int) - (F : Nat)) = (i : Int) := by rw [IntKind.wrap_i64]; unfold Sm at hs; omega
  have q4 : i < l := by omega
  have q5 : ¬ n < F := by omega
  have q6 : ¬ X ≤ n := by omega
  have q7 : F ≤ n := by omega
  have q8 : n < X := by omega
  have CX : Hid (∀ y, Below w.heap.size w y → y.cell? ⟨p, 1, none⟩ = some (.int .i64 (F : Nat)) ∧ y.cell? ⟨p, 2, none⟩ = some (.slice (some ⟨b, off, none⟩) l cap) ∧ y.cell? ⟨b, off + i, none⟩ = some (.slice a k cc)) := Lib.hid fun y hy =>
    ⟨(World.cell?_of_block (hy.block p (cell_lt c0))).trans c0, (World.cell?_of_block (hy.block p (cell_lt c0))).trans c1, (World.cell?_of_block (hy.block b (cell_lt c2))).trans c2⟩
  have HK := Lib.hid hk
  clear h h1 h2 h3 h4 h5 hs hel hF hX hn hl src hXl hTb hbs he hi hcells hlen hk
  go_enter Tryz.func28, Tryz.ntmps28
  go_upto_region 3 with (first | (go_at_call 26; refine (F8.out).mono ?_; rintro e w ⟨rfl, rfl⟩) | (go_at_call 18; refine (NX.out w (Below.refl _ _)).mono ?_; rintro e x ⟨rfl, hx⟩))
  have b0 : Below w.heap.size w x.drew := ⟨hx.os, hx.tape, hx.output, hx.size, hx.block⟩
  have kX := CX.out _ b0
  go_region_held (fun y : World => y.cell? ⟨p, 1, none⟩ = some (.int .i64 (F : Nat)) ∧ y.cell? ⟨p, 2, none⟩ = some (.slice (some ⟨b, off, none⟩) l cap) ∧ y.cell? ⟨b, off + i, none⟩ = some (.slice a k cc))
    (first | exact kX | exact CX.out _ bZ)
    (first | (go_at_call 37; refine (CL.out _ b0).mono ?_; rintro e z ⟨a', cc', rfl, G⟩; have bZ := G.choose_spec.choose_spec.2.2; have GH := Lib.hid G; clear G))
  go_wp2_with fail
  refine bodyPost_ret (v := .tuple #[.slice a' k cc', .int .i64 0]) (by simp [results, Tryz.results28, go_sem]) rfl GH.out
end X1
end Go.Proofs.YtdaknlmnelfedaaGreatDoor
