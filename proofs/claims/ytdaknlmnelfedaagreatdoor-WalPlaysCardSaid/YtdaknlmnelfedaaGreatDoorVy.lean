/- The log's Append, refused; the law's own test that the program is awake. The law WalRoom: the walk. -/
import Derived.Test.YtdaknlmnelfedaaGreatDoorVe
namespace Go.Proofs.YtdaknlmnelfedaaGreatDoor
open Go.RowKit Go.Maps Go.ChangeMaps Go.MapKept
namespace Vf
open Jb Jm Jd Jw Jx Jn Je Jf Jg Jh Jk Jc Jl Jo Jq Jr J1 J2 J3 J4 W1 W2 W3 V1 V2 V3 V4 V5 V6 V7 V8 V9 Va Vb Vc Vd Ve

theorem Append_bad (w : World) (U : Nat → Prop) (B p g N : Nat) (V : Vw) (L : Lg) (h : WS w U B p g N V L false) (a : Option Addr) (l c : Nat) (hl : l < 1 ∨ 1048576 < l) :
    Calls Tryz.prog 17 #[.pointer (some ⟨p, 0, none⟩), .slice a l c] w fun e w' => e = .returned (.int .i64 1) ∧ w' = w := by
  have OV := Lib.hid (ws_over h)
  by_cases h1 : l < 1
  · have d1 : decide ((l : Int) < 1) = true := decide_eq_true (by omega)
    obtain rfl : l = 0 := by omega
    clear h hl h1
    go_enter Tryz.func17, Tryz.ntmps17
    go_wp2_with (go_at_call 34; refine (OV.out).mono ?_; rintro e w ⟨rfl, rfl⟩)
    go_ret
    first | trivial | exact ⟨rfl, rfl⟩
  · have h2 : 1048576 < l := by omega
    have d1 : decide ((l : Int) < 1) = false := decide_eq_false (by omega)
    have d2 : decide ((l : Int) > 1048576) = true := decide_eq_true (by omega)
    clear h hl
    go_enter Tryz.func17, Tryz.ntmps17
    go_wp2_with (go_at_call 34; refine (OV.out).mono ?_; rintro e w ⟨rfl, rfl⟩)
    go_ret
    first | trivial | exact ⟨rfl, rfl⟩
theorem Append_over (w : World) (U : Nat → Prop) (B p g N : Nat) (V : Vw) (L : Lg) (h : WS w U B p g N V L true) (v : Value) :
    Calls Tryz.prog 17 #[.pointer (some ⟨p, 0, none⟩), v] w fun e w' => e = .returned (.int .i64 8) ∧ w' = w := by
  have OV := Lib.hid (ws_over h)
  clear h
  go_enter Tryz.func17, Tryz.ntmps17
  go_wp2_with (go_at_call 34; refine (OV.out).mono ?_; rintro e w ⟨rfl, rfl⟩)
  go_ret
  first | trivial | exact ⟨rfl, rfl⟩
/-- No fuse: what is opened, appended, trimmed is not lost. -/
theorem Cle.ok {V V' : Vw} {L : Lg} {er : Nat} (h : Cle V L er V') (hf : V.fused = false) : er = 0 ∧ V'.fused = false ∧ V'.room = V.room ∧ V'.used ≤ V.used ∧ V'.down = false ∧ Cln V' L := by
  obtain ⟨a, b, ⟨_, c, _⟩ | ⟨c, d, e⟩⟩ := h
  · rw [hf] at c; cases c
  · exact ⟨c, a.fused.trans hf, a.room, b, d, e⟩
theorem App.ok {V V' : Vw} {L L' : Lg} {bs : List Nat} {er : Nat} {ov' : Bool} (h : App V L bs er V' L' ov') (hf : V.fused = false) (hr : V.used + bs.length ≤ V.room) : er = 0 ∧ ov' = false ∧ L' = L.app bs ∧ V'.fused = false ∧ V'.room = V.room ∧ V'.used ≤ V.used + bs.length ∧ V'.down = false ∧ Cln V' L' := by
  obtain ⟨a, b, ⟨_, _, _, c, _⟩ | ⟨_, _, _, _, _, c⟩ | ⟨c, d, rfl, e, f⟩⟩ := h
  · rw [hf] at c; cases c
  · omega
  · exact ⟨c, d, rfl, a.fused.trans hf, a.room, b, e, f⟩
theorem Trm.ok {V V' : Vw} {L L' : Lg} {n er : Nat} {ov' : Bool} (h : Trm V L n er V' L' ov') (hf : V.fused = false) : er = 0 ∧ ov' = false ∧ L' = L.trim n ∧ V'.fused = false ∧ V'.room = V.room ∧ V'.used ≤ V.used ∧ V'.down = false ∧ Cln V' L' := by
  obtain ⟨a, b, ⟨_, _, _, c, _⟩ | ⟨c, d, rfl, e, f⟩⟩ := h
  · rw [hf] at c; cases c
  · exact ⟨c, d, rfl, a.fused.trans hf, a.room, b, e, f⟩
theorem uok0 (room : Nat) : UOk (V0 room) 0 := ⟨[], ⟨List.nodup_nil, fun x => by simp [V0]⟩, rfl, Nat.le_refl _⟩
/-- A new disk, opened. -/
theorem open_new {w w1 : World} {B room : Nat} (en : En w B) (hb : Below w.heap.size w w1) (h : DV w1 (fun k => w.heap.size ≤ k ∧ k < w1.heap.size) w.heap.size 0 (V0 room)) :
    Calls Tryz.prog 16 #[.pointer (some ⟨w.heap.size, 0, none⟩)] w1 fun e w' => ∃ (p : Nat) (V' : Vw), e = .returned (.tuple #[.pointer (some ⟨p, 0, none⟩), .int .i64 0]) ∧ WS w' (fun k => w.heap.size ≤ k ∧ k < w'.heap.size) B p w.heap.size 0 V' ⟨0, []⟩ false ∧ Below w.heap.size w w' ∧ V'.fused = false ∧ V'.room = room ∧ V'.used = 0 ∧ V'.down = false ∧ Cln V' ⟨0, []⟩ := by
  have hi := en.hi
  refine (Open6 w1 _ B w.heap.size 0 (V0 room) ⟨0, []⟩ h (uok0 room) (en.move hb.size fun k hk => hb.block k (by omega)) (fun k hk => by omega) (clean0 room).d rfl (by unfold Sm Lg.nx; simp) (by simp [V0]) (by simp) (by simp)).mono ?_
  rintro e w' ⟨p, er, V', he, h1, h2, h3⟩
  obtain ⟨rfl, a, b, c, d, f⟩ := Cle.ok h3 rfl
  have hz := h2.size
  rcases he with ⟨e', _⟩ | ⟨_, rfl⟩
  · exact absurd e' (by decide)
  · exact ⟨p, V', rfl, WS.set h1 (fun k hk => by rcases hk with e | e <;> exact ⟨by have := hb.size; omega, by omega⟩) (fun k hk => by omega) (fun k hk => hk.2), hb.trans (h2.below (fun k hk _ => hk.1) hb.size), a, b, Nat.le_zero.1 c, d, f⟩
def one : List Nat := [97]
set_option maxRecDepth 100000 in
theorem awake4 (w : World) (en : En w w.heap.size) : Calls Tryz.prog 5 #[] w fun e w' => e = .returned (.bool true) ∧ Below w.heap.size w w' := by
  have NE := Lib.hid (New_c w 1073741824 (by omega))
  have OP : Hid (∀ w1, DV w1 (fun k => w.heap.size ≤ k ∧ k < w1.heap.size) w.heap.size 0 (V0 1073741824) → Below w.heap.size w w1 → Calls Tryz.prog 16 #[.pointer (some ⟨w.heap.size, 0, none⟩)] w1 _) := Lib.hid fun w1 h b => open_new en b h
  have AP : Hid (∀ w2 p V, WS w2 (fun k => w.heap.size ≤ k ∧ k < w2.heap.size) w.heap.size p w.heap.size 0 V ⟨0, []⟩ false → Below w.heap.size w w2 → V.fused = false → V.room = 1073741824 → V.used = 0 → V.down = false → Cln V ⟨0, []⟩ →
      Calls Tryz.prog 17 #[.pointer (some ⟨p, 0, none⟩), .slice (some ⟨w2.heap.size, 0, none⟩) 1 1] (w2.alloc (.cells #[.int .u8 97] 5 (1, 2))) fun e w3 => e = .returned (.int .i64 0) ∧ Below w.heap.size w w3 ∧ Calls Tryz.prog 18 #[.pointer (some ⟨p, 0, none⟩)] w3 fun e w4 => e = .returned (.int .i64 1) ∧ Below w.heap.size w w4) := Lib.hid fun w2 p V h b h1 h2 h3 h4 h5 => by
    have hb := b.size
    have hB : Below w2.heap.size w2 (w2.alloc (.cells #[.int .u8 97] 5 (1, 2))) := (Below.refl _ w2).alloc (Nat.le_refl _) _
    have hs : (w2.alloc (.cells #[.int .u8 97] 5 (1, 2))).heap.size = w2.heap.size + 1 := by simp
    have hsrc : Src (w2.alloc (.cells #[.int .u8 97] 5 (1, 2))) (fun k => k = w2.heap.size) (.slice (some ⟨w2.heap.size, 0, none⟩) 1 1) one := by
      refine .inr ⟨by decide, w2.heap.size, 0, 1, rfl, by decide, rfl, fun i hi => ?_⟩
      have hi : i < 1 := hi
      rw [World.cell?_alloc_mark]
      obtain rfl : i = 0 := by omega
      rfl
    refine (Append7 _ _ w.heap.size p w.heap.size 0 V ⟨0, []⟩ (h.below hB) h5 h4 (by unfold Sm Lg.nx; simp) _ one (fun k => k = w2.heap.size) (fun k hk => ⟨by omega, by omega⟩) hsrc (fun c e => by cases e) (by decide) (by decide) (by decide) (by decide) (by rw [h3]; decide) (by simp)).mono ?_
    rintro e w3 ⟨er, V', L', ov', rfl, k1, k2, k3⟩
    obtain ⟨rfl, rfl, rfl, _⟩ := App.ok k3 h1 (by rw [h3, h2]; decide)
    have b3 : Below w.heap.size w w3 := (b.trans (hB.mono hb)).trans (k2.below (fun k hk _ => hk.1) (by omega))
    refine ⟨rfl, b3, ?_⟩
    refine (ws_next k1 (by unfold Sm Lg.nx Lg.app; simp)).mono ?_
    rintro e w4 ⟨rfl, b4⟩
    exact ⟨rfl, b3.trans (b4.mono b3.size)⟩
  have hcv := fun (y : World) => Lib.run_convert_bytes_const (P := Tryz.prog) y 36 5 #[.int .u8 97] 1 1 Tryz.underlying36 Tryz.underlying5
  clear en
  go_enter Tryz.func5, Tryz.ntmps5
  go_wp2_with (first | (go_at_call 7; refine (NE.out).mono ?_; rintro e w1 ⟨rfl, k1, b1⟩) | (go_at_call 16; refine (OP.out w1 k1 b1).mono ?_; rintro e w2 ⟨p, V, rfl, j1, b2, j2, j3, j4, j5, j6⟩; have AP1 := Lib.hid (AP.out w2 p V j1 b2 j2 j3 j4 j5 j6); clear j1 j2 j3 j4 j5 j6) | (go_at_call 17; refine (AP1.out).mono ?_; rintro e w3 ⟨rfl, b3, n3⟩; have N3 := Lib.hid n3; clear n3) | (go_at_call 18; refine (N3.out).mono ?_; rintro e w4 ⟨rfl, b4⟩))
  go_ret
  first | exact ⟨rfl, b4⟩ | (refine ⟨?_, b4⟩; rfl)
end Vf
end Go.Proofs.YtdaknlmnelfedaaGreatDoor
namespace Go.Proofs.YtdaknlmnelfedaaGreatDoor
open Go.RowKit Go.Maps Go.ChangeMaps Go.MapKept
namespace Vg
open Jb Jm Jd Jw Jx Jn Je Jf Jg Jh Jk Jc Jl Jo Jq Jr J1 J2 J3 J4 W1 W2 W3 V1 V2 V3 V4 V5 V6 V7 V8 V9 Va Vb Vc Vd Ve Vf

/-- A slice of slices of bytes that came in. -/
def BL (w : World) (v : Value) (xs : List (List Nat)) : Prop :=
  (xs = [] ∧ ∃ a c, v = .slice a 0 c) ∨ ∃ b off c, v = .slice (some ⟨b, off, none⟩) xs.length c ∧ 0 < xs.length ∧ b < w.heap.size ∧ ∀ i (h : i < xs.length), ∃ a cc, w.cell? ⟨b, off + i, none⟩ = some (.slice a xs[i].length cc) ∧ Src w (fun k => k < w.heap.size) (.slice a xs[i].length cc) xs[i]
def need (xs : List (List Nat)) : Nat := 16 + (xs.map fun x => x.length + 16).sum
theorem need_succ (xs : List (List Nat)) (k : Nat) (h : k < xs.length) : need (xs.take (k + 1)) = need (xs.take k) + xs[k].length + 16 := by
  unfold need
  rw [List.take_succ_eq_append_getElem h, List.map_append, List.sum_append]
  simp
  omega
theorem need_le (xs : List (List Nat)) (h : ∀ x ∈ xs, x.length ≤ 4000) : need xs ≤ 16 + xs.length * 4016 := by
  unfold need
  induction xs with
  | nil => simp
  | cons x r ih =>
    have h1 := h x (List.mem_cons_self ..)
    have h2 := ih fun y hy => h y (List.mem_cons_of_mem _ hy)
    simp only [List.map_cons, List.sum_cons, List.length_cons, Nat.succ_mul]
    omega
theorem need_mono (xs : List (List Nat)) : ∀ d k, need (xs.take k) ≤ need (xs.take (k + d)) := by
  intro d
  induction d with
  | zero => intro k; exact Nat.le_refl _
  | succ d ih =>
    intro k
    refine Nat.le_trans (ih k) ?_
    by_cases h : k + d < xs.length
    · rw [show k + (d + 1) = k + d + 1 from rfl, need_succ xs _ h]; omega
    · rw [List.take_of_length_le (by omega : xs.length ≤ k + d), List.take_of_length_le (by omega : xs.length ≤ k + (d + 1))]; exact Nat.le_refl _
/-- The log as the law has it in a round. -/
structure St (W wr : World) (U : Nat → Prop) (B p g N : Nat) (V : Vw) (L : Lg) (R u nN nX : Nat) : Prop where
  ws : WS wr U B p g N V L false
  be : Below B W wr
  fused : V.fused = false
  down : V.down = false
  cln : Cln V L
  room : V.room = R
  used : V.used ≤ u
  n : N ≤ nN
  nx : L.nx ≤ nX
theorem st_append {W wr : World} {U : Nat → Prop} {B p g N : Nat} {V : Vw} {L : Lg} {R u nN nX : Nat} (h : St W wr U B p g N V L R u nN nX) (hB : B ≤ W.heap.size) (a : Option Addr) (c : Nat) (bs : List Nat) (hv : Src W (fun k => k < B) (.slice a bs.length c) bs) (hby : ∀ x ∈ bs, x < 256)
    (h1 : 1 ≤ bs.length) (h2 : bs.length ≤ 1048576) (hr : u + bs.length ≤ R) (hu : u ≤ 1000000000) (hN : nN ≤ 1000000) (hX : nX ≤ 1000000) :
    Calls Tryz.prog 17 #[.pointer (some ⟨p, 0, none⟩), .slice a bs.length c] wr fun e w' => e = .returned (.int .i64 0) ∧ ∃ U' V' L', St W w' U' B p g (N + 2) V' L' R (u + bs.length) (nN + 2) (nX + 1) := by
  have hes : L.es.length ≤ nX := by have := h.nx; unfold Lg.nx at this; omega
  have hus := h.used
  have hro := h.room
  have hnn := h.n
  have hxx := h.nx
  have hsz := h.be.size
  have hsrc : Src wr (fun k => k < B) (.slice a bs.length c) bs := hv.below h.be fun k hk => hk
  refine (Append7 wr U B p g N V L h.ws h.cln h.down (by unfold Sm; omega) _ bs (fun k => k < B) (fun k hk => ⟨fun e => by have := h.ws.ge k e; omega, by omega⟩) hsrc (fun c' e => ?_) hby h1 h2 (by omega) (by omega) (by omega)).mono ?_
  · rcases hsrc with ⟨e0, _⟩ | ⟨_, b, off, cc, e1, _⟩
    · rw [e0] at h1; simp at h1
    · rw [e1] at e; cases e
  · rintro e w' ⟨er, V', L', ov', rfl, k1, k2, k3⟩
    obtain ⟨rfl, rfl, rfl, a1, a2, a3, a4, a5⟩ := App.ok k3 h.fused (by omega)
    refine ⟨rfl, _, V', _, k1, h.be.trans (k2.below (fun k hk _ => h.ws.ge k hk) (by omega)), a1, a4, a5, a2.trans hro, by omega, by omega, ?_⟩
    rw [Lg.app_nx]; omega
theorem st_trim {W wr : World} {U : Nat → Prop} {B p g N : Nat} {V : Vw} {L : Lg} {R u nN nX : Nat} (h : St W wr U B p g N V L R u nN nX) (hB : B ≤ W.heap.size) (n : Nat) (h1 : L.first ≤ n) (h2 : n ≤ L.nx) (hu : u ≤ 1000000000) (hN : nN ≤ 1000000) (hX : nX ≤ 1000000) :
    Calls Tryz.prog 21 #[.pointer (some ⟨p, 0, none⟩), .int .i64 (n : Nat)] wr fun e w' => e = .returned (.int .i64 0) ∧ ∃ U' V', St W w' U' B p g (N + 1) V' (L.trim n) R u (nN + 1) nX := by
  have hus := h.used
  have hro := h.room
  have hnn := h.n
  have hxx := h.nx
  have hsz := h.be.size
  refine (Trim10 wr U B p g N V L h.ws h.cln h.down (by unfold Sm; omega) n h1 h2 (by omega) (by omega)).mono ?_
  rintro e w' ⟨er, V', L', ov', rfl, k1, k2, k3⟩
  obtain ⟨rfl, rfl, rfl, a1, a2, a3, a4, a5⟩ := Trm.ok k3 h.fused
  refine ⟨rfl, _, V', k1, h.be.trans (k2.below (fun k hk _ => h.ws.ge k hk) (by omega)), a1, a4, a5, a2.trans hro, by omega, by omega, ?_⟩
  rw [Lg.trim_nx h1 h2]; omega
theorem ws_first8 {w : World} {U : Nat → Prop} {B p g N : Nat} {V : Vw} {L : Lg} {ov : Bool} (h : WS w U B p g N V L ov) : Calls Tryz.prog 26 #[.pointer (some ⟨p, 0, none⟩)] w fun e w' => e = .returned (.int .i64 (L.first : Nat)) ∧ Below w.heap.size w w' := by
  obtain ⟨S, T, k1, k2, _⟩ := h.ex
  refine (first8 w T p g L ov k2).mono ?_
  rintro e w' ⟨rfl, rfl⟩
  exact ⟨rfl, Below.refl _ _⟩
theorem St.below {W wr w' : World} {U : Nat → Prop} {B p g N : Nat} {V : Vw} {L : Lg} {R u nN nX : Nat} (h : St W wr U B p g N V L R u nN nX) (hB : B ≤ W.heap.size) (b : Below wr.heap.size wr w') : St W w' U B p g N V L R u nN nX :=
  ⟨h.ws.below b, h.be.trans (b.mono (by have := h.be.size; omega)), h.fused, h.down, h.cln, h.room, h.used, h.n, h.nx⟩
end Vg
end Go.Proofs.YtdaknlmnelfedaaGreatDoor
