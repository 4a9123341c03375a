/- The log's Append, refused; the law's own test that the program is awake. -/
import Derived.Test.YtdaknlmnelfedaaDoorVe
namespace Go.Proofs.YtdaknlmnelfedaaDoor
open Go.RowKit Go.Maps Go.ChangeMaps Go.MapKept
namespace Vf
open Jb Jm Jd Jw Jx Jn Je Jf Jg Jh Jk Jc Jl Jo Jq Jr J1 J2 J3 J4 W1 W2 W3 V1 V2 V3 V4 V5 V6 V7 V8 V9 Va Vb Vc Vd Ve

theorem Append_bad (w : World) (U : Nat → Prop) (B p g N : Nat) (V : Vw) (L : Lg) (h : WS w U B p g N V L false) (a : Option Addr) (l c : Nat) (hl : l < 1 ∨ 1048576 < l) :
    Calls Tryd.prog 7 #[.pointer (some ⟨p, 0, none⟩), .slice a l c] w fun e w' => e = .returned (.int .i64 1) ∧ w' = w := by
  have OV := Lib.hid (ws_over h)
  by_cases h1 : l < 1
  · have d1 : decide ((l : Int) < 1) = true := decide_eq_true (by omega)
    obtain rfl : l = 0 := by omega
    clear h hl h1
    go_enter Tryd.func7, Tryd.ntmps7
    go_wp2_with (go_at_call 16; refine (OV.out).mono ?_; rintro e w ⟨rfl, rfl⟩)
    go_ret
    first | trivial | exact ⟨rfl, rfl⟩
  · have h2 : 1048576 < l := by omega
    have d1 : decide ((l : Int) < 1) = false := decide_eq_false (by omega)
    have d2 : decide ((l : Int) > 1048576) = true := decide_eq_true (by omega)
    clear h hl
    go_enter Tryd.func7, Tryd.ntmps7
    go_wp2_with (go_at_call 16; refine (OV.out).mono ?_; rintro e w ⟨rfl, rfl⟩)
    go_ret
    first | trivial | exact ⟨rfl, rfl⟩
theorem Append_over (w : World) (U : Nat → Prop) (B p g N : Nat) (V : Vw) (L : Lg) (h : WS w U B p g N V L true) (v : Value) :
    Calls Tryd.prog 7 #[.pointer (some ⟨p, 0, none⟩), v] w fun e w' => e = .returned (.int .i64 8) ∧ w' = w := by
  have OV := Lib.hid (ws_over h)
  clear h
  go_enter Tryd.func7, Tryd.ntmps7
  go_wp2_with (go_at_call 16; refine (OV.out).mono ?_; rintro e w ⟨rfl, rfl⟩)
  go_ret
  first | trivial | exact ⟨rfl, rfl⟩
/-- No fuse: what is opened, appended, trimmed is not lost. -/
theorem Cle.ok {V V' : Vw} {L : Lg} {er : Nat} (h : Cle V L er V') (hf : V.fused = false) : er = 0 ∧ V'.fused = false ∧ V'.room = V.room ∧ V'.used ≤ V.used ∧ V'.down = false ∧ Cln V' L := by
  obtain ⟨a, b, ⟨_, c, _⟩ | ⟨c, d, e⟩⟩ := h
  · rw [hf] at c; cases c
  · exact ⟨c, a.fused.trans hf, a.room, b, d, e⟩
theorem App.ok {V V' : Vw} {L L' : Lg} {bs : List Nat} {er : Nat} {ov' : Bool} (h : App V L bs er V' L' ov') (hf : V.fused = false) (hr : V.used + bs.length ≤ V.room) : er = 0 ∧ ov' = false ∧ L' = L.app bs ∧ V'.fused = false ∧ V'.room = V.room ∧ V'.used ≤ V.used + bs.length ∧ V'.down = false ∧ Cln V' L' := by
  obtain ⟨a, b, ⟨_, _, _, c, _⟩ | ⟨_, _, _, _, _, c⟩ | ⟨c, d, rfl, e, f⟩⟩ := h
  · rw [hf] at c; cases c
  · omega
  · exact ⟨c, d, rfl, a.fused.trans hf, a.room, b, e, f⟩
theorem Trm.ok {V V' : Vw} {L L' : Lg} {n er : Nat} {ov' : Bool} (h : Trm V L n er V' L' ov') (hf : V.fused = false) : er = 0 ∧ ov' = false ∧ L' = L.trim n ∧ V'.fused = false ∧ V'.room = V.room ∧ V'.used ≤ V.used ∧ V'.down = false ∧ Cln V' L' := by
  obtain ⟨a, b, ⟨_, _, _, c, _⟩ | ⟨c, d, rfl, e, f⟩⟩ := h
  · rw [hf] at c; cases c
  · exact ⟨c, d, rfl, a.fused.trans hf, a.room, b, e, f⟩
theorem uok0 (room : Nat) : UOk (V0 room) 0 := ⟨[], ⟨List.nodup_nil, fun x => by simp [V0]⟩, rfl, Nat.le_refl _⟩
/-- A new disk, opened. -/
theorem open_new {w w1 : World} {B room : Nat} (en : En w B) (hb : Below w.heap.size w w1) (h : DV w1 (fun k => w.heap.size ≤ k ∧ k < w1.heap.size) w.heap.size 0 (V0 room)) :
    Calls Tryd.prog 6 #[.pointer (some ⟨w.heap.size, 0, none⟩)] w1 fun e w' => ∃ (p : Nat) (V' : Vw), e = .returned (.tuple #[.pointer (some ⟨p, 0, none⟩), .int .i64 0]) ∧ WS w' (fun k => w.heap.size ≤ k ∧ k < w'.heap.size) B p w.heap.size 0 V' ⟨0, []⟩ false ∧ Below w.heap.size w w' ∧ V'.fused = false ∧ V'.room = room ∧ V'.used = 0 ∧ V'.down = false ∧ Cln V' ⟨0, []⟩ := by
  have hi := en.hi
  refine (Open6 w1 _ B w.heap.size 0 (V0 room) ⟨0, []⟩ h (uok0 room) (en.move hb.size fun k hk => hb.block k (by omega)) (fun k hk => by omega) (clean0 room).d rfl (by unfold Sm Lg.nx; simp) (by simp [V0]) (by simp) (by simp)).mono ?_
  rintro e w' ⟨p, er, V', he, h1, h2, h3⟩
  obtain ⟨rfl, a, b, c, d, f⟩ := Cle.ok h3 rfl
  have hz := h2.size
  rcases he with ⟨e', _⟩ | ⟨_, rfl⟩
  · exact absurd e' (by decide)
  · exact ⟨p, V', rfl, WS.set h1 (fun k hk => by rcases hk with e | e <;> exact ⟨by have := hb.size; omega, by omega⟩) (fun k hk => by omega) (fun k hk => hk.2), hb.trans (h2.below (fun k hk _ => hk.1) hb.size), a, b, Nat.le_zero.1 c, d, f⟩
def one : List Nat := [97]
set_option maxRecDepth 100000 in
theorem awake4 (w : World) (en : En w w.heap.size) : Calls Tryd.prog 4 #[] w fun e w' => e = .returned (.bool true) ∧ Below w.heap.size w w' := by
  have NE := Lib.hid (New_c w 1073741824 (by omega))
  have OP : Hid (∀ w1, DV w1 (fun k => w.heap.size ≤ k ∧ k < w1.heap.size) w.heap.size 0 (V0 1073741824) → Below w.heap.size w w1 → Calls Tryd.prog 6 #[.pointer (some ⟨w.heap.size, 0, none⟩)] w1 _) := Lib.hid fun w1 h b => open_new en b h
  have AP : Hid (∀ w2 p V, WS w2 (fun k => w.heap.size ≤ k ∧ k < w2.heap.size) w.heap.size p w.heap.size 0 V ⟨0, []⟩ false → Below w.heap.size w w2 → V.fused = false → V.room = 1073741824 → V.used = 0 → V.down = false → Cln V ⟨0, []⟩ →
      Calls Tryd.prog 7 #[.pointer (some ⟨p, 0, none⟩), .slice (some ⟨w2.heap.size, 0, none⟩) 1 1] (w2.alloc (.cells #[.int .u8 97] 5 (1, 2))) fun e w3 => e = .returned (.int .i64 0) ∧ Below w.heap.size w w3 ∧ Calls Tryd.prog 9 #[.pointer (some ⟨p, 0, none⟩)] w3 fun e w4 => e = .returned (.int .i64 1) ∧ Below w.heap.size w w4) := Lib.hid fun w2 p V h b h1 h2 h3 h4 h5 => by
    have hb := b.size
    have hB : Below w2.heap.size w2 (w2.alloc (.cells #[.int .u8 97] 5 (1, 2))) := (Below.refl _ w2).alloc (Nat.le_refl _) _
    have hs : (w2.alloc (.cells #[.int .u8 97] 5 (1, 2))).heap.size = w2.heap.size + 1 := by simp
    have hsrc : Src (w2.alloc (.cells #[.int .u8 97] 5 (1, 2))) (fun k => k = w2.heap.size) (.slice (some ⟨w2.heap.size, 0, none⟩) 1 1) one := by
      refine .inr ⟨by decide, w2.heap.size, 0, 1, rfl, by decide, rfl, fun i hi => ?_⟩
      have hi : i < 1 := hi
      rw [World.cell?_alloc_mark]
      obtain rfl : i = 0 := by omega
      rfl
    refine (Append7 _ _ w.heap.size p w.heap.size 0 V ⟨0, []⟩ (h.below hB) h5 h4 (by unfold Sm Lg.nx; simp) _ one (fun k => k = w2.heap.size) (fun k hk => ⟨by omega, by omega⟩) hsrc (fun c e => by cases e) (by decide) (by decide) (by decide) (by decide) (by rw [h3]; decide) (by simp)).mono ?_
    rintro e w3 ⟨er, V', L', ov', rfl, k1, k2, k3⟩
    obtain ⟨rfl, rfl, rfl, _⟩ := App.ok k3 h1 (by rw [h3, h2]; decide)
    have b3 : Below w.heap.size w w3 := (b.trans (hB.mono hb)).trans (k2.below (fun k hk _ => hk.1) (by omega))
    refine ⟨rfl, b3, ?_⟩
    refine (ws_next k1 (by unfold Sm Lg.nx Lg.app; simp)).mono ?_
    rintro e w4 ⟨rfl, b4⟩
    exact ⟨rfl, b3.trans (b4.mono b3.size)⟩
  have hcv := fun (y : World) => Lib.run_convert_bytes_const (P := Tryd.prog) y 23 5 #[.int .u8 97] 1 1 Tryd.underlying23 Tryd.underlying5
  clear en
  go_enter Tryd.func4, Tryd.ntmps4
  go_wp2_with (first | (go_at_call 5; refine (NE.out).mono ?_; rintro e w1 ⟨rfl, k1, b1⟩) | (go_at_call 6; refine (OP.out w1 k1 b1).mono ?_; rintro e w2 ⟨p, V, rfl, j1, b2, j2, j3, j4, j5, j6⟩; have AP1 := Lib.hid (AP.out w2 p V j1 b2 j2 j3 j4 j5 j6); clear j1 j2 j3 j4 j5 j6) | (go_at_call 7; refine (AP1.out).mono ?_; rintro e w3 ⟨rfl, b3, n3⟩; have N3 := Lib.hid n3; clear n3) | (go_at_call 9; refine (N3.out).mono ?_; rintro e w4 ⟨rfl, b4⟩))
  go_ret
  first | exact ⟨rfl, b4⟩ | (refine ⟨?_, b4⟩; rfl)
end Vf
end Go.Proofs.YtdaknlmnelfedaaDoor
