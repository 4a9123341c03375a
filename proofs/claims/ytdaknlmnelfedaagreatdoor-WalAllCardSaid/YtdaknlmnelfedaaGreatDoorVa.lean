/- The log's Trim. -/
import Derived.Test.YtdaknlmnelfedaaGreatDoorV9
namespace Go.Proofs.YtdaknlmnelfedaaGreatDoor
open Go.RowKit Go.Maps Go.ChangeMaps Go.MapKept
namespace Va
open Jb Jm Jd Jw Jx Jn Je Jf Jg Jh Jk Jc Jl Jo Jq Jr J1 J2 J3 J4 W1 W2 W3 V1 V2 V3 V4 V5 V6 V7 V8 V9

/-- What a Trim answers, and leaves. -/
def Trm (V : Vw) (L : Lg) (n : Nat) (er : Nat) (V' : Vw) (L' : Lg) (ov' : Bool) : Prop :=
  Kp V V' ∧ V'.used ≤ V.used ∧ ((er = 8 ∧ ov' = true ∧ L' = L ∧ V.fused = true ∧ V'.down = true ∧ (Dirt V' L ∨ Dirt V' (L.trim n))) ∨
    (er = 0 ∧ ov' = false ∧ L' = L.trim n ∧ V'.down = false ∧ Cln V' (L.trim n)))
theorem ws_forget (w : World) (U : Nat → Prop) (B p g N : Nat) (V : Vw) (L : Lg) (ov : Bool) (h : WS w U B p g N V L ov) (n : Nat) (h1 : L.first ≤ n) (h2 : n ≤ L.nx) (hs : Sm L.nx) :
    Calls Tryz.prog 39 #[.pointer (some ⟨p, 0, none⟩), .int .i64 (n : Nat)] w fun e w' => e = .returned (.tuple #[]) ∧ WS w' (New U w w') B p g N V (L.trim n) ov ∧ Chg w w' U := by
  obtain ⟨S, T, k1, k2, k3, k4, k5⟩ := h.ex
  refine (forget21 w T p g L ov k2 n h1 h2 hs).mono ?_
  rintro e w' ⟨rfl, a, b⟩
  exact ⟨rfl, h.mem k1 k3 k4 k5 a (fun k hk => .inl hk) b⟩
theorem ws_over {w : World} {U : Nat → Prop} {B p g N : Nat} {V : Vw} {L : Lg} {ov : Bool} (h : WS w U B p g N V L ov) : Calls Tryz.prog 34 #[.pointer (some ⟨p, 0, none⟩)] w fun e w' => e = .returned (.bool ov) ∧ w' = w := by
  obtain ⟨S, T, k1, k2, _⟩ := h.ex
  exact over16 w T p g L ov k2
set_option maxRecDepth 100000 in
theorem Trim10 (w : World) (U : Nat → Prop) (B p g N : Nat) (V : Vw) (L : Lg) (h : WS w U B p g N V L false) (hc : Cln V L) (hd : V.down = false) (hs : Sm L.nx) (n : Nat) (h1 : L.first ≤ n) (h2 : n ≤ L.nx) (hN : N ≤ 140737488350000) (hB : V.used ≤ 140737488355328) :
    Calls Tryz.prog 21 #[.pointer (some ⟨p, 0, none⟩), .int .i64 (n : Nat)] w fun e w' => ∃ (er : Nat) (V' : Vw) (L' : Lg) (ov' : Bool), e = .returned (.int .i64 (er : Nat)) ∧ WS w' (New U w w') B p g (N + 1) V' L' ov' ∧ Chg w w' U ∧ Trm V L n er V' L' ov' := by
  have OV := Lib.hid (ws_over h)
  have NX := Lib.hid (ws_next h hs)
  have f1 := ws_first h
  have MX : Hid (∀ x, Below w.heap.size w x → WS x U B p g N V L false) := Lib.hid fun x hx => h.below hx
  have MK := Lib.hid (fun x hx => mark20 x U B p g N V L false (MX.out x hx) hc hd hs n h1 h2 hN hB)
  have MV : Hid (∀ x w1 M V1 L1 ov1, Below w.heap.size w x → WS w1 (New U x w1) B p g M V1 L1 ov1 → Chg x w1 U → WS w1 (New U w w1) B p g M V1 L1 ov1 ∧ Chg w w1 U) := Lib.hid fun x w1 M V1 L1 ov1 hx k1 k2 => by
    refine ⟨?_, (Chg.of_below hx (Nat.le_refl _) U).trans k2 fun k hk _ => hk⟩
    obtain ⟨S, T, q1, q2, q3, q4, q5⟩ := k1.ex
    have hz := hx.size
    have hz2 := k2.size
    have up : ∀ k, New U x w1 k → New U w w1 k := fun k hk => hk.imp id fun e => ⟨by omega, e.2⟩
    have hB' := h.en.hi
    exact ⟨⟨S, T, q1, q2, q3, fun k hk => up k (q4 k hk), fun k hk => up k (q5 k hk)⟩, k1.uok, k1.en, fun k hk => hk.elim (h.ge k) (fun e => by omega), fun k hk => hk.elim (fun e => by have := h.lt k e; omega) (fun e => e.2)⟩
  have FL := Lib.hid (fun w1 V1 (k : WS w1 (New U w w1) B p g (N + 1) V1 L false) => fail18 w1 (New U w w1) B p g (N + 1) V1 L false k 8)
  have FG := Lib.hid (fun w1 V1 (k : WS w1 (New U w w1) B p g (N + 1) V1 L false) => ws_forget w1 (New U w w1) B p g (N + 1) V1 L false k n h1 h2 hs)
  obtain ⟨F, hF⟩ : ∃ F, F = L.first := ⟨_, rfl⟩
  obtain ⟨X, hX⟩ : ∃ X, X = L.nx := ⟨_, rfl⟩
  rw [← hF] at f1
  rw [← hX] at NX
  have d1 : decide ((n : Int) < (F : Int)) = false := decide_eq_false (by omega)
  have d2 : decide ((n : Int) > (X : Int)) = false := decide_eq_false (by omega)
  have q0 : F ≤ n := by omega
  have q1 : ¬ n < F := by omega
  have q2 : ¬ X < n := by omega
  clear h hc hd hs h1 h2 hN hB hF hX
  go_enter Tryz.func21, Tryz.ntmps21
  go_wp2_with (first | (go_at_call 34; refine (OV.out).mono ?_; rintro e w ⟨rfl, rfl⟩) | (go_at_call 18; refine (NX.out).mono ?_; rintro e x ⟨rfl, hx⟩) | (go_at_call 38; refine (MK.out x hx).mono ?_; rintro e w1 ⟨er, V1, rfl, k1, k2, k3, k4, k5⟩; obtain ⟨k1, k2⟩ := MV.out x w1 _ _ _ _ hx k1 k2; have K2 := Lib.hid k2; have K3 := Lib.hid k3; have K4 := Lib.hid k4; clear k2 k3 k4; rcases k5 with ⟨rfl, k5, k6, k7⟩ | ⟨rfl, k5, k6⟩))
  · have F1 := Lib.hid (FL.out w1 V1 k1)
    go_wp2_with (go_at_call 36; refine (F1.out).mono ?_; rintro e w2 ⟨rfl, j1, j2⟩)
    go_ret
    exact ⟨8, V1, L, true, rfl, j1.two K2.out.size j2.size, Chg.U K2.out j2, K3.out, K4.out, .inl ⟨rfl, rfl, rfl, k5, k6, k7⟩⟩
  · have F1 := Lib.hid (FG.out w1 V1 k1)
    go_wp2_with (go_at_call 39; refine (F1.out).mono ?_; rintro e w2 ⟨rfl, j1, j2⟩)
    go_ret
    exact ⟨0, V1, _, false, rfl, j1.two K2.out.size j2.size, Chg.U K2.out j2, K3.out, K4.out, .inr ⟨rfl, rfl, rfl, k5, k6⟩⟩
end Va
end Go.Proofs.YtdaknlmnelfedaaGreatDoor
