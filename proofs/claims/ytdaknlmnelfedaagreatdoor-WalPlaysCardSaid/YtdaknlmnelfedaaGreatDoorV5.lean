/- The log's lay. -/
import Derived.Test.YtdaknlmnelfedaaGreatDoorVx
namespace Go.Proofs.YtdaknlmnelfedaaGreatDoor
open Go.RowKit Go.Maps Go.ChangeMaps Go.MapKept
namespace V5
open Jb Jm Jd Jw Jx Jn Je Jf Jg Jh Jk Jc Jl Jo Jq Jr J1 J2 J3 J4 W1 W2 W3 V1 V2 V3 V4

/-- What an entry's laying leaves. -/
def Laid (V : Vw) (L : Lg) (bs : List Nat) (er : Nat) (V' : Vw) : Prop :=
  Kp V V' ∧ ((er = 8 ∧ V.fused = true ∧ V'.down = true ∧ Dirt V' L ∧ V'.used ≤ V.used + bs.length) ∨ (er = 7 ∧ V'.down = false ∧ Cln V' L ∧ V.room < V.used + bs.length ∧ V'.used ≤ V.used + bs.length) ∨
    (er = 0 ∧ V'.down = false ∧ Cln V' (L.app bs) ∧ V'.used ≤ V.used + bs.length))
theorem disk_call {w : World} {U : Nat → Prop} {B p g N : Nat} {V : Vw} {L : Lg} {ov : Bool} (h : WS w U B p g N V L ov) : w.cell? ⟨p, 0, none⟩ = some (.pointer (some ⟨g, 0, none⟩)) := by
  obtain ⟨S, T, h1, h2, h3, h4, h5⟩ := h.ex
  exact h2.c0
theorem ws_next {w : World} {U : Nat → Prop} {B p g N : Nat} {V : Vw} {L : Lg} {ov : Bool} (h : WS w U B p g N V L ov) (hs : Sm L.nx) : Calls Tryz.prog 18 #[.pointer (some ⟨p, 0, none⟩)] w fun e w' => e = .returned (.int .i64 (L.nx : Nat)) ∧ Below w.heap.size w w' := by
  obtain ⟨S, T, h1, h2, h3, h4, h5⟩ := h.ex
  exact next9 w T p g L ov h2 hs
theorem lay_append (w : World) (U : Nat → Prop) (B p g N : Nat) (V : Vw) (L : Lg) (ov : Bool) (h : WS w U B p g N V L ov) (hc : Cln V L) (hd : V.down = false) (v : Value) (bs : List Nat) (R : Nat → Prop) (hR : ∀ k, R k → ¬ U k) (hv : Src w R v bs) (hcap : ∀ c, v = .slice none bs.length c → c = 0) (hby : ∀ x ∈ bs, x < 256)
    (hN : N ≤ 140737488350000) (hB : V.used + bs.length ≤ 140737488355328) :
    Calls Tryz.prog 48 #[.pointer (some ⟨g, 0, none⟩), .string newN, v] w fun e w' => ∃ (n er : Nat) (V' : Vw), e = .returned (.tuple #[.int .i64 (n : Nat), .int .i64 (er : Nat)]) ∧ WS w' (New U w w') B p g (N + 1) V' L ov ∧ Chg w w' U ∧ Kp V V' ∧ V'.used ≤ V.used + bs.length ∧
      ((er = 8 ∧ V.fused = true ∧ V'.down = true ∧ Dirt V' L) ∨ (er = 7 ∧ V'.down = false ∧ V.room < V.used + bs.length ∧ ∀ s, s ≠ newN → V'.F s = V.F s) ∨ (er = 0 ∧ V'.down = false ∧ ∀ x, V'.F x = if x = newN then some (bs, 0) else V.F x)) := by
  obtain ⟨S, T, h1, h2, h3, h4, h5⟩ := h.ex
  have ho : old V newN = ([], 0) := by unfold old; rw [hc.new]; rfl
  refine (append_v w S g N V h1 h.uok newN isNm_new hd R (fun k hk hS => hR k hk (h4 k hS)) v bs hv hcap hby (by omega) hB).mono ?_
  rintro e w' ⟨n, er, V', rfl, k1, k2, k3, k4, k5⟩
  obtain ⟨a, b⟩ := h.disk h2 h3 h4 h5 k1 k2 k3
  refine ⟨n, er, V', rfl, a, b, k4, ?_, ?_⟩
  · rcases k5 with ⟨_, l⟩ | ⟨_, _, _, l, _⟩ | ⟨_, _, l, _⟩
    · have := l.used; omega
    · exact l
    · omega
  · rcases k5 with ⟨r, l⟩ | ⟨r, l1, l2, _, m, l3⟩ | ⟨r, l1, _, l2⟩
    · exact .inl ⟨r, l.fused, l.down, hc.d.same fun s _ => by rw [l.F]⟩
    · exact .inr (.inl ⟨r, l1, l2.1, fun s hs => by rw [l3, if_neg hs]⟩)
    · refine .inr (.inr ⟨r, l1, fun x => ?_⟩)
      rw [l2, ho]
      rfl
theorem lay_sync (w : World) (U : Nat → Prop) (B p g N : Nat) (V : Vw) (L : Lg) (ov : Bool) (h : WS w U B p g N V L ov) (hd : V.down = false) (bs : List Nat) (hF : V.F newN = some (bs, 0)) :
    Calls Tryz.prog 50 #[.pointer (some ⟨g, 0, none⟩), .string newN] w fun e w' => ∃ (er : Nat) (V' : Vw), e = .returned (.int .i64 (er : Nat)) ∧ WS w' (New U w w') B p g N V' L ov ∧ Chg w w' U ∧ Kp V V' ∧ V'.used = V.used ∧
      ((er = 8 ∧ V.fused = true ∧ V'.down = true ∧ V'.F = V.F) ∨ (er = 0 ∧ V'.down = false ∧ ∀ x, V'.F x = if x = newN then some (bs, bs.length) else V.F x)) := by
  obtain ⟨S, T, h1, h2, h3, h4, h5⟩ := h.ex
  refine (sync_v w S g N V h1 h.uok newN (by decide) bs 0 hd hF).mono ?_
  rintro e w' ⟨er, V', rfl, k1, k2, k3, k4, k5⟩
  obtain ⟨a, b⟩ := h.disk h2 h3 h4 h5 k1 k2 k3
  rcases k5 with ⟨r, l⟩ | ⟨r, l1, l2, l3⟩
  · exact ⟨er, V', rfl, a, b, k4, l.used, .inl ⟨r, l.fused, l.down, l.F⟩⟩
  · exact ⟨er, V', rfl, a, b, k4, l2, .inr ⟨r, l1, l3⟩⟩
theorem lay_rename (w : World) (U : Nat → Prop) (B p g N : Nat) (V : Vw) (L : Lg) (ov : Bool) (h : WS w U B p g N V L ov) (hd : V.down = false) (hs : Sm L.nx) (bs : List Nat) (hF : V.F newN = some (bs, bs.length)) (hN : N ≤ 140737488353000) :
    Calls Tryz.prog 51 #[.pointer (some ⟨g, 0, none⟩), .string newN, .string (ent L.nx)] w fun e w' => ∃ (er : Nat) (V' : Vw), e = .returned (.int .i64 (er : Nat)) ∧ WS w' (New U w w') B p g (N + 1) V' L ov ∧ Chg w w' U ∧ Kp V V' ∧ V'.used ≤ V.used ∧
      ((er = 8 ∧ V.fused = true ∧ V'.down = true ∧ V'.F = V.F) ∨ (er = 0 ∧ V'.down = false ∧ ∀ x, V'.F x = if x = ent L.nx then some (bs, bs.length) else if x = newN then none else V.F x)) := by
  obtain ⟨S, T, h1, h2, h3, h4, h5⟩ := h.ex
  refine (rename_v w S g N V h1 h.uok newN (ent L.nx) (by decide) (isNm_ent hs) ent_new.symm bs bs.length hd hF hN).mono ?_
  rintro e w' ⟨er, V', rfl, k1, k2, k3, k4, k5⟩
  obtain ⟨a, b⟩ := h.disk h2 h3 h4 h5 k1 k2 k3
  rcases k5 with ⟨r, l⟩ | ⟨r, l1, l2, l3⟩
  · exact ⟨er, V', rfl, a, b, k4, Nat.le_of_eq l.used, .inl ⟨r, l.fused, l.down, l.F⟩⟩
  · exact ⟨er, V', rfl, a, b, k4, l2, .inr ⟨r, l1, l3⟩⟩
theorem Chg.U {w w1 w2 : World} {U : Nat → Prop} (h1 : Chg w w1 U) (h2 : Chg w1 w2 (New U w w1)) : Chg w w2 U := h1.trans h2 fun k hk hl => hk.elim id fun e => by omega
set_option maxRecDepth 100000 in
theorem lay17 (w : World) (U : Nat → Prop) (B p g N : Nat) (V : Vw) (L : Lg) (ov : Bool) (h : WS w U B p g N V L ov) (hc : Cln V L) (hd : V.down = false) (hs : Sm L.nx) (v : Value) (bs : List Nat) (R : Nat → Prop) (hR : ∀ k, R k → ¬ U k) (hv : Src w R v bs) (hcap : ∀ c, v = .slice none bs.length c → c = 0) (hby : ∀ x ∈ bs, x < 256)
    (hN : N ≤ 140737488350000) (hB : V.used + bs.length ≤ 140737488355328) :
    Calls Tryz.prog 35 #[.pointer (some ⟨p, 0, none⟩), v] w fun e w' => ∃ (er : Nat) (V' : Vw), e = .returned (.int .i64 (er : Nat)) ∧ WS w' (New U w w') B p g (N + 2) V' L ov ∧ Chg w w' U ∧ Laid V L bs er V' := by
  have C0 := disk_call h
  have A := Lib.hid (lay_append w U B p g N V L ov h hc hd v bs R hR hv hcap hby hN hB)
  have HC := Lib.hid hc
  have hz : Hid (V.used + bs.length ≤ 140737488355328) := Lib.hid hB
  -- the ways, each to its end
  have UN : Hid (∀ w1 V1 er0, WS w1 (New U w w1) B p g (N + 1) V1 L ov → er0 = 7 ∨ er0 = 8 → Calls Tryz.prog 49 #[.pointer (some ⟨p, 0, none⟩), .int .i64 (er0 : Nat)] w1 _) := Lib.hid fun w1 V1 er0 k h0 => undo31 w1 (New U w w1) B p g (N + 1) V1 L ov k er0 h0
  have CD : Hid (∀ x V1 M, WS x (New U w x) B p g M V1 L ov → x.cell? ⟨p, 0, none⟩ = some (.pointer (some ⟨g, 0, none⟩))) := Lib.hid fun x V1 M k => disk_call k
  have SY : Hid (∀ w1 V1, WS w1 (New U w w1) B p g (N + 1) V1 L ov → V1.down = false → V1.F newN = some (bs, 0) → Calls Tryz.prog 50 #[.pointer (some ⟨g, 0, none⟩), .string newN] w1 _) := Lib.hid fun w1 V1 k k2 k3 => lay_sync w1 (New U w w1) B p g (N + 1) V1 L ov k k2 bs k3
  have NX : Hid (∀ x V1, WS x (New U w x) B p g (N + 1) V1 L ov → Calls Tryz.prog 18 #[.pointer (some ⟨p, 0, none⟩)] x _) := Lib.hid fun x V1 k => ws_next k hs
  have EN : Hid (∀ x V1, WS x (New U w x) B p g (N + 1) V1 L ov → Calls Tryz.prog 44 #[.int .i64 (L.nx : Nat)] x _) := Lib.hid fun x V1 k => ent26 x k.en.tab L.nx hs
  have RN : Hid (∀ x V1, WS x (New U w x) B p g (N + 1) V1 L ov → V1.down = false → V1.F newN = some (bs, bs.length) → Calls Tryz.prog 51 #[.pointer (some ⟨g, 0, none⟩), .string newN, .string (ent L.nx)] x _) := Lib.hid fun x V1 k k2 k3 => lay_rename x (New U w x) B p g (N + 1) V1 L ov k k2 hs bs k3 (by omega)
  have HS := Lib.hid hs
  clear h hc hd hs hR hv hcap hby hN hB
  generalize hnx : L.nx = nx at EN RN NX
  have HX := Lib.hid hnx
  clear hnx
  -- ends
  have F8 : Hid (∀ w1 V1 w2 V2, WS w1 (New U w w1) B p g (N + 1) V1 L ov → Chg w w1 U → Kp V V1 → V1.used ≤ V.used + bs.length → V.fused = true → V1.down = true → Dirt V1 L → WS w2 (New (New U w w1) w1 w2) B p g (N + 1) V2 L ov → Chg w1 w2 (New U w w1) → Rem V1 newN 8 V2 →
      WS w2 (New U w w2) B p g (N + 2) V2 L ov ∧ Chg w w2 U ∧ Laid V L bs 8 V2) := Lib.hid fun w1 V1 w2 V2 a1 a2 a3 a4 a5 a6 a7 b1 b2 b3 => by
    obtain ⟨c1, ⟨_, c2, c3, c4, c5⟩ | ⟨c, _⟩⟩ := b3
    · exact ⟨(b1.two a2.size b2.size).mono (by omega), Chg.U a2 b2, a3.trans c1, .inl ⟨rfl, a5, c2, a7.same fun s _ => by rw [c4], by omega⟩⟩
    · exact absurd c (by decide)
  have F7 : Hid (∀ w1 V1 w2 V2 er, WS w1 (New U w w1) B p g (N + 1) V1 L ov → Chg w w1 U → Kp V V1 → V1.used ≤ V.used + bs.length → V1.down = false → V.room < V.used + bs.length → (∀ s, s ≠ newN → V1.F s = V.F s) → WS w2 (New (New U w w1) w1 w2) B p g (N + 1) V2 L ov → Chg w1 w2 (New U w w1) → (er = 8 ∧ Rem V1 newN 8 V2) ∨ (er = 7 ∧ Rem V1 newN 0 V2) →
      WS w2 (New U w w2) B p g (N + 2) V2 L ov ∧ Chg w w2 U ∧ Laid V L bs er V2) := Lib.hid fun w1 V1 w2 V2 er a1 a2 a3 a4 a5 a6 a7 b1 b2 b3 => by
    refine ⟨(b1.two a2.size b2.size).mono (by omega), Chg.U a2 b2, ?_⟩
    rcases b3 with ⟨rfl, c1, c⟩ | ⟨rfl, c1, c⟩
    · rcases c with ⟨_, c2, c3, c4, c5⟩ | ⟨c, _⟩
      · refine ⟨a3.trans c1, .inl ⟨rfl, ?_, c2, HC.out.d.same fun s hs => by rw [c4, a7 s hs], by omega⟩⟩
        rcases c3 with c3 | c3
        · rw [a5] at c3; cases c3
        · rw [← a3.fused]; exact c3
      · exact absurd c (by decide)
    · rcases c with ⟨c, _⟩ | ⟨_, _, c2, c3, c4⟩
      · exact absurd c (by decide)
      · refine ⟨a3.trans c1, .inr (.inl ⟨rfl, c2, HC.out.same fun s => ?_, a6, by omega⟩)⟩
        rw [c4]
        by_cases e : s = newN
        · rw [if_pos e, e, HC.out.new]
        · rw [if_neg e, a7 s e]
  have FS : Hid (∀ w1 V1 w2 V2, Chg w w1 U → Kp V V1 → V1.used ≤ V.used + bs.length → (∀ x, V1.F x = if x = newN then some (bs, 0) else V.F x) → WS w2 (New (New U w w1) w1 w2) B p g (N + 1) V2 L ov → Chg w1 w2 (New U w w1) → Kp V1 V2 → V2.used = V1.used → V1.fused = true → V2.down = true → V2.F = V1.F →
      WS w2 (New U w w2) B p g (N + 2) V2 L ov ∧ Chg w w2 U ∧ Laid V L bs 8 V2) := Lib.hid fun w1 V1 w2 V2 a2 a3 a4 a5 b1 b2 b3 b4 b5 b6 b7 => by
    refine ⟨(b1.two a2.size b2.size).mono (by omega), Chg.U a2 b2, a3.trans b3, .inl ⟨rfl, by rw [← a3.fused]; exact b5, b6, HC.out.d.same fun s hs => by rw [b7, a5, if_neg hs], by omega⟩⟩
  have FR : Hid (∀ w1 V1 w2 V2 x w3 V3 er, Chg w w1 U → Kp V V1 → V1.used ≤ V.used + bs.length → (∀ x, V1.F x = if x = newN then some (bs, 0) else V.F x) → Chg w1 w2 (New U w w1) → Kp V1 V2 → V2.used = V1.used → (∀ x, V2.F x = if x = newN then some (bs, bs.length) else V1.F x) → Below w2.heap.size w2 x →
      WS w3 (New (New U w x) x w3) B p g (N + 1 + 1) V3 L ov → Chg x w3 (New U w x) → Kp V2 V3 → V3.used ≤ V2.used → ((er = 8 ∧ V2.fused = true ∧ V3.down = true ∧ V3.F = V2.F) ∨ (er = 0 ∧ V3.down = false ∧ ∀ x, V3.F x = if x = ent L.nx then some (bs, bs.length) else if x = newN then none else V2.F x)) →
      WS w3 (New U w w3) B p g (N + 2) V3 L ov ∧ Chg w w3 U ∧ Laid V L bs er V3) := Lib.hid fun w1 V1 w2 V2 x w3 V3 er a2 a3 a4 a5 b2 b3 b4 b5 hx d1 d2 d3 d4 d5 => by
    have c2 : Chg w w2 U := Chg.U a2 b2
    have cx : Chg w x U := c2.trans (Chg.of_below hx (Nat.le_refl _) (fun _ => False)) fun k hk => hk.elim
    refine ⟨d1.two cx.size d2.size, Chg.U cx d2, (a3.trans b3).trans d3, ?_⟩
    have hk := (a3.trans b3).fused
    have hF2 : ∀ s, s ≠ newN → V2.F s = V.F s := fun s hs => by rw [b5, if_neg hs, a5, if_neg hs]
    rcases d5 with ⟨rfl, d5, d6, d7⟩ | ⟨rfl, d6, d7⟩
    · exact .inl ⟨rfl, by rw [← hk]; exact d5, d6, HC.out.d.same fun s hs => by rw [d7, hF2 s hs], by omega⟩
    · refine .inr (.inr ⟨rfl, d6, HC.out.app HS.out bs fun s => ?_, by omega⟩)
      rw [d7]
      by_cases e : s = ent L.nx
      · rw [if_pos e, if_pos e]
      · rw [if_neg e, if_neg e]
        by_cases e' : s = newN
        · rw [if_pos e', e', HC.out.new]
        · rw [if_neg e', hF2 s e']
  rw [HX.out] at FR
  have MV : Hid (∀ w1 w2 V2, Chg w w1 U → WS w2 (New (New U w w1) w1 w2) B p g (N + 1) V2 L ov → Chg w1 w2 (New U w w1) → ∀ x, Below w2.heap.size w2 x → WS x (New U w x) B p g (N + 1) V2 L ov) := Lib.hid fun w1 w2 V2 a2 b1 b2 x hx => by
    have k := (b1.two a2.size b2.size).below hx
    exact (k.new (w := w2) (by have := b1.en.hi; omega)).two (Nat.le_trans a2.size b2.size) hx.size
  clear HC hz HS HX
  go_enter Tryz.func35, Tryz.ntmps35
  rw [newB]
  go_wp2_with (go_at_call 48; refine (A.out).mono ?_; rintro e w1 ⟨n, er, V1, rfl, k1, k2, k3, k4, k5⟩; have cd1 := CD.out w1 V1 _ k1; rcases k5 with ⟨rfl, k5, k6, k7⟩ | ⟨rfl, k5, k6, k7⟩ | ⟨rfl, k5, k6⟩)
  · have K := Lib.hid (F8.out w1 V1 · · k1 k2 k3 k4 k5 k6 k7)
    have UN1 := Lib.hid (UN.out w1 V1 8 k1 (.inr rfl))
    have HD := Lib.hid k6
    clear k1 k2 k3 k4 k5 k6 k7
    go_wp2_with (go_at_call 49; refine (UN1.out).mono ?_; rintro e w2 ⟨er, V2, rfl, j1, j2, j3⟩)
    go_ret
    rcases j3 with ⟨rfl, j3⟩ | ⟨rfl, j3⟩
    · exact ⟨8, V2, rfl, K.out w2 V2 j1 j2 j3⟩
    · rcases j3.2 with ⟨c, _⟩ | ⟨_, c, _⟩
      · exact absurd c (by decide)
      · rw [HD.out] at c; cases c
  · have K := Lib.hid (F7.out w1 V1 · · · k1 k2 k3 k4 k5 k6 k7)
    have UN1 := Lib.hid (UN.out w1 V1 7 k1 (.inl rfl))
    clear k1 k2 k3 k4 k5 k6 k7
    go_wp2_with (go_at_call 49; refine (UN1.out).mono ?_; rintro e w2 ⟨er, V2, rfl, j1, j2, j3⟩)
    go_ret
    exact ⟨er, V2, rfl, K.out w2 V2 er j1 j2 j3⟩
  · have hn : V1.F newN = some (bs, 0) := by rw [k6, if_pos rfl]
    have SY1 := Lib.hid (SY.out w1 V1 k1 k5 hn)
    have K1 := Lib.hid k1
    have K2 := Lib.hid k2
    have K3 := Lib.hid k3
    have K4 := Lib.hid k4
    have K6 := Lib.hid k6
    clear k1 k2 k3 k4 k5 k6 hn
    go_wp2_with (go_at_call 50; refine (SY1.out).mono ?_; rintro e w2 ⟨er, V2, rfl, j1, j2, j3, j4, ⟨rfl, j5, j6, j7⟩ | ⟨rfl, j5, j6⟩⟩)
    · have K := Lib.hid (FS.out w1 V1 w2 V2 K2.out K3.out K4.out K6.out j1 j2 j3 j4 j5 j6 j7)
      clear j1 j2 j3 j4 j5 j6 j7
      go_wp2_with fail
      go_ret
      exact ⟨8, V2, rfl, K.out⟩
    · have M := Lib.hid (MV.out w1 w2 V2 K2.out j1 j2)
      have hn : V2.F newN = some (bs, bs.length) := by rw [j6, if_pos rfl]
      have NX1 := Lib.hid (fun x hx => NX.out x V2 (M.out x hx))
      have EN1 := Lib.hid (fun x hx => EN.out x V2 (M.out x hx))
      have RN1 := Lib.hid (fun x hx => RN.out x V2 (M.out x hx) j5 hn)
      have CD1 := Lib.hid (fun x hx => CD.out x V2 _ (M.out x hx))
      have K := Lib.hid (FR.out w1 V1 w2 V2 · · · · K2.out K3.out K4.out K6.out j2 j3 j4 j6)
      have b0 : Below w2.heap.size w2 w2.drew := ⟨rfl, rfl, rfl, Nat.le_refl _, fun _ _ => rfl⟩
      have kX := CD1.out w2.drew b0
      clear j1 j2 j3 j4 j5 j6 hn cd1 K1 K2 K3 K4 K6
      go_upto_region 7 with (fail)
      go_region_held (fun x => x.cell? ⟨p, 0, none⟩ = some (.pointer (some ⟨g, 0, none⟩)))
        (first | exact kX | exact kY | exact kZ | exact kW)
        (first | (go_at_call 18; refine (NX1.out _ b0).mono ?_; rintro e x1 ⟨rfl, hx1⟩; have b1 := b0.trans (hx1.mono b0.size); have kY := CD1.out x1 b1) | (go_at_call 44; refine (EN1.out _ b1).mono ?_; rintro e x2 ⟨rfl, hx2⟩; have b2 := b1.trans (hx2.mono b1.size); have kZ := CD1.out x2 b2) | (go_at_call 51; refine (RN1.out _ b2).mono ?_; rintro e x3 ⟨er, V3, rfl, m1, m2, m3, m4, m5⟩; have kW := disk_call m1; have P := Lib.hid (K.out x2 x3 V3 er b2 m1 m2 m3 m4 m5); clear m1 m2 m3 m4 m5))
      go_wp2_with fail
      go_ret
      exact ⟨er, V3, rfl, P.out⟩
end V5
end Go.Proofs.YtdaknlmnelfedaaGreatDoor
