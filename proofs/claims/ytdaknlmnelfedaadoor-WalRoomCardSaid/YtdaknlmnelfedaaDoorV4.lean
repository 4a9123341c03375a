/- The log's remove, undo and lay. -/
import Derived.Test.YtdaknlmnelfedaaDoorV3
namespace Go.Proofs.YtdaknlmnelfedaaDoor
open Go.RowKit Go.Maps Go.ChangeMaps Go.MapKept
namespace V4
open Jb Jm Jd Jw Jx Jn Je Jf Jg Jh Jk Jc Jl Jo Jq Jr J1 J2 J3 J4 W1 W2 W3 V1 V2 V3

/-- What a removal leaves. -/
def Rem (V : Vw) (s : ByteArray) (er : Nat) (V' : Vw) : Prop :=
  Kp V V' ∧ ((er = 8 ∧ V'.down = true ∧ (V.down = true ∨ V.fused = true) ∧ V'.F = V.F ∧ V'.used = V.used) ∨ (er = 0 ∧ V.down = false ∧ V'.down = false ∧ V'.used ≤ V.used ∧ ∀ x, V'.F x = if x = s then none else V.F x))
theorem disk_remove (w : World) (S : Nat → Prop) (g N : Nat) (V : Vw) (h : DV w S g N V) (u : UOk V N) (s : ByteArray) (hs : s.size ≤ 64) :
    Calls Tryd.prog 42 #[.pointer (some ⟨g, 0, none⟩), .string s] w fun e w' => ∃ (er : Nat) (V' : Vw), e = .returned (.int .i64 (er : Nat)) ∧ DV w' (New S w w') g N V' ∧ Chg w w' S ∧ UOk V' N ∧
      ((er = 6 ∧ Rem V s 0 V') ∨ (er ≠ 6 ∧ Rem V s er V')) := by
  by_cases hd : V.down = true
  · refine (remove_down w S g N V h s hs hd).mono ?_
    rintro e w' ⟨rfl, rfl⟩
    exact ⟨8, V, rfl, h.new, Chg.refl _ _, u, .inr ⟨by decide, Kp.refl _, .inl ⟨rfl, hd, .inl hd, rfl, rfl⟩⟩⟩
  · have hd' : V.down = false := by simpa using hd
    cases hF : V.F s with
    | none =>
      refine (remove_none w S g N V h s hs hF).mono ?_
      rintro e w' ⟨er, rfl, rfl, ⟨a, _⟩ | ⟨_, rfl⟩⟩
      · exact absurd a hd
      · refine ⟨6, V, rfl, h.new, Chg.refl _ _, u, .inl ⟨rfl, Kp.refl _, .inr ⟨rfl, hd', hd', Nat.le_refl _, fun x => ?_⟩⟩⟩
        by_cases e : x = s
        · rw [if_pos e, e, hF]
        · rw [if_neg e]
    | some b =>
      refine (remove_v w S g N V h u s hs b.1 b.2 hd' hF).mono ?_
      rintro e w' ⟨er, V', rfl, h1, h2, h3, h4, ⟨rfl, L⟩ | ⟨rfl, a, b, c⟩⟩
      · exact ⟨8, V', rfl, h1, h2, h3, .inr ⟨by decide, h4, .inl ⟨rfl, L.down, .inr L.fused, L.F, L.used⟩⟩⟩
      · exact ⟨0, V', rfl, h1, h2, h3, .inr ⟨by decide, h4, .inr ⟨rfl, hd', a, b, c⟩⟩⟩
theorem remove29 (w : World) (U : Nat → Prop) (B p g N : Nat) (V : Vw) (L : Lg) (ov : Bool) (h : WS w U B p g N V L ov) (s : ByteArray) (hs : s.size ≤ 64) :
    Calls Tryd.prog 29 #[.pointer (some ⟨p, 0, none⟩), .string s] w fun e w' => ∃ (er : Nat) (V' : Vw), e = .returned (.int .i64 (er : Nat)) ∧ WS w' (New U w w') B p g N V' L ov ∧ Chg w w' U ∧ Rem V s er V' := by
  obtain ⟨S, T, h1, h2, h3, h4, h5⟩ := h.ex
  have c0 := h2.c0
  have D := Lib.hid (disk_remove w S g N V h1 h.uok s hs)
  have FIN : Hid (∀ w' V' er, DV w' (New S w w') g N V' → Chg w w' S → UOk V' N → Rem V s er V' → ∃ (er' : Nat) (V' : Vw), Ending.returned (.int .i64 (er : Nat)) = .returned (.int .i64 (er' : Nat)) ∧ WS w' (New U w w') B p g N V' L ov ∧ Chg w w' U ∧ Rem V s er' V') := Lib.hid fun w' V' er k1 k2 k3 k4 => by
    obtain ⟨a, b⟩ := h.disk h2 h3 h4 h5 k1 k2 k3
    exact ⟨er, V', rfl, a, b, k4⟩
  clear h h1 h2 h3 h4 h5 hs
  go_enter Tryd.func29, Tryd.ntmps29
  go_wp2_with (go_at_call 42; refine (D.out).mono ?_; rintro e w' ⟨er, V', rfl, k1, k2, k3, ⟨rfl, k4⟩ | ⟨k5, k4⟩⟩)
  · go_wp2_with fail
    go_ret
    exact FIN.out _ _ 0 k1 k2 k3 k4
  · have k6 : ¬ ((er : Int) = 6) := by omega
    have K := Lib.hid (FIN.out _ _ er k1 k2 k3 k4)
    clear k1 k2 k3 k4
    go_wp2_with fail
    go_ret
    exact K.out
theorem newB : ({ data := #[119, 97, 108, 46, 110, 101, 119] } : ByteArray) = newN := rfl
theorem undo31 (w : World) (U : Nat → Prop) (B p g N : Nat) (V : Vw) (L : Lg) (ov : Bool) (h : WS w U B p g N V L ov) (er0 : Nat) (_ : er0 = 7 ∨ er0 = 8) :
    Calls Tryd.prog 31 #[.pointer (some ⟨p, 0, none⟩), .int .i64 (er0 : Nat)] w fun e w' => ∃ (er : Nat) (V' : Vw), e = .returned (.int .i64 (er : Nat)) ∧ WS w' (New U w w') B p g N V' L ov ∧ Chg w w' U ∧ ((er = 8 ∧ Rem V newN 8 V') ∨ (er = er0 ∧ Rem V newN 0 V')) := by
  have D := Lib.hid (remove29 w U B p g N V L ov h newN (by decide))
  clear h
  go_enter Tryd.func31, Tryd.ntmps31
  go_wp2_with (go_at_call 29; refine (D.out).mono ?_; rintro e w' ⟨er, V', rfl, k1, k2, k3⟩)
  · have hne : er ≠ 0 := by
      rename_i hh
      intro e; subst e; simp at hh
    go_ret
    refine ⟨er, V', rfl, k1, k2, .inl ?_⟩
    have h8 : er = 8 := by
      rcases k3.2 with a | a
      · exact a.1
      · exact absurd a.1 hne
    subst h8
    exact ⟨rfl, k3⟩
  · have h0 : er = 0 := by
      rename_i hh
      simp at hh
      omega
    subst h0
    go_ret
    exact ⟨er0, V', rfl, k1, k2, .inr ⟨rfl, k3⟩⟩
theorem fail18 (w : World) (U : Nat → Prop) (B p g N : Nat) (V : Vw) (L : Lg) (ov : Bool) (h : WS w U B p g N V L ov) (er : Nat) :
    Calls Tryd.prog 18 #[.pointer (some ⟨p, 0, none⟩), .int .i64 (er : Nat)] w fun e w' => e = .returned (.int .i64 (er : Nat)) ∧ WS w' (New U w w') B p g N V L ((er : Int) == 8) ∧ Chg w w' U := by
  obtain ⟨S, T, h1, h2, h3, h4, h5⟩ := h.ex
  have c3 := h2.c3
  have z3 := h2.z 3
  have FIN : Hid (∀ w', w' = w.setCell ⟨p, 3, none⟩ (.bool ((er : Int) == 8)) → WS w' (New U w w') B p g N V L ((er : Int) == 8) ∧ Chg w w' U) := Lib.hid fun w' hw => by
    have c : Chg w w' T := by rw [hw]; exact (Chg.refl w T).setCell h2.tp _
    refine h.mem h1 h3 h4 h5 ?_ (fun k hk => .inl hk) c
    obtain ⟨ev, a, b⟩ := h2.c2
    have ne : ∀ i, i ≠ 3 → w'.cell? ⟨p, i, none⟩ = w.cell? ⟨p, i, none⟩ := fun i hi => by rw [hw]; exact cell_other (by simp <;> omega)
    refine ⟨(ne 0 (by decide)).trans h2.c0, (ne 1 (by decide)).trans h2.c1, ⟨ev, (ne 2 (by decide)).trans a, b.move (fun _ hk => hk) fun k _ hk => by rw [hw]; exact heap_setCell_ne hk⟩, by rw [hw]; exact cell_same c3, fun i => by rw [hw]; simpa using h2.z i, h2.tp, fun k hk => by rw [hw]; simpa using h2.lt k hk, h2.byte, h2.len⟩
  clear h h1 h2 h3 h4 h5
  go_enter Tryd.func18, Tryd.ntmps18
  go_wp2_with fail
  go_ret
  exact ⟨rfl, FIN.out _ rfl⟩
end V4
end Go.Proofs.YtdaknlmnelfedaaDoor
