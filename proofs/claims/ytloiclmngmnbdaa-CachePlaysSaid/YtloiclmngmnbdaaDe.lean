/- put and hold, one behind the other. -/
import Derived.Test.YtloiclmngmnbdaaCs
namespace Go.Proofs.Ytloiclmngmnbdaa
open Go.RowKit Go.Maps Go.ChangeMaps Go.MapKept
namespace De
open Jb Ca Ck Ct Cd Ls Lb Lc Ld Li Lj Lk Lm Ln Lo Lp Cq Cr Da Db Dc Ce Cs

theorem Dk.more {w : World} {S : Nat → Prop} {g N N' : Nat} {d : St} (h : Dk w S g N d) (hn : N ≤ N') : Dk w S g N' d :=
  ⟨h.cs, h.sg, h.lt, h.fv.imp id fun ⟨m, a, b, c, i⟩ => ⟨m, a, b, c, i.mono hn⟩, h.mf, h.fm, h.ap⟩
theorem puthold (w : World) (S : Nat → Prop) (g N : Nat) (d : St) (h : Dk w S g N d) (s : Ky) (hs : ok s) (c : Nat) (pt : Ptr w c (d.F s)) (hc : d.F s = none → ¬ S c) (p : Pnt) (hp : Wp p) (hl : (pts (d.F s)).length ≤ 511) (hN : N ≤ 140737488353000) :
    Calls Try.prog 35 #[.pointer (some ⟨c, 0, none⟩), pa p] w fun e w1 => e = .returned (.tuple #[]) ∧ Chg w w1 (ft c (d.F s)) ∧ ¬ ft c (d.F s) g ∧
      Calls Try.prog 36 #[.pointer (some ⟨g, 0, none⟩), kv s, .pointer (some ⟨c, 0, none⟩)] w1 fun e w2 => e = .returned (.tuple #[]) ∧ ∃ d', vw d' = { vw d with P := fun y => if y = s then ins p (pts (d.F s)) else (vw d).P y } ∧ Dk w2 (fun k => New S w w2 k ∨ k = c) g (N + 1) d' ∧ Chg w w2 (fun k => S k ∨ k = c) := by
  refine (put35p w c (d.F s) pt p hp hl).mono ?_
  rintro e w1 ⟨rfl, f', f1, f2, f3, f4, f5⟩
  have s1 := f4.size
  have hg : ¬ ft c (d.F s) g := by
    cases hF : d.F s with
    | none => intro e; exact hc hF (e ▸ h.sg)
    | some f => exact (h.fm s f hF).2.1
  have hpv : ∀ (G : Ky → Option Co), (G = fun y => if y = s then some f' else d.F y) → (fun y => pts (G y)) = fun y => if y = s then ins p (pts (d.F s)) else pts (d.F y) := fun G hG => by
    rw [hG]
    funext y
    by_cases e : y = s
    · simp only [e, if_true]; exact f2
    · simp only [e, if_false]
  refine ⟨rfl, f4, hg, ?_⟩
  cases hF : d.F s with
  | none =>
    rw [hF] at f4 f5 pt
    have hcS := hc hF
    have h1 : Dk w1 S g N d := h.chg f4 (fun k hk e => hcS (e ▸ hk))
    have hfd : ∀ k, foot f' k → ¬ S k := fun k hk hS => by
      rcases f5 k hk with e | e
      · exact hcS (e ▸ hS)
      · have := h.lt k hS; omega
    have H := hold36_new w1 S g N d h1 s hs hF f' f3 hfd hN
    rw [f1] at H
    refine H.mono ?_
    rintro e w2 ⟨rfl, m, k1, k2⟩
    have s2 := k2.size
    refine ⟨rfl, _, ?_, k1.set (fun k hk => ?_) (fun k hk => ?_), (f4.imp (S' := fun k => S k ∨ k = c) (fun k hk _ => .inr hk)).trans k2 (fun k hk _ => .inl hk)⟩
    · have := hpv (fun y => if y = s then some f' else d.F y) rfl
      rw [hF] at this
      unfold vw
      simp only [this]
    · rcases hk with (hk | hk) | hk
      · exact .inl (.inl hk)
      · exact .inl (.inr ⟨by omega, hk.2⟩)
      · rcases f5 k hk with e | e
        · exact .inr e
        · exact .inl (.inr ⟨e.1, by omega⟩)
    · rcases hk with (hk | hk) | hk
      · have := h.lt k hk; omega
      · exact hk.2
      · have := pt.lt (k := c) rfl; omega
  | some f =>
    rw [hF] at f4 f5 pt
    obtain ⟨rfl, _⟩ := pt
    have hS : ∀ k, foot f k → S k := (h.fm s f hF).2.2
    have k := h.cs.of_block (f4.block g (h.lt g h.sg) (h.fm s f hF).2.1)
    have h1 := h.file (w' := w1) (d' := { d with F := fun y => if y = s then some f' else d.F y }) hF (f4.imp (S' := fun k => k = g ∨ foot f k) fun k hk _ => .inr hk) ⟨k.c0, k.c1, k.c2, k.z, k.bm, k.bs⟩ rfl rfl f1 f3 f5
    refine (hold36_old w1 _ g N _ h1 s hs f' (by simp) f.blk).mono ?_
    rintro e w2 ⟨rfl, b2⟩
    have s2 := b2.size
    have h2 := Dk.more (h1.below b2 (Nat.le_refl _)) (Nat.le_succ N)
    refine ⟨rfl, _, ?_, h2.set (fun k hk => ?_) (fun k hk => ?_), (f4.imp (S' := fun k => S k ∨ k = f.blk) (fun k hk _ => .inl (hS k hk))).trans (Chg.of_below b2 (Nat.le_refl _) (fun _ => False)) (fun k hk _ => hk.elim)⟩
    · have := hpv (fun y => if y = s then some f' else d.F y) rfl
      rw [hF] at this
      unfold vw
      simp only [this]
    · rcases hk with hk | hk
      · exact .inl (.inl hk)
      · exact .inl (.inr ⟨hk.1, by omega⟩)
    · rcases hk with (hk | hk) | hk
      · have := h.lt k hk; omega
      · exact hk.2
      · have := h.lt k (hS k (.inl hk)); omega
end De
end Go.Proofs.Ytloiclmngmnbdaa
