/- latest. -/
import Derived.Test.YtbmdjmckgcjfcaaNq
namespace Go.Proofs.Ytbmdjmckgcjfcaa
open Go.RowKit Go.Maps Go.ChangeMaps Go.MapKept
namespace Np
open Lm Bs Fa Lp

def ans : Option Nat → Value
  | none => .tuple #[.int .i64 0, .bool false]
  | some p => .tuple #[.int .i64 (p : Nat), .bool true]

theorem Ps.drewN {w : World} {S : Nat → Prop} {g : Nat} {v : Value} {b : List Nat} {N : Nat} (h : Ps w S g v b N) (m : Nat) : Ps (w.drewN m) S g v b N := h.move (Nat.le_refl _) fun _ _ _ => rfl

/-- What the two look-ups answer. -/
theorem two_looks {w : World} {S : Nat → Prop} {g : Nat} {v : Value} {b : List Nat} {a : Nat} (hX : ∀ x ∈ b, x < 256) (h4 : a + 4 ≤ b.length) (h : Ps w S g v b a) :
    ∃ m1 m2, Hp w g v a m1 m2 ∧
      ((∃ q, q < a ∧ (Instr.lookup 48 (.map (some m1)) (.int .u32 (f4 b a : Nat)) true).run Try.prog w = .ok (.tuple #[.int .i64 (q : Nat), .bool true]) w ∧ latest b a = if a - q ≤ 65535 then some q else none) ∨
       (∃ q, q < a ∧ (Instr.lookup 48 (.map (some m1)) (.int .u32 (f4 b a : Nat)) true).run Try.prog w = .ok (.tuple #[.int .i64 0, .bool false]) w ∧ (Instr.lookup 48 (.map (some m2)) (.int .u32 (f4 b a : Nat)) true).run Try.prog w = .ok (.tuple #[.int .i64 (q : Nat), .bool true]) w ∧ latest b a = if a - q ≤ 65535 then some q else none) ∨
       ((Instr.lookup 48 (.map (some m1)) (.int .u32 (f4 b a : Nat)) true).run Try.prog w = .ok (.tuple #[.int .i64 0, .bool false]) w ∧ (Instr.lookup 48 (.map (some m2)) (.int .u32 (f4 b a : Nat)) true).run Try.prog w = .ok (.tuple #[.int .i64 0, .bool false]) w ∧ latest b a = none)) := by
  obtain ⟨m1, m2, s, n1, n2, hS, hne, hp, hr, hn, i1, i2⟩ := h
  refine ⟨m1, m2, hp, ?_⟩
  rcases i1.look (f4_lt hX a) with ⟨h1, r1⟩ | ⟨q, h1, r1⟩
  · rcases i2.look (f4_lt hX a) with ⟨h2, r2⟩ | ⟨q, h2, r2⟩
    · exact .inr (.inr ⟨r1, r2, both_none hX hr h1 h2⟩)
    · exact .inr (.inl ⟨q, by have := (last_some h2).2.1; have := hr.2.1; omega, r1, r2, older_some hX h4 hr.2.1 h1 h2⟩)
  · exact .inl ⟨q, (last_some h1).2.1, r1, newer_some hX h4 h1⟩

set_option maxRecDepth 100000 in
set_option maxHeartbeats 2000000 in
theorem latest11 (w : World) (S R : Nat → Prop) (g : Nat) (v : Value) (b : List Nat) (N a : Nat) (hP : Ps w S g v b N) (hS : Src w R v b) (hR : ∀ k, R k → ¬ S k) (hX : ∀ x ∈ b, x < 256) (hNa : N ≤ a) (ha : a ≤ b.length) (hl : b.length ≤ 140737488353272) :
    Calls Try.prog 11 #[.pointer (some ⟨g, 0, none⟩), .int .i64 (a : Nat)] w fun e w' => e = .returned (ans (latest b a)) ∧ (∃ M, M ≤ a ∧ Ps w' S g v b M) ∧ Chg w w' S := by
  obtain ⟨ad, c, rfl⟩ := hS.forms
  obtain ⟨n, hn⟩ : ∃ n, n = b.length := ⟨_, rfl⟩
  by_cases h4 : a + 4 ≤ b.length
  · have F20 := Lib.hid (note20 w S R g _ b N a hP hS hR hX hNa h4 hl)
    have F21 : Hid (∀ x, Chg w x S → Calls Try.prog 21 #[.slice ad b.length c, .int .i64 (a : Nat)] x fun e x' => e = .returned (.int .u32 (f4 b a : Nat)) ∧ ∃ m, x' = x.drewN m) := Lib.hid fun x hc => fourAt21 x R _ b a (hS.move fun k hk hlt => hc.block k hlt (hR k hk)) hX h4 hl
    have FL : Hid (∀ x, Ps x S g (.slice ad b.length c) b a → _) := Lib.hid fun x h => two_looks hX h4 h
    have c0 : w.cell? ⟨g, 0, none⟩ = some (.slice ad b.length c) := by obtain ⟨m1, m2, s, n1, n2, hS, hne, hp, _⟩ := hP; exact hp.c0
    rw [← hn] at h4 ha hl F20 F21 FL c0 ⊢
    have hlt : ¬ (n : Int) - (a : Int) < 4 := by omega
    clear hP hS hR hX hn
    go_enter Try.func11, Try.ntmps11
    go_wp2_with (go_at_call 20; refine F20.out.mono ?_; rintro e w1 ⟨rfl, hP1, hC1⟩; have P1 := Lib.hid hP1; have C1 := Lib.hid hC1; have c01 : w1.cell? ⟨g, 0, none⟩ = some (.slice ad n c) := (by obtain ⟨m1, m2, s, n1, n2, hS, hne, hp, _⟩ := hP1; exact hp.c0); clear hP1 hC1)
    refine (F21.out _ C1.out).mono ?_
    rintro e w2 ⟨rfl, hm2⟩
    have P2 : Hid (Ps w2 S g (.slice ad n c) b a) := Lib.hid (by obtain ⟨m, rfl⟩ := hm2; exact P1.out.drewN m)
    have C2 : Hid (Chg w w2 S) := Lib.hid (by obtain ⟨m, rfl⟩ := hm2; exact C1.out.drewN m)
    obtain ⟨m1, m2, hp, hcase⟩ := FL.out _ P2.out
    have c2 := hp.c2
    have c3 := hp.c3
    clear hp hm2 c01 c0
    rcases hcase with ⟨q, hq, r1, hla⟩ | ⟨q, hq, r1, r2, hla⟩ | ⟨r1, r2, hla⟩
    · by_cases hf : a - q ≤ 65535
      · rw [if_pos hf] at hla
        have HLA := Lib.hid hla
        have hf' : ¬ (a : Int) - (q : Int) > 65535 := by omega
        clear hla
        go_wp2_with fail
        go_ret2
        exact ⟨by rw [HLA.out]; rfl, ⟨a, Nat.le_refl _, P2.out⟩, C2.out⟩
      · rw [if_neg hf] at hla
        have HLA := Lib.hid hla
        have hf' : (a : Int) - (q : Int) > 65535 := by omega
        clear hla
        go_wp2_with fail
        go_ret2
        exact ⟨by rw [HLA.out]; rfl, ⟨a, Nat.le_refl _, P2.out⟩, C2.out⟩
    · by_cases hf : a - q ≤ 65535
      · rw [if_pos hf] at hla
        have HLA := Lib.hid hla
        have hf' : ¬ (a : Int) - (q : Int) > 65535 := by omega
        clear hla
        go_wp2_with fail
        go_ret2
        exact ⟨by rw [HLA.out]; rfl, ⟨a, Nat.le_refl _, P2.out⟩, C2.out⟩
      · rw [if_neg hf] at hla
        have HLA := Lib.hid hla
        have hf' : (a : Int) - (q : Int) > 65535 := by omega
        clear hla
        go_wp2_with fail
        go_ret2
        exact ⟨by rw [HLA.out]; rfl, ⟨a, Nat.le_refl _, P2.out⟩, C2.out⟩
    · have HLA := Lib.hid hla
      clear hla
      go_wp2_with fail
      go_ret2
      exact ⟨by rw [HLA.out]; rfl, ⟨a, Nat.le_refl _, P2.out⟩, C2.out⟩
  · have HLA := Lib.hid (latest_end (b := b) (a := a) (by omega))
    have HP := Lib.hid hP
    have c0 : w.cell? ⟨g, 0, none⟩ = some (.slice ad b.length c) := by obtain ⟨m1, m2, s, n1, n2, hS, hne, hp, _⟩ := hP; exact hp.c0
    rw [← hn] at h4 ha hl c0 HP ⊢
    have hlt : (n : Int) - (a : Int) < 4 := by omega
    clear hP hS hR hX hn
    go_enter Try.func11, Try.ntmps11
    go_wp2_with fail
    go_ret2
    exact ⟨by rw [HLA.out]; rfl, ⟨N, hNa, HP.out⟩, Chg.refl _ _⟩
end Np
end Go.Proofs.Ytbmdjmckgcjfcaa
