/- play, all kinds; the law CacheBounds. -/
import Derived.Test.YtlgemldibkcofaaRf
namespace Go.Proofs.Ytlgemldibkcofaa
open Go.RowKit Go.Maps Go.ChangeMaps Go.MapKept
namespace Rg
open Jb Ca Ck Ct Cd Ls Lb Lc Ld Li Lj Lk Lm Ln Lo Lp Cq Cr Da Db Dc Ce Cs De Df Dg Dh Ra Rb Rc Rd Tb Re Rf

set_option maxRecDepth 100000
theorem play11_3 (w : World) (S : Nat → Prop) (g N r : Nat) (V : Vw) (h : DV w S g N V) (hr : R0 w r) (hS : ¬ S r) (o : Oc) (hk : o.kind = 3) :
    Calls Try.prog 11 #[.pointer (some ⟨g, 0, none⟩), .pointer (some ⟨r, 0, none⟩), opa o] w fun e w' => (∃ x : Bool, e = .returned (.bool x)) ∧ DV w' (New S w w') g N (stp V o) ∧ Chg w w' (fun k => S k ∨ k = r) := by
  have HS : Hid (stp V o = V0 V.most) := Lib.hid (by unfold stp; rw [if_neg (by omega), if_neg (by omega), if_pos hk])
  have hlt := h.lt
  have b0 := (Below.refl _ w).alloc (Nat.le_refl _) (opO o)
  have CL := Lib.hid (clearD (w.alloc (opO o)) S g N V (h.below b0))
  have rl : r < w.heap.size := cell_lt hr.c0
  have RC := Lib.hid (fun w1 (h : R0 w1 r) => refclear24 w1 r h)
  have R1 := Lib.hid (show R0 (w.alloc (opO o)) r from hr.below b0 rl)
  have HL := Lib.hid hlt
  obtain ⟨kd, s, p, a, b⟩ := o
  simp only at hk
  subst hk
  unfold opa
  unfold opO at CL R1
  simp only at CL R1 ⊢
  clear h hr b0 hlt
  go_enter Try.func11, Try.ntmps11
  go_wp2_with fail
  refine CL.out.mono ?_
  rintro e w1 ⟨rfl, d1, c1⟩
  have RR := Lib.hid (RC.out w1 (R0_chg R1.out c1 hS))
  have D1 := Lib.hid d1
  have C1 := Lib.hid c1
  clear d1 c1
  go_wp2_with fail
  refine RR.out.mono ?_
  rintro e w2 ⟨rfl, rfl⟩
  go_wp2_with fail
  go_ret
  have s1 := C1.out.size
  simp at s1
  refine ⟨⟨_, rfl⟩, ?_, ?_⟩
  · rw [HS.out]
    refine ((D1.out.chg ((Chg.refl w1 (fun k => k = r)).setCell rfl _) (fun k hk e => hS (e ▸ hk))).more (Nat.zero_le N)).set (fun k hk => .inl hk) (fun k hk => ?_)
    rcases hk with hk | hk
    · have := HL.out k hk; simp; omega
    · exact hk.2
  · have c0 : Chg w (w.alloc (.cells #[.int .i64 3, .string s.1, .string s.2, .int .i64 p.1, .int .i64 p.2.1, .int .u64 (p.2.2.1 : Nat), .string (str p.2.2.2), .int .i64 a, .int .i64 b] 34)) (fun k => S k ∨ k = r) := (Chg.refl w _).alloc _
    exact (c0.trans C1.out (fun k hk _ => .inl hk)).setCell (.inr rfl) _
theorem play11_n (w : World) (S : Nat → Prop) (g N r : Nat) (V : Vw) (h : DV w S g N V) (o : Oc) (hk : o.kind ≠ 1) (hk2 : o.kind ≠ 2) (hk3 : o.kind ≠ 3) :
    Calls Try.prog 11 #[.pointer (some ⟨g, 0, none⟩), .pointer (some ⟨r, 0, none⟩), opa o] w fun e w' => (∃ x : Bool, e = .returned (.bool x)) ∧ DV w' (New S w w') g N (stp V o) ∧ Chg w w' (fun k => S k ∨ k = r) := by
  have HS : Hid (stp V o = V) := Lib.hid (by unfold stp; rw [if_neg hk, if_neg hk2, if_neg hk3])
  have hlt := h.lt
  have b0 := (Below.refl _ w).alloc (Nat.le_refl _) (opO o)
  have FIN := Lib.hid (show DV (w.alloc (opO o)) (New S w (w.alloc (opO o))) g N (stp V o) ∧ Chg w (w.alloc (opO o)) (fun k => S k ∨ k = r) from ⟨by
    rw [HS.out]
    refine (h.below b0).set (fun k hk => .inl hk) (fun k hk => ?_)
    rcases hk with hk | hk
    · have := hlt k hk; simp; omega
    · exact hk.2, (Chg.refl w _).alloc _⟩)
  obtain ⟨kd, s, p, a, b⟩ := o
  simp only at hk hk2 hk3
  unfold opa
  unfold opO at FIN
  simp only at FIN ⊢
  have q1 : (kd == 1) = false := by simpa using hk
  have q2 : (kd == 2) = false := by simpa using hk2
  have q3 : (kd == 3) = false := by simpa using hk3
  clear h b0 hlt hk hk2 hk3
  go_enter Try.func11, Try.ntmps11
  go_wp2_with fail
  go_ret
  exact ⟨⟨_, rfl⟩, FIN.out⟩
theorem playB (w : World) (S : Nat → Prop) (g N r : Nat) (V : Vw) (h : DV w S g N V) (hr : R0 w r) (hS : ¬ S r) (o : Oc) (hs : ok o.s) (hp : Wp o.p) (hl : (V.P o.s).length ≤ 511) (hsz : (V.P o.s).length ≤ V.size) (hN : N ≤ 140737488353000) :
    Calls Try.prog 11 #[.pointer (some ⟨g, 0, none⟩), .pointer (some ⟨r, 0, none⟩), opa o] w fun e w' => (∃ x : Bool, e = .returned (.bool x)) ∧ DV w' (New S w w') g (N + 1) (stp V o) ∧ Chg w w' (fun k => S k ∨ k = r) := by
  by_cases h1 : o.kind = 1
  · exact play11_1 w S g N r V h hr hS o h1 hs hp hl hN
  have up : ∀ {e : Ending} {w' : World}, ((∃ x : Bool, e = .returned (.bool x)) ∧ DV w' (New S w w') g N (stp V o) ∧ Chg w w' (fun k => S k ∨ k = r)) → (∃ x : Bool, e = .returned (.bool x)) ∧ DV w' (New S w w') g (N + 1) (stp V o) ∧ Chg w w' (fun k => S k ∨ k = r) := fun ⟨a, b, c⟩ => ⟨a, b.more (Nat.le_succ _), c⟩
  by_cases h2 : o.kind = 2
  · exact (play11_2 w S g N r V h hr hS o h2 hs (by omega) hsz).mono fun _ _ x => up x
  by_cases h3 : o.kind = 3
  · exact (play11_3 w S g N r V h hr hS o h3).mono fun _ _ x => up x
  · exact (play11_n w S g N r V h o h1 h2 h3).mono fun _ _ x => up x
/-- What is seen stays a table's, within its bound. -/
theorem step_of {V : Vw} {T : Tab} (h : Of V T) (o : Oc) (hr : Rise (V.P o.s)) (hm : V.size ≤ V.most) : (∃ T', Of (stp V o) T') ∧ (stp V o).most = V.most ∧ (stp V o).size ≤ V.most := by
  unfold stp
  split
  · refine ⟨⟨_, h.put o.s o.p hr⟩, ?_, ?_⟩
    · unfold putV; split <;> rfl
    · unfold putV
      split
      · rename_i he
        dsimp only
        split
        · omega
        · rename_i hh
          have : ¬ (has o.p.1 (V.P o.s) = false ∧ V.most ≤ V.size) := fun x => by
            unfold putE at he
            split at he
            · cases he
            · split at he
              · cases he
              · first | (rw [if_pos x] at he; cases he) | cases he
          have hh : has o.p.1 (V.P o.s) = false := by simpa using hh
          have : ¬ V.most ≤ V.size := fun e => this ⟨hh, e⟩
          omega
      · exact hm
  · split
    · exact ⟨⟨_, h.del o.s o.a o.b⟩, rfl, by unfold delV; dsimp only; omega⟩
    · split
      · exact ⟨⟨_, Re.Of.zero _⟩, rfl, Nat.zero_le _⟩
      · exact ⟨⟨_, h⟩, rfl, hm⟩
end Rg
end Go.Proofs.Ytlgemldibkcofaa
