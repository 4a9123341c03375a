/- The law CacheNil, where the point isn't taken. -/
import Derived.Test.YtloiclmngmnbdaaSg
import Derived.Lib.QuietBelow
namespace Go.Proofs.Ytloiclmngmnbdaa
open Go.RowKit Go.Maps Go.ChangeMaps Go.MapKept Go.Sort
namespace Sh
open Jb Ca Ck Ct Cd Cz Ls Lb Lc Ld Li Lj Lk Lm Ln Lo Lp Cq Cr Da Db Dc Ce Cs De Df Dg Dh Tb Sk Sl Sc Sd Se Sf Ra Rb Rc Rd Sg

structure WQ (P : Program) (ops : Array Oper) (C : World → Prop) (Q : Act → Prop) (l : List Oper) (a : Act) : Prop where
  out : wpQuiet P ops C Q l a
theorem wq_step {P : Program} {ops : Array Oper} {C : World → Prop} {Q : Act → Prop} {a : Act} {o : Oper} {rest : List Oper}
    (h : ∀ K : Act → Prop, (∀ a, WQ P ops C Q rest a → K a) → if Region.wanted o (yielded ops a.tmps) then o.quiet P a C K else K (a.put o.dst undef)) : WQ P ops C Q (o :: rest) a :=
  ⟨wpQuiet_step fun K hK => h K fun a ha => hK a ha.out⟩
theorem wq_nil {P : Program} {ops : Array Oper} {C : World → Prop} {Q : Act → Prop} {a : Act} (h : Q a) : WQ P ops C Q [] a := ⟨wpQuiet_nil h⟩
set_option maxRecDepth 100000
set_option maxHeartbeats 20000000 in
theorem nil6_bad (w : World) (p : Pnt) (hp : Wp p) (a b : Int) (hE : putE (V0 9) (sS, sF) p ≠ 0) : Calls Try.prog 6 #[pa p, .int .i64 a, .int .i64 b] w fun e w' => e = .returned (.bool true) ∧ Below w.heap.size w w' := by
  have AW := Lib.hid (fun w => awake8 w)
  have CN := Lib.hid (fun w => clear20_nil w)
  have NW := Lib.hid (fun w => newD w 9 (by omega))
  have PU := Lib.hid (show ∀ w1 S g, DV w1 S g 0 (V0 9) → Calls Try.prog 19 #[.pointer (some ⟨g, 0, none⟩), .string sS, .string sF, pa p] w1 fun e w' => e = .returned (.int .i64 (putE (V0 9) (sS, sF) p)) ∧ DV w' (New S w1 w') g 1 (V0 9) ∧ Chg w1 w' S from fun w1 S g h => by
    have hv : putV (V0 9) (sS, sF) p = V0 9 := by unfold putV; rw [if_neg hE]
    have := putD w1 S g 0 (V0 9) h (sS, sF) (ok_s sS sF (by decide) (by decide)) p hp (by simp [V0]) (by omega)
    rw [hv] at this
    exact this)
  obtain ⟨E, hEE⟩ : ∃ E, E = putE (V0 9) (sS, sF) p := ⟨_, rfl⟩
  rw [← hEE] at hE PU
  have q1 : (E == 0) = false := by simpa using hE
  have q2 : (E != 0) = true := by simpa using hE
  have GD := Lib.hid (show ∀ w1 S g, DV w1 S g 1 (V0 9) → Calls Try.prog 15 #[.pointer (some ⟨g, 0, none⟩), .string sS, .string sF, .int .i64 p.1, .int .i64 p.1] w1 fun e w' => ∃ x c, e = .returned (.slice x 0 c) ∧ Below w1.heap.size w1 w' from fun w1 S g h => by
    refine (getD w1 S g 1 (V0 9) h (sS, sF) (ok_s sS sF (by decide) (by decide)) p.1 p.1 (by simp [V0])).mono ?_
    rintro e w' ⟨r, rfl, o, bl⟩
    have o' : w'.ownsRow w1.heap.size 32 4 r 0 [] := o
    rcases o'.2 with ⟨rfl, _⟩ | ⟨g, cap, _, rfl, _⟩
    · exact ⟨_, _, rfl, bl⟩
    · exact ⟨_, _, rfl, bl⟩)
  have CD := Lib.hid (show ∀ w1 S g, DV w1 S g 1 (V0 9) → Calls Try.prog 18 #[.pointer (some ⟨g, 0, none⟩)] w1 fun e w' => ∃ x c, e = .returned (.slice x 0 c) ∧ Below w1.heap.size w1 w' from fun w1 S g h => by
    refine (columnsD w1 S g 1 (V0 9) h (by omega) (fun s => by simp [V0])).mono ?_
    rintro e w' ⟨v, ys, rfl, rv, cl, bl⟩
    obtain rfl := rows_nil rv.2
    obtain ⟨rs, _, o, _⟩ := cl
    rcases o.2 with ⟨rfl, _⟩ | ⟨g, cap, _, rfl, _⟩
    · exact ⟨_, _, rfl, bl⟩
    · exact ⟨_, _, rfl, bl⟩)
  clear hE hEE hp
  obtain ⟨t, kd, u, x⟩ := p
  unfold pa at PU ⊢
  simp only at PU GD ⊢
  obtain ⟨w0, hw0⟩ : ∃ w0, w0 = w.alloc (.cells #[.int .i64 t, .int .i64 kd, .int .u64 (u : Nat), .string (str x)] 32) := ⟨_, rfl⟩
  have sz0 : w0.heap.size = w.heap.size + 1 := by rw [hw0]; simp
  have BL0 := Lib.hid (show Below w.heap.size w w0 from by rw [hw0]; exact (Below.refl _ w).alloc (Nat.le_refl _) _)
  have BX := Lib.hid (show ∀ y, Below (w.heap.size + 1) w0 y → y.cell? ⟨w.heap.size, 0, none⟩ = some (.int .i64 t) ∧ y.cell? ⟨w.heap.size, 1, none⟩ = some (.int .i64 kd) ∧ y.cell? ⟨w.heap.size, 2, none⟩ = some (.int .u64 (u : Nat)) ∧ y.cell? ⟨w.heap.size, 3, none⟩ = some (.string (str x)) from fun y hy => by
    have hb : y.heap[w.heap.size]? = some (.cells #[.int .i64 t, .int .i64 kd, .int .u64 (u : Nat), .string (str x)] 32) := by
      rw [hy.block w.heap.size (by omega), hw0]; exact heap_alloc_new w _
    exact ⟨cell_at hb 0, cell_at hb 1, cell_at hb 2, cell_at hb 3⟩)
  go_enter Try.func6, Try.ntmps6
  go_wp2_with fail
  rw [← hw0]
  have HW0 := Lib.hid hw0
  clear hw0
  refine (AW.out _).mono ?_
  rintro e w1 ⟨rfl, b1⟩
  rw [sz0] at b1
  have B1 := Lib.hid b1
  clear b1
  go_wp2_with fail
  refine (CN.out _).mono ?_
  rintro e w2 ⟨rfl, rfl⟩
  go_wp2_with fail
  refine (NW.out _).mono ?_
  rintro e w3 ⟨rfl, d3, b3⟩
  obtain ⟨g, hg⟩ : ∃ g, g = w2.heap.size := ⟨_, rfl⟩
  have z1 := B1.out.size
  have D3 := Lib.hid (show DV w3 (Up g w3) g 0 (V0 9) from by rw [hg]; exact d3)
  have B3 := Lib.hid (show Below g w2 w3 from by rw [hg]; exact b3)
  have hg1 : w.heap.size + 1 ≤ g := by omega
  rw [← hg]
  obtain ⟨k0, k1, k2, k3⟩ := BX.out w3 (B1.out.trans (b3.mono (by omega)))
  have P3 := Lib.hid (PU.out w3 _ g D3.out)
  have BB3 := Lib.hid (B1.out.trans (b3.mono (show w.heap.size + 1 ≤ w2.heap.size by omega)))
  clear d3 b3 hg PU B3 z1
  go_wp2_with fail
  refine P3.out.mono ?_
  rintro e w4 ⟨rfl, d4, c4⟩
  have D4 := Lib.hid (show DV w4 (Up g w4) g 1 (V0 9) from d4.set (up_new (by obtain ⟨_, _, h⟩ := D3.out; exact Nat.le_of_lt (h.lt g h.sg)) c4.size) (fun k hk => hk.2))
  have BB4 := Lib.hid (BB3.out.trans (up_below (B := g) c4 (by obtain ⟨_, _, h⟩ := D3.out; exact Nat.le_of_lt (h.lt g h.sg)) |>.mono hg1))
  have C4 := Lib.hid (CD.out w4 _ g D4.out)
  clear d4 c4 P3 k0 k1 k2 k3
  go_wp2_with fail
  refine C4.out.mono ?_
  rintro e w5 ⟨vx, vc, rfl, b5⟩
  have D5 := Lib.hid (D4.out.below b5)
  have z4 := BB4.out.size
  have BB5 := Lib.hid (BB4.out.trans (b5.mono (by omega)))
  have G5 := Lib.hid (GD.out w5 _ g D5.out)
  obtain ⟨k0, k1, k2, k3⟩ := BX.out w5 BB5.out
  clear b5 C4
  go_wp2_with fail
  refine wp_loop_rounds 1 ?_
  rw [rounds_succ]
  go_wp2_with fail
  refine G5.out.mono ?_
  rintro e w6 ⟨yx, yc, rfl, b6⟩
  have D6 := Lib.hid (D5.out.below b6)
  have z5 := BB5.out.size
  have BB6 := Lib.hid (BB5.out.trans (b6.mono (by omega)))
  have G6 := Lib.hid (GD.out w6 _ g D6.out)
  obtain ⟨k0, k1, k2, k3⟩ := BX.out w6 BB6.out
  clear b6 G5
  go_wp2_with fail
  refine wp_loop_rounds 1 ?_
  rw [rounds_succ]
  go_wp2_with fail
  refine G6.out.mono ?_
  rintro e w7 ⟨zx, zc, rfl, b7⟩
  have z6 := BB6.out.size
  have BB7 := Lib.hid (BB6.out.trans (b7.mono (by omega)))
  have kX := BX.out w7 BB7.out
  clear b7 G6
  clear k0 k1 k2 k3
  obtain ⟨kX0, kX1, kX2, kX3⟩ := kX
  have e0 := fun d os => cell_regrown kX0 d os
  have e1 := fun d os => cell_regrown kX1 d os
  have e2 := fun d os => cell_regrown kX2 d os
  have e3 := fun d os => cell_regrown kX3 d os
  have c19 : ∀ (d : Nat) (os : Array Obj), Calls Try.prog 19 #[.pointer none, .string sS, .string sF, .agg #[.int .i64 t, .int .i64 kd, .int .u64 (u : Nat), .string (str x)]] (grow (redrawn w7 d) os) fun e w'' => e = .returned (.int .i64 1) ∧ ∃ p : Regrown, w'' = grow (redrawn w7 p.d) p.os := fun d os => Calls.regrown_of (put19_nil _ (sS, sF) (t, kd, u, x))
  have c15 : ∀ (d : Nat) (os : Array Obj), Calls Try.prog 15 #[.pointer none, .string sS, .string sF, .int .i64 a, .int .i64 b] (grow (redrawn w7 d) os) fun e w'' => e = .returned (.slice none 0 0) ∧ ∃ p : Regrown, w'' = grow (redrawn w7 p.d) p.os := fun d os => Calls.regrown_of (getN _ (sS, sF) a b)
  have c21 : ∀ (d : Nat) (os : Array Obj), Calls Try.prog 21 #[.pointer none, .string sS, .string sF, .int .i64 a, .int .i64 b] (grow (redrawn w7 d) os) fun e w'' => e = .returned (.int .i64 0) ∧ ∃ p : Regrown, w'' = grow (redrawn w7 p.d) p.os := fun d os => Calls.regrown_of (delete21_nil _ (sS, sF) a b)
  have c18 : ∀ (d : Nat) (os : Array Obj), Calls Try.prog 18 #[.pointer none] (grow (redrawn w7 d) os) fun e w'' => e = .returned (.slice none 0 0) ∧ ∃ p : Regrown, w'' = grow (redrawn w7 p.d) p.os := fun d os => Calls.regrown_of ((columns18_nil _).mono fun _ _ ⟨h1, h2⟩ => ⟨h1, h2 ▸ Below.refl _ _⟩)
  have c12 : ∀ (d : Nat) (os : Array Obj), Calls Try.prog 12 #[.pointer none] (grow (redrawn w7 d) os) fun e w'' => e = .returned (.int .i64 0) ∧ ∃ p : Regrown, w'' = grow (redrawn w7 p.d) p.os := fun d os => Calls.regrown_of ((size12_nil _).mono fun _ _ ⟨h1, h2⟩ => ⟨h1, h2 ▸ Below.refl _ _⟩)
  have mixed : Try.prog.follows .mixedOrders = true := by kernel_rfl
  clear AW CN NW CD GD D3 D4 D5 D6 kX0 kX1 kX2 kX3
  go_wp2_with fail
  refine wp_region_quiet_below (by assumption) (by kernel_rfl) ?_
  refine WQ.out ?_
  repeat (refine wq_step (fun K hK => ?_); go_simp; first | (refine hK _ ?_; clear hK K) | (apply Exists.intro; refine ⟨fun _ => ?_, hK _ ?_⟩; (first | (go_at_call 19; exact c19 _ _) | (go_at_call 15; exact c15 _ _) | (go_at_call 21; exact c21 _ _) | (go_at_call 18; exact c18 _ _) | (go_at_call 12; exact c12 _ _)); clear hK K))
  refine wq_nil ?_
  intro _ hw'
  obtain ⟨⟨dq, osq⟩, hw''⟩ := hw'
  subst hw''
  go_wp2_with fail
  go_ret
  exact ⟨rfl, BL0.out.trans ((BB7.out.trans ((below_regrown w7 dq osq).mono (by have := BB7.out.size; omega))).mono (Nat.le_succ _))⟩
end Sh
end Go.Proofs.Ytloiclmngmnbdaa
