import Derived.Test.YtbnicnhkakbglaaGreatDoorG38
import Derived.Test.YtbnicnhkakbglaaGreatDoorG33

/- The document's Parse: floats. -/
namespace Go.Proofs.YtbnicnhkakbglaaGreatDoor
open Go.RowKit
namespace Vm
open Jb Sa Sb Sc Sd Se Sf Sg Sh Si Sj Uq Vd

set_option maxRecDepth 100000 in
set_option maxHeartbeats 1000000 in
theorem rfloat_inf (w : World) (s : ByteArray) (hs : s.size ≤ 400) (h0 : 0 < s.size) (h34 : by8 s 0 ≠ 34) (hl : s.size = 1 ∨ by8 s (s.size - 1) ≠ 105) (hw : ∀ k, k < 10 → word k ≠ s) (hf : ff s = true) (TT : World → Prop) (hTT : ∀ w w', TT w → Below w.heap.size w w' → TT w') (v : Nat) (P1 P2 : Value → Prop) (hv : v % 9223372036854775808 = 9218868437227405312)
    (hPF : ∀ w, TT w → Calls Tryz.prog 29 #[.string s, .int .i64 64] w fun e w' => ∃ er, e = .returned (.tuple #[.float .f64 v, er]) ∧ P1 er ∧ P2 er ∧ Below w.heap.size w w') (hT : TT w) :
    Calls Tryz.prog 10 #[.string s] w fun e w' => e = .returned (.tuple #[.agg #[.int .i64 0, .int .u64 0, .string ⟨#[]⟩], .int .i64 3]) ∧ Below w.heap.size w w' := by
  have IF := Lib.hid (fun (y : World) => isFloat y s (by omega))
  rw [hf, decide_eq_true hs, Bool.and_true] at IF
  have HV := Lib.hid hv
  have PF := Lib.hid hPF
  have IN1 : Hid (∀ y : World, Calls Tryz.prog 25 #[.slice (some ⟨y.heap.size, 0, none⟩) 5 5, .string s] (y.alloc (.cells #[.string ⟨#[116]⟩, .string ⟨#[84]⟩, .string ⟨#[116, 114, 117, 101]⟩, .string ⟨#[84, 114, 117, 101]⟩, .string ⟨#[84, 82, 85, 69]⟩] 9)) fun e w' => e = .returned (.bool false) ∧ w' = y.alloc (.cells #[.string ⟨#[116]⟩, .string ⟨#[84]⟩, .string ⟨#[116, 114, 117, 101]⟩, .string ⟨#[84, 114, 117, 101]⟩, .string ⟨#[84, 82, 85, 69]⟩] 9)) := Lib.hid (in_t s false (fun h => by cases h) (fun _ k hk => hw k (by omega)))
  have IN2 : Hid (∀ y : World, Calls Tryz.prog 25 #[.slice (some ⟨y.heap.size, 0, none⟩) 5 5, .string s] (y.alloc (.cells #[.string ⟨#[102]⟩, .string ⟨#[70]⟩, .string ⟨#[102, 97, 108, 115, 101]⟩, .string ⟨#[70, 97, 108, 115, 101]⟩, .string ⟨#[70, 65, 76, 83, 69]⟩] 9)) fun e w' => e = .returned (.bool false) ∧ w' = y.alloc (.cells #[.string ⟨#[102]⟩, .string ⟨#[70]⟩, .string ⟨#[102, 97, 108, 115, 101]⟩, .string ⟨#[70, 97, 108, 115, 101]⟩, .string ⟨#[70, 65, 76, 83, 69]⟩] 9)) := Lib.hid (in_f s false (fun h => by cases h) (fun _ k hk => hw (5 + k) (by omega)))
  clear hw
  have hi0 := by8_get s 0 h0
  obtain ⟨b, hb⟩ : ∃ b, b = by8 s 0 := ⟨_, rfl⟩
  rw [← hb] at hi0 h34
  have g1 : ((b : Int) == 34) = false := by simp; omega
  clear hb h34
  obtain ⟨n, hn⟩ : ∃ n, n = s.size := ⟨_, rfl⟩
  have hlen : ∀ (ty : TypeId) (y : World), (Builtin.len_ #[9] ty #[.string s]).run Tryz.prog y = .ok (.int .i64 (n : Nat)) y := fun ty y => by rw [hn]; exact run_len_string y 9 ty s Tryz.underlying9
  have hil : ∀ y : World, (Instr.index 9 (.string s) (.int .i64 ((n : Int) - 1))).run Tryz.prog y = .ok (.int .u8 (by8 s (n - 1) : Nat)) y := fun y => by
    have h := idx y s (n - 1) (by omega)
    rw [show (((n - 1 : Nat)) : Int) = (n : Int) - 1 from by omega] at h
    exact h
  have hnb : n ≤ 400 := by omega
  have hn0 : 0 < n := by omega
  rw [← hn] at hl
  clear hn hs hf hv hPF
  by_cases hn1 : 1 < n
  · have hl : by8 s (n - 1) ≠ 105 := by rcases hl with h | h; omega; exact h
    obtain ⟨c, hc⟩ : ∃ c, c = by8 s (n - 1) := ⟨_, rfl⟩
    rw [← hc] at hil hl
    have g2 : ((c : Int) == 105) = false := by simp; omega
    clear hc hl
    obtain ⟨W, hW⟩ : ∃ W, W = w.alloc (.cells #[.int .i64 0, .int .u64 0, .string ⟨#[]⟩] 25) := ⟨_, rfl⟩
    have Z := Lib.hid (show Zc w w.heap.size W by rw [hW]; exact zc_new w)
    obtain ⟨r, hr0⟩ : ∃ r, r = w.heap.size := ⟨_, rfl⟩
    have hbw := hr0
    rw [← hr0] at Z
    have HW := Lib.hid (show TT W from hTT _ _ hT (by rw [hW]; exact (Below.refl _ w).alloc (Nat.le_refl _) _))
    have HTT := Lib.hid hTT
    clear hbw hT hTT
    go_enter Tryz.func10, Tryz.ntmps10
    go_upto_region 1 with (fail)
    rw [← hW, ← hr0]
    clear hW hr0
    go_upto_region 3 with (go_at_call 25; refine (IN1.out _).mono ?_; clear IN1; rintro e w2 ⟨rfl, h2⟩; rw [h2]; clear h2 w2)
    have Z := Lib.hid (Z.out.step ((Below.refl _ W).alloc (Nat.le_refl _) (.cells #[.string ⟨#[116]⟩, .string ⟨#[84]⟩, .string ⟨#[116, 114, 117, 101]⟩, .string ⟨#[84, 114, 117, 101]⟩, .string ⟨#[84, 82, 85, 69]⟩] 9)))
    have HW := Lib.hid (HTT.out _ _ HW.out ((Below.refl _ W).alloc (Nat.le_refl _) (.cells #[.string ⟨#[116]⟩, .string ⟨#[84]⟩, .string ⟨#[116, 114, 117, 101]⟩, .string ⟨#[84, 114, 117, 101]⟩, .string ⟨#[84, 82, 85, 69]⟩] 9)))
    obtain ⟨W2, hW2⟩ : ∃ W2, W2 = W.alloc (.cells #[.string ⟨#[116]⟩, .string ⟨#[84]⟩, .string ⟨#[116, 114, 117, 101]⟩, .string ⟨#[84, 114, 117, 101]⟩, .string ⟨#[84, 82, 85, 69]⟩] 9) := ⟨_, rfl⟩
    rw [← hW2] at Z HW ⊢
    clear hW2
    go_upto_region 5 with (go_at_call 25; refine (IN2.out _).mono ?_; clear IN2; rintro e w2 ⟨rfl, h2⟩; rw [h2]; clear h2 w2)
    have Z := Lib.hid (Z.out.step ((Below.refl _ W2).alloc (Nat.le_refl _) (.cells #[.string ⟨#[102]⟩, .string ⟨#[70]⟩, .string ⟨#[102, 97, 108, 115, 101]⟩, .string ⟨#[70, 97, 108, 115, 101]⟩, .string ⟨#[70, 65, 76, 83, 69]⟩] 9)))
    have HW := Lib.hid (HTT.out _ _ HW.out ((Below.refl _ W2).alloc (Nat.le_refl _) (.cells #[.string ⟨#[102]⟩, .string ⟨#[70]⟩, .string ⟨#[102, 97, 108, 115, 101]⟩, .string ⟨#[70, 97, 108, 115, 101]⟩, .string ⟨#[70, 65, 76, 83, 69]⟩] 9)))
    obtain ⟨W3, hW3⟩ : ∃ W3, W3 = W2.alloc (.cells #[.string ⟨#[102]⟩, .string ⟨#[70]⟩, .string ⟨#[102, 97, 108, 115, 101]⟩, .string ⟨#[70, 97, 108, 115, 101]⟩, .string ⟨#[70, 65, 76, 83, 69]⟩] 9) := ⟨_, rfl⟩
    rw [← hW3] at Z HW ⊢
    clear hW3
    go_upto_region 19 with (go_at_call 28; refine (IF.out _).mono ?_; clear IF; rintro e w4 ⟨rfl, h2⟩; rw [h2]; clear h2 w4)
    go_upto_region 20 with (go_at_call 29; refine (PF.out _ HW.out).mono ?_; clear PF; rintro e w4 ⟨er, rfl, n1, n2, b4⟩; clear n1 n2; have B4 := Lib.hid b4; clear b4)
    have Z := Lib.hid (Z.out.step B4.out)
    obtain ⟨rr, o2, o3⟩ := Vw.sub_draws HV.out w4
    have Z := Lib.hid (Z.out.step ((Below.refl _ w4).drew))
    go_upto_region 21 with (first | rw [o2])
    obtain ⟨w5, hw5⟩ : ∃ w5, w5 = w4.drew := ⟨_, rfl⟩
    rw [← hw5] at Z ⊢
    clear hw5 o2
    obtain ⟨q0, q1, q2, q3, q4, q5⟩ := Z.out.cells
    have Q := Lib.hid (Z.out.fin (.int .i64 0) (.int .u64 0) (.string ⟨#[]⟩))
    go_wp2_with fail
    obtain ⟨m0, m1, m2, bb⟩ := Q.out
    refine bodyPost_ret (v := .tuple #[.agg #[.int .i64 0, .int .u64 0, .string ⟨#[]⟩], .int .i64 3]) (by simp [results, Tryz.results10, go_sem, m0, m1, m2] <;> rfl) rfl ⟨rfl, bb⟩
  · have g3 : ¬ (n : Int) > 1 := by omega
    clear hl hil
    obtain ⟨W, hW⟩ : ∃ W, W = w.alloc (.cells #[.int .i64 0, .int .u64 0, .string ⟨#[]⟩] 25) := ⟨_, rfl⟩
    have Z := Lib.hid (show Zc w w.heap.size W by rw [hW]; exact zc_new w)
    obtain ⟨r, hr0⟩ : ∃ r, r = w.heap.size := ⟨_, rfl⟩
    have hbw := hr0
    rw [← hr0] at Z
    have HW := Lib.hid (show TT W from hTT _ _ hT (by rw [hW]; exact (Below.refl _ w).alloc (Nat.le_refl _) _))
    have HTT := Lib.hid hTT
    clear hbw hT hTT
    go_enter Tryz.func10, Tryz.ntmps10
    go_upto_region 1 with (fail)
    rw [← hW, ← hr0]
    clear hW hr0
    go_upto_region 3 with (go_at_call 25; refine (IN1.out _).mono ?_; clear IN1; rintro e w2 ⟨rfl, h2⟩; rw [h2]; clear h2 w2)
    have Z := Lib.hid (Z.out.step ((Below.refl _ W).alloc (Nat.le_refl _) (.cells #[.string ⟨#[116]⟩, .string ⟨#[84]⟩, .string ⟨#[116, 114, 117, 101]⟩, .string ⟨#[84, 114, 117, 101]⟩, .string ⟨#[84, 82, 85, 69]⟩] 9)))
    have HW := Lib.hid (HTT.out _ _ HW.out ((Below.refl _ W).alloc (Nat.le_refl _) (.cells #[.string ⟨#[116]⟩, .string ⟨#[84]⟩, .string ⟨#[116, 114, 117, 101]⟩, .string ⟨#[84, 114, 117, 101]⟩, .string ⟨#[84, 82, 85, 69]⟩] 9)))
    obtain ⟨W2, hW2⟩ : ∃ W2, W2 = W.alloc (.cells #[.string ⟨#[116]⟩, .string ⟨#[84]⟩, .string ⟨#[116, 114, 117, 101]⟩, .string ⟨#[84, 114, 117, 101]⟩, .string ⟨#[84, 82, 85, 69]⟩] 9) := ⟨_, rfl⟩
    rw [← hW2] at Z HW ⊢
    clear hW2
    go_upto_region 5 with (go_at_call 25; refine (IN2.out _).mono ?_; clear IN2; rintro e w2 ⟨rfl, h2⟩; rw [h2]; clear h2 w2)
    have Z := Lib.hid (Z.out.step ((Below.refl _ W2).alloc (Nat.le_refl _) (.cells #[.string ⟨#[102]⟩, .string ⟨#[70]⟩, .string ⟨#[102, 97, 108, 115, 101]⟩, .string ⟨#[70, 97, 108, 115, 101]⟩, .string ⟨#[70, 65, 76, 83, 69]⟩] 9)))
    have HW := Lib.hid (HTT.out _ _ HW.out ((Below.refl _ W2).alloc (Nat.le_refl _) (.cells #[.string ⟨#[102]⟩, .string ⟨#[70]⟩, .string ⟨#[102, 97, 108, 115, 101]⟩, .string ⟨#[70, 97, 108, 115, 101]⟩, .string ⟨#[70, 65, 76, 83, 69]⟩] 9)))
    obtain ⟨W3, hW3⟩ : ∃ W3, W3 = W2.alloc (.cells #[.string ⟨#[102]⟩, .string ⟨#[70]⟩, .string ⟨#[102, 97, 108, 115, 101]⟩, .string ⟨#[70, 97, 108, 115, 101]⟩, .string ⟨#[70, 65, 76, 83, 69]⟩] 9) := ⟨_, rfl⟩
    rw [← hW3] at Z HW ⊢
    clear hW3
    go_upto_region 19 with (go_at_call 28; refine (IF.out _).mono ?_; clear IF; rintro e w4 ⟨rfl, h2⟩; rw [h2]; clear h2 w4)
    go_upto_region 20 with (go_at_call 29; refine (PF.out _ HW.out).mono ?_; clear PF; rintro e w4 ⟨er, rfl, n1, n2, b4⟩; clear n1 n2; have B4 := Lib.hid b4; clear b4)
    have Z := Lib.hid (Z.out.step B4.out)
    obtain ⟨rr, o2, o3⟩ := Vw.sub_draws HV.out w4
    have Z := Lib.hid (Z.out.step ((Below.refl _ w4).drew))
    go_upto_region 21 with (first | rw [o2])
    obtain ⟨w5, hw5⟩ : ∃ w5, w5 = w4.drew := ⟨_, rfl⟩
    rw [← hw5] at Z ⊢
    clear hw5 o2
    obtain ⟨q0, q1, q2, q3, q4, q5⟩ := Z.out.cells
    have Q := Lib.hid (Z.out.fin (.int .i64 0) (.int .u64 0) (.string ⟨#[]⟩))
    go_wp2_with fail
    obtain ⟨m0, m1, m2, bb⟩ := Q.out
    refine bodyPost_ret (v := .tuple #[.agg #[.int .i64 0, .int .u64 0, .string ⟨#[]⟩], .int .i64 3]) (by simp [results, Tryz.results10, go_sem, m0, m1, m2] <;> rfl) rfl ⟨rfl, bb⟩
set_option maxRecDepth 100000 in
set_option maxHeartbeats 1000000 in
theorem rfloat_fin (w : World) (s : ByteArray) (hs : s.size ≤ 400) (h0 : 0 < s.size) (h34 : by8 s 0 ≠ 34) (hl : s.size = 1 ∨ by8 s (s.size - 1) ≠ 105) (hw : ∀ k, k < 10 → word k ≠ s) (hf : ff s = true) (TT : World → Prop) (hTT : ∀ w w', TT w → Below w.heap.size w w' → TT w') (v : Nat) (P1 P2 : Value → Prop) (hv : Fq.Fnt v)
    (hPF : ∀ w, TT w → Calls Tryz.prog 29 #[.string s, .int .i64 64] w fun e w' => ∃ er, e = .returned (.tuple #[.float .f64 v, er]) ∧ P1 er ∧ P2 er ∧ Below w.heap.size w w') (hT : TT w) :
    Calls Tryz.prog 10 #[.string s] w fun e w' => e = .returned (.tuple #[.agg #[.int .i64 1, .int .u64 v, .string ⟨#[]⟩], .int .i64 0]) ∧ Below w.heap.size w w' := by
  have IF := Lib.hid (fun (y : World) => isFloat y s (by omega))
  rw [hf, decide_eq_true hs, Bool.and_true] at IF
  have HV := Lib.hid hv
  have PF := Lib.hid hPF
  have r30 := run30
  have o2 := fun w : World => run_float_arith (P := Tryz.prog) w .sub 63 .f64 v v 0 (Vw.sub_fin HV.out)
  have o3 : FloatKind.f64.format.order 0 0 = some .eq := by decide +kernel
  have IN1 : Hid (∀ y : World, Calls Tryz.prog 25 #[.slice (some ⟨y.heap.size, 0, none⟩) 5 5, .string s] (y.alloc (.cells #[.string ⟨#[116]⟩, .string ⟨#[84]⟩, .string ⟨#[116, 114, 117, 101]⟩, .string ⟨#[84, 114, 117, 101]⟩, .string ⟨#[84, 82, 85, 69]⟩] 9)) fun e w' => e = .returned (.bool false) ∧ w' = y.alloc (.cells #[.string ⟨#[116]⟩, .string ⟨#[84]⟩, .string ⟨#[116, 114, 117, 101]⟩, .string ⟨#[84, 114, 117, 101]⟩, .string ⟨#[84, 82, 85, 69]⟩] 9)) := Lib.hid (in_t s false (fun h => by cases h) (fun _ k hk => hw k (by omega)))
  have IN2 : Hid (∀ y : World, Calls Tryz.prog 25 #[.slice (some ⟨y.heap.size, 0, none⟩) 5 5, .string s] (y.alloc (.cells #[.string ⟨#[102]⟩, .string ⟨#[70]⟩, .string ⟨#[102, 97, 108, 115, 101]⟩, .string ⟨#[70, 97, 108, 115, 101]⟩, .string ⟨#[70, 65, 76, 83, 69]⟩] 9)) fun e w' => e = .returned (.bool false) ∧ w' = y.alloc (.cells #[.string ⟨#[102]⟩, .string ⟨#[70]⟩, .string ⟨#[102, 97, 108, 115, 101]⟩, .string ⟨#[70, 97, 108, 115, 101]⟩, .string ⟨#[70, 65, 76, 83, 69]⟩] 9)) := Lib.hid (in_f s false (fun h => by cases h) (fun _ k hk => hw (5 + k) (by omega)))
  clear hw
  have hi0 := by8_get s 0 h0
  obtain ⟨b, hb⟩ : ∃ b, b = by8 s 0 := ⟨_, rfl⟩
  rw [← hb] at hi0 h34
  have g1 : ((b : Int) == 34) = false := by simp; omega
  clear hb h34
  obtain ⟨n, hn⟩ : ∃ n, n = s.size := ⟨_, rfl⟩
  have hlen : ∀ (ty : TypeId) (y : World), (Builtin.len_ #[9] ty #[.string s]).run Tryz.prog y = .ok (.int .i64 (n : Nat)) y := fun ty y => by rw [hn]; exact run_len_string y 9 ty s Tryz.underlying9
  have hil : ∀ y : World, (Instr.index 9 (.string s) (.int .i64 ((n : Int) - 1))).run Tryz.prog y = .ok (.int .u8 (by8 s (n - 1) : Nat)) y := fun y => by
    have h := idx y s (n - 1) (by omega)
    rw [show (((n - 1 : Nat)) : Int) = (n : Int) - 1 from by omega] at h
    exact h
  have hnb : n ≤ 400 := by omega
  have hn0 : 0 < n := by omega
  rw [← hn] at hl
  clear hn hs hf hv hPF
  by_cases hn1 : 1 < n
  · have hl : by8 s (n - 1) ≠ 105 := by rcases hl with h | h; omega; exact h
    obtain ⟨c, hc⟩ : ∃ c, c = by8 s (n - 1) := ⟨_, rfl⟩
    rw [← hc] at hil hl
    have g2 : ((c : Int) == 105) = false := by simp; omega
    clear hc hl
    obtain ⟨W, hW⟩ : ∃ W, W = w.alloc (.cells #[.int .i64 0, .int .u64 0, .string ⟨#[]⟩] 25) := ⟨_, rfl⟩
    have Z := Lib.hid (show Zc w w.heap.size W by rw [hW]; exact zc_new w)
    obtain ⟨r, hr0⟩ : ∃ r, r = w.heap.size := ⟨_, rfl⟩
    have hbw := hr0
    rw [← hr0] at Z
    have HW := Lib.hid (show TT W from hTT _ _ hT (by rw [hW]; exact (Below.refl _ w).alloc (Nat.le_refl _) _))
    have HTT := Lib.hid hTT
    clear hbw hT hTT
    go_enter Tryz.func10, Tryz.ntmps10
    go_upto_region 1 with (fail)
    rw [← hW, ← hr0]
    clear hW hr0
    go_upto_region 3 with (go_at_call 25; refine (IN1.out _).mono ?_; clear IN1; rintro e w2 ⟨rfl, h2⟩; rw [h2]; clear h2 w2)
    have Z := Lib.hid (Z.out.step ((Below.refl _ W).alloc (Nat.le_refl _) (.cells #[.string ⟨#[116]⟩, .string ⟨#[84]⟩, .string ⟨#[116, 114, 117, 101]⟩, .string ⟨#[84, 114, 117, 101]⟩, .string ⟨#[84, 82, 85, 69]⟩] 9)))
    have HW := Lib.hid (HTT.out _ _ HW.out ((Below.refl _ W).alloc (Nat.le_refl _) (.cells #[.string ⟨#[116]⟩, .string ⟨#[84]⟩, .string ⟨#[116, 114, 117, 101]⟩, .string ⟨#[84, 114, 117, 101]⟩, .string ⟨#[84, 82, 85, 69]⟩] 9)))
    obtain ⟨W2, hW2⟩ : ∃ W2, W2 = W.alloc (.cells #[.string ⟨#[116]⟩, .string ⟨#[84]⟩, .string ⟨#[116, 114, 117, 101]⟩, .string ⟨#[84, 114, 117, 101]⟩, .string ⟨#[84, 82, 85, 69]⟩] 9) := ⟨_, rfl⟩
    rw [← hW2] at Z HW ⊢
    clear hW2
    go_upto_region 5 with (go_at_call 25; refine (IN2.out _).mono ?_; clear IN2; rintro e w2 ⟨rfl, h2⟩; rw [h2]; clear h2 w2)
    have Z := Lib.hid (Z.out.step ((Below.refl _ W2).alloc (Nat.le_refl _) (.cells #[.string ⟨#[102]⟩, .string ⟨#[70]⟩, .string ⟨#[102, 97, 108, 115, 101]⟩, .string ⟨#[70, 97, 108, 115, 101]⟩, .string ⟨#[70, 65, 76, 83, 69]⟩] 9)))
    have HW := Lib.hid (HTT.out _ _ HW.out ((Below.refl _ W2).alloc (Nat.le_refl _) (.cells #[.string ⟨#[102]⟩, .string ⟨#[70]⟩, .string ⟨#[102, 97, 108, 115, 101]⟩, .string ⟨#[70, 97, 108, 115, 101]⟩, .string ⟨#[70, 65, 76, 83, 69]⟩] 9)))
    obtain ⟨W3, hW3⟩ : ∃ W3, W3 = W2.alloc (.cells #[.string ⟨#[102]⟩, .string ⟨#[70]⟩, .string ⟨#[102, 97, 108, 115, 101]⟩, .string ⟨#[70, 97, 108, 115, 101]⟩, .string ⟨#[70, 65, 76, 83, 69]⟩] 9) := ⟨_, rfl⟩
    rw [← hW3] at Z HW ⊢
    clear hW3
    go_upto_region 19 with (go_at_call 28; refine (IF.out _).mono ?_; clear IF; rintro e w4 ⟨rfl, h2⟩; rw [h2]; clear h2 w4)
    go_upto_region 20 with (go_at_call 29; refine (PF.out _ HW.out).mono ?_; clear PF; rintro e w4 ⟨er, rfl, n1, n2, b4⟩; clear n1 n2; have B4 := Lib.hid b4; clear b4)
    have Z := Lib.hid (Z.out.step B4.out)
    go_upto_region 22 with (first | rw [o2])
    obtain ⟨q0, q1, q2, q3, q4, q5⟩ := Z.out.cells
    have Q := Lib.hid (Z.out.fin (.int .i64 1) (.int .u64 v) (.string ⟨#[]⟩))
    go_wp2_with (first | rw [r30])
    obtain ⟨m0, m1, m2, bb⟩ := Q.out
    refine bodyPost_ret (v := .tuple #[.agg #[.int .i64 1, .int .u64 v, .string ⟨#[]⟩], .int .i64 0]) (by simp [results, Tryz.results10, go_sem, m0, m1, m2] <;> rfl) rfl ⟨rfl, bb⟩
  · have g3 : ¬ (n : Int) > 1 := by omega
    clear hl hil
    obtain ⟨W, hW⟩ : ∃ W, W = w.alloc (.cells #[.int .i64 0, .int .u64 0, .string ⟨#[]⟩] 25) := ⟨_, rfl⟩
    have Z := Lib.hid (show Zc w w.heap.size W by rw [hW]; exact zc_new w)
    obtain ⟨r, hr0⟩ : ∃ r, r = w.heap.size := ⟨_, rfl⟩
    have hbw := hr0
    rw [← hr0] at Z
    have HW := Lib.hid (show TT W from hTT _ _ hT (by rw [hW]; exact (Below.refl _ w).alloc (Nat.le_refl _) _))
    have HTT := Lib.hid hTT
    clear hbw hT hTT
    go_enter Tryz.func10, Tryz.ntmps10
    go_upto_region 1 with (fail)
    rw [← hW, ← hr0]
    clear hW hr0
    go_upto_region 3 with (go_at_call 25; refine (IN1.out _).mono ?_; clear IN1; rintro e w2 ⟨rfl, h2⟩; rw [h2]; clear h2 w2)
    have Z := Lib.hid (Z.out.step ((Below.refl _ W).alloc (Nat.le_refl _) (.cells #[.string ⟨#[116]⟩, .string ⟨#[84]⟩, .string ⟨#[116, 114, 117, 101]⟩, .string ⟨#[84, 114, 117, 101]⟩, .string ⟨#[84, 82, 85, 69]⟩] 9)))
    have HW := Lib.hid (HTT.out _ _ HW.out ((Below.refl _ W).alloc (Nat.le_refl _) (.cells #[.string ⟨#[116]⟩, .string ⟨#[84]⟩, .string ⟨#[116, 114, 117, 101]⟩, .string ⟨#[84, 114, 117, 101]⟩, .string ⟨#[84, 82, 85, 69]⟩] 9)))
    obtain ⟨W2, hW2⟩ : ∃ W2, W2 = W.alloc (.cells #[.string ⟨#[116]⟩, .string ⟨#[84]⟩, .string ⟨#[116, 114, 117, 101]⟩, .string ⟨#[84, 114, 117, 101]⟩, .string ⟨#[84, 82, 85, 69]⟩] 9) := ⟨_, rfl⟩
    rw [← hW2] at Z HW ⊢
    clear hW2
    go_upto_region 5 with (go_at_call 25; refine (IN2.out _).mono ?_; clear IN2; rintro e w2 ⟨rfl, h2⟩; rw [h2]; clear h2 w2)
    have Z := Lib.hid (Z.out.step ((Below.refl _ W2).alloc (Nat.le_refl _) (.cells #[.string ⟨#[102]⟩, .string ⟨#[70]⟩, .string ⟨#[102, 97, 108, 115, 101]⟩, .string ⟨#[70, 97, 108, 115, 101]⟩, .string ⟨#[70, 65, 76, 83, 69]⟩] 9)))
    have HW := Lib.hid (HTT.out _ _ HW.out ((Below.refl _ W2).alloc (Nat.le_refl _) (.cells #[.string ⟨#[102]⟩, .string ⟨#[70]⟩, .string ⟨#[102, 97, 108, 115, 101]⟩, .string ⟨#[70, 97, 108, 115, 101]⟩, .string ⟨#[70, 65, 76, 83, 69]⟩] 9)))
    obtain ⟨W3, hW3⟩ : ∃ W3, W3 = W2.alloc (.cells #[.string ⟨#[102]⟩, .string ⟨#[70]⟩, .string ⟨#[102, 97, 108, 115, 101]⟩, .string ⟨#[70, 97, 108, 115, 101]⟩, .string ⟨#[70, 65, 76, 83, 69]⟩] 9) := ⟨_, rfl⟩
    rw [← hW3] at Z HW ⊢
    clear hW3
    go_upto_region 19 with (go_at_call 28; refine (IF.out _).mono ?_; clear IF; rintro e w4 ⟨rfl, h2⟩; rw [h2]; clear h2 w4)
    go_upto_region 20 with (go_at_call 29; refine (PF.out _ HW.out).mono ?_; clear PF; rintro e w4 ⟨er, rfl, n1, n2, b4⟩; clear n1 n2; have B4 := Lib.hid b4; clear b4)
    have Z := Lib.hid (Z.out.step B4.out)
    go_upto_region 22 with (first | rw [o2])
    obtain ⟨q0, q1, q2, q3, q4, q5⟩ := Z.out.cells
    have Q := Lib.hid (Z.out.fin (.int .i64 1) (.int .u64 v) (.string ⟨#[]⟩))
    go_wp2_with (first | rw [r30])
    obtain ⟨m0, m1, m2, bb⟩ := Q.out
    refine bodyPost_ret (v := .tuple #[.agg #[.int .i64 1, .int .u64 v, .string ⟨#[]⟩], .int .i64 0]) (by simp [results, Tryz.results10, go_sem, m0, m1, m2] <;> rfl) rfl ⟨rfl, bb⟩
end Vm
end Go.Proofs.YtbnicnhkakbglaaGreatDoor
