import Derived.Test.YtbnicnhkakbglaaGreatDoorG37
import Derived.Test.YtbnicnhkakbglaaGreatDoorG33

/- The document's Parse: whole numbers, what is no float. -/
namespace Go.Proofs.YtbnicnhkakbglaaGreatDoor
open Go.RowKit
namespace Vm
open Jb Sa Sb Sc Sd Se Sf Sg Sh Si Sj Uq Vd

theorem cut_run (s : ByteArray) (h : 1 ≤ s.size) (y : World) : (Instr.slice 9 (.string s) none (some (.int .i64 ((s.size : Int) - 1))) none).run Tryz.prog y = .ok (.string (cutl s)) y := by
  have e0 : ((s.size : Int) - 1) = ((s.size - 1 : Nat) : Int) := by omega
  rw [e0, run_slice_string_h y 9 s Tryz.underlying9 .i64 ((s.size - 1 : Nat) : Int) (by omega) (by omega)]
  have e : s.extract 0 (((s.size - 1 : Nat) : Int)).toNat = cutl s := by
    apply bl_inj
    unfold cutl
    rw [bl_ba]
    unfold bl
    simp only [Int.toNat_natCast, ByteArray.data_extract, Array.toList_extract, List.extract_eq_take_drop, List.drop_zero, Nat.sub_zero]
  rw [e]
set_option maxRecDepth 100000 in
set_option maxHeartbeats 1000000 in
theorem rint (w : World) (s : ByteArray) (hs : s.size ≤ 140737488355328) (h1 : 1 < s.size) (h34 : by8 s 0 ≠ 34) (hl : by8 s (s.size - 1) = 105) (hw : ∀ k, k < 10 → word k ≠ s) :
    ∀ A1 A2 A3, (okI (cutl s) = false → A1 = 0 ∧ A2 = 0 ∧ A3 = 2) → (okI (cutl s) = true → iv (cutl s) = none → A1 = 0 ∧ A2 = 0 ∧ A3 = 3) → (okI (cutl s) = true → ∀ v, iv (cutl s) = some v → A1 = 2 ∧ A2 = IntKind.u64.wrap v ∧ A3 = 0) →
    Calls Tryz.prog 10 #[.string s] w fun e w' => e = .returned (.tuple #[.agg #[.int .i64 A1, .int .u64 A2, .string ⟨#[]⟩], .int .i64 A3]) ∧ Below w.heap.size w w' := by
  intro A1 A2 A3 n1 n2 n3
  have h0 : 0 < s.size := by omega
  have II := Lib.hid (fun (y : World) => int27 y (cutl s) (by rw [cutl_size]; omega))
  have hsl := cut_run s (by omega)
  have IN1 : Hid (∀ y : World, Calls Tryz.prog 25 #[.slice (some ⟨y.heap.size, 0, none⟩) 5 5, .string s] (y.alloc (.cells #[.string ⟨#[116]⟩, .string ⟨#[84]⟩, .string ⟨#[116, 114, 117, 101]⟩, .string ⟨#[84, 114, 117, 101]⟩, .string ⟨#[84, 82, 85, 69]⟩] 9)) fun e w' => e = .returned (.bool false) ∧ w' = y.alloc (.cells #[.string ⟨#[116]⟩, .string ⟨#[84]⟩, .string ⟨#[116, 114, 117, 101]⟩, .string ⟨#[84, 114, 117, 101]⟩, .string ⟨#[84, 82, 85, 69]⟩] 9)) := Lib.hid (in_t s false (fun h => by cases h) (fun _ k hk => hw k (by omega)))
  have IN2 : Hid (∀ y : World, Calls Tryz.prog 25 #[.slice (some ⟨y.heap.size, 0, none⟩) 5 5, .string s] (y.alloc (.cells #[.string ⟨#[102]⟩, .string ⟨#[70]⟩, .string ⟨#[102, 97, 108, 115, 101]⟩, .string ⟨#[70, 97, 108, 115, 101]⟩, .string ⟨#[70, 65, 76, 83, 69]⟩] 9)) fun e w' => e = .returned (.bool false) ∧ w' = y.alloc (.cells #[.string ⟨#[102]⟩, .string ⟨#[70]⟩, .string ⟨#[102, 97, 108, 115, 101]⟩, .string ⟨#[70, 97, 108, 115, 101]⟩, .string ⟨#[70, 65, 76, 83, 69]⟩] 9)) := Lib.hid (in_f s false (fun h => by cases h) (fun _ k hk => hw (5 + k) (by omega)))
  clear hw
  have hi0 := by8_get s 0 h0
  obtain ⟨b, hb⟩ : ∃ b, b = by8 s 0 := ⟨_, rfl⟩
  rw [← hb] at hi0 h34
  have g1 : ((b : Int) == 34) = false := by simp; omega
  clear hb h34
  obtain ⟨n, hn⟩ : ∃ n, n = s.size := ⟨_, rfl⟩
  have hlen : ∀ (ty : TypeId) (y : World), (Builtin.len_ #[9] ty #[.string s]).run Tryz.prog y = .ok (.int .i64 (n : Nat)) y := fun ty y => by rw [hn]; exact run_len_string y 9 ty s Tryz.underlying9
  have hil : ∀ y : World, (Instr.index 9 (.string s) (.int .i64 ((n : Int) - 1))).run Tryz.prog y = .ok (.int .u8 (by8 s (n - 1) : Nat)) y := fun y => by
    have h := idx y s (n - 1) (by omega)
    rw [show (((n - 1 : Nat)) : Int) = (n : Int) - 1 from by omega] at h
    exact h
  have hnb : n ≤ 140737488355328 := by omega
  have hn1 : 1 < n := by omega
  rw [← hn] at hl hsl
  rw [hl] at hil
  obtain ⟨T, hT⟩ : ∃ T, T = cutl s := ⟨_, rfl⟩
  rw [← hT] at II hsl n1 n2 n3
  have N1 := Lib.hid n1
  have N2 := Lib.hid n2
  have N3 := Lib.hid n3
  clear hT hn hl hs h1 n1 n2 n3
  by_cases hok : okI T = true
  case neg =>
    have hok : okI T = false := by simpa using hok
    have II : Hid (∀ y : World, Calls Tryz.prog 27 #[.string T] y fun e w' => e = .returned (.tuple #[.int .i64 0, .int .i64 2]) ∧ w' = y) := Lib.hid (by have h := II.out; rw [irs_no hok] at h; exact h)
    obtain ⟨rfl, rfl, rfl⟩ := N1.out hok
    clear N1 N2 N3 hok
    obtain ⟨W, hW⟩ : ∃ W, W = w.alloc (.cells #[.int .i64 0, .int .u64 0, .string ⟨#[]⟩] 25) := ⟨_, rfl⟩
    have Z := Lib.hid (show Zc w w.heap.size W by rw [hW]; exact zc_new w)
    obtain ⟨r, hr0⟩ : ∃ r, r = w.heap.size := ⟨_, rfl⟩
    have hbw := hr0
    rw [← hr0] at Z
    clear hbw
    go_enter Tryz.func10, Tryz.ntmps10
    go_upto_region 1 with (fail)
    rw [← hW, ← hr0]
    clear hW hr0
    go_upto_region 3 with (go_at_call 25; refine (IN1.out _).mono ?_; clear IN1; rintro e w2 ⟨rfl, h2⟩; rw [h2]; clear h2 w2)
    have Z := Lib.hid (Z.out.step ((Below.refl _ W).alloc (Nat.le_refl _) (.cells #[.string ⟨#[116]⟩, .string ⟨#[84]⟩, .string ⟨#[116, 114, 117, 101]⟩, .string ⟨#[84, 114, 117, 101]⟩, .string ⟨#[84, 82, 85, 69]⟩] 9)))
    obtain ⟨W2, hW2⟩ : ∃ W2, W2 = W.alloc (.cells #[.string ⟨#[116]⟩, .string ⟨#[84]⟩, .string ⟨#[116, 114, 117, 101]⟩, .string ⟨#[84, 114, 117, 101]⟩, .string ⟨#[84, 82, 85, 69]⟩] 9) := ⟨_, rfl⟩
    rw [← hW2] at Z ⊢
    clear hW2
    go_upto_region 5 with (go_at_call 25; refine (IN2.out _).mono ?_; clear IN2; rintro e w2 ⟨rfl, h2⟩; rw [h2]; clear h2 w2)
    have Z := Lib.hid (Z.out.step ((Below.refl _ W2).alloc (Nat.le_refl _) (.cells #[.string ⟨#[102]⟩, .string ⟨#[70]⟩, .string ⟨#[102, 97, 108, 115, 101]⟩, .string ⟨#[70, 97, 108, 115, 101]⟩, .string ⟨#[70, 65, 76, 83, 69]⟩] 9)))
    obtain ⟨W3, hW3⟩ : ∃ W3, W3 = W2.alloc (.cells #[.string ⟨#[102]⟩, .string ⟨#[70]⟩, .string ⟨#[102, 97, 108, 115, 101]⟩, .string ⟨#[70, 97, 108, 115, 101]⟩, .string ⟨#[70, 65, 76, 83, 69]⟩] 9) := ⟨_, rfl⟩
    rw [← hW3] at Z ⊢
    clear hW3
    go_upto_region 14 with (go_at_call 27; refine (II.out _).mono ?_; clear II; rintro e w4 ⟨rfl, h2⟩; rw [h2]; clear h2 w4)
    obtain ⟨q0, q1, q2, q3, q4, q5⟩ := Z.out.cells
    have Q := Lib.hid (Z.out.fin (.int .i64 0) (.int .u64 0) (.string ⟨#[]⟩))
    go_wp2_with fail
    obtain ⟨m0, m1, m2, bb⟩ := Q.out
    refine bodyPost_ret (v := .tuple #[.agg #[.int .i64 0, .int .u64 0, .string ⟨#[]⟩], .int .i64 2]) (by simp [results, Tryz.results10, go_sem, m0, m1, m2] <;> rfl) rfl ⟨rfl, bb⟩
  cases hv : iv T with
  | none =>
    have II : Hid (∀ y : World, Calls Tryz.prog 27 #[.string T] y fun e w' => e = .returned (.tuple #[.int .i64 0, .int .i64 3]) ∧ w' = y) := Lib.hid (by have h := II.out; rw [irs_none hok hv] at h; exact h)
    obtain ⟨rfl, rfl, rfl⟩ := N2.out hok hv
    clear N1 N2 N3 hok hv
    obtain ⟨W, hW⟩ : ∃ W, W = w.alloc (.cells #[.int .i64 0, .int .u64 0, .string ⟨#[]⟩] 25) := ⟨_, rfl⟩
    have Z := Lib.hid (show Zc w w.heap.size W by rw [hW]; exact zc_new w)
    obtain ⟨r, hr0⟩ : ∃ r, r = w.heap.size := ⟨_, rfl⟩
    have hbw := hr0
    rw [← hr0] at Z
    clear hbw
    go_enter Tryz.func10, Tryz.ntmps10
    go_upto_region 1 with (fail)
    rw [← hW, ← hr0]
    clear hW hr0
    go_upto_region 3 with (go_at_call 25; refine (IN1.out _).mono ?_; clear IN1; rintro e w2 ⟨rfl, h2⟩; rw [h2]; clear h2 w2)
    have Z := Lib.hid (Z.out.step ((Below.refl _ W).alloc (Nat.le_refl _) (.cells #[.string ⟨#[116]⟩, .string ⟨#[84]⟩, .string ⟨#[116, 114, 117, 101]⟩, .string ⟨#[84, 114, 117, 101]⟩, .string ⟨#[84, 82, 85, 69]⟩] 9)))
    obtain ⟨W2, hW2⟩ : ∃ W2, W2 = W.alloc (.cells #[.string ⟨#[116]⟩, .string ⟨#[84]⟩, .string ⟨#[116, 114, 117, 101]⟩, .string ⟨#[84, 114, 117, 101]⟩, .string ⟨#[84, 82, 85, 69]⟩] 9) := ⟨_, rfl⟩
    rw [← hW2] at Z ⊢
    clear hW2
    go_upto_region 5 with (go_at_call 25; refine (IN2.out _).mono ?_; clear IN2; rintro e w2 ⟨rfl, h2⟩; rw [h2]; clear h2 w2)
    have Z := Lib.hid (Z.out.step ((Below.refl _ W2).alloc (Nat.le_refl _) (.cells #[.string ⟨#[102]⟩, .string ⟨#[70]⟩, .string ⟨#[102, 97, 108, 115, 101]⟩, .string ⟨#[70, 97, 108, 115, 101]⟩, .string ⟨#[70, 65, 76, 83, 69]⟩] 9)))
    obtain ⟨W3, hW3⟩ : ∃ W3, W3 = W2.alloc (.cells #[.string ⟨#[102]⟩, .string ⟨#[70]⟩, .string ⟨#[102, 97, 108, 115, 101]⟩, .string ⟨#[70, 97, 108, 115, 101]⟩, .string ⟨#[70, 65, 76, 83, 69]⟩] 9) := ⟨_, rfl⟩
    rw [← hW3] at Z ⊢
    clear hW3
    go_upto_region 14 with (go_at_call 27; refine (II.out _).mono ?_; clear II; rintro e w4 ⟨rfl, h2⟩; rw [h2]; clear h2 w4)
    obtain ⟨q0, q1, q2, q3, q4, q5⟩ := Z.out.cells
    have Q := Lib.hid (Z.out.fin (.int .i64 0) (.int .u64 0) (.string ⟨#[]⟩))
    go_wp2_with fail
    obtain ⟨m0, m1, m2, bb⟩ := Q.out
    refine bodyPost_ret (v := .tuple #[.agg #[.int .i64 0, .int .u64 0, .string ⟨#[]⟩], .int .i64 3]) (by simp [results, Tryz.results10, go_sem, m0, m1, m2] <;> rfl) rfl ⟨rfl, bb⟩
  | some v =>
    have II : Hid (∀ y : World, Calls Tryz.prog 27 #[.string T] y fun e w' => e = .returned (.tuple #[.int .i64 v, .int .i64 0]) ∧ w' = y) := Lib.hid (by have h := II.out; rw [irs_some hok hv] at h; exact h)
    obtain ⟨rfl, rfl, rfl⟩ := N3.out hok v hv
    clear N1 N2 N3 hok hv
    obtain ⟨W, hW⟩ : ∃ W, W = w.alloc (.cells #[.int .i64 0, .int .u64 0, .string ⟨#[]⟩] 25) := ⟨_, rfl⟩
    have Z := Lib.hid (show Zc w w.heap.size W by rw [hW]; exact zc_new w)
    obtain ⟨r, hr0⟩ : ∃ r, r = w.heap.size := ⟨_, rfl⟩
    have hbw := hr0
    rw [← hr0] at Z
    clear hbw
    go_enter Tryz.func10, Tryz.ntmps10
    go_upto_region 1 with (fail)
    rw [← hW, ← hr0]
    clear hW hr0
    go_upto_region 3 with (go_at_call 25; refine (IN1.out _).mono ?_; clear IN1; rintro e w2 ⟨rfl, h2⟩; rw [h2]; clear h2 w2)
    have Z := Lib.hid (Z.out.step ((Below.refl _ W).alloc (Nat.le_refl _) (.cells #[.string ⟨#[116]⟩, .string ⟨#[84]⟩, .string ⟨#[116, 114, 117, 101]⟩, .string ⟨#[84, 114, 117, 101]⟩, .string ⟨#[84, 82, 85, 69]⟩] 9)))
    obtain ⟨W2, hW2⟩ : ∃ W2, W2 = W.alloc (.cells #[.string ⟨#[116]⟩, .string ⟨#[84]⟩, .string ⟨#[116, 114, 117, 101]⟩, .string ⟨#[84, 114, 117, 101]⟩, .string ⟨#[84, 82, 85, 69]⟩] 9) := ⟨_, rfl⟩
    rw [← hW2] at Z ⊢
    clear hW2
    go_upto_region 5 with (go_at_call 25; refine (IN2.out _).mono ?_; clear IN2; rintro e w2 ⟨rfl, h2⟩; rw [h2]; clear h2 w2)
    have Z := Lib.hid (Z.out.step ((Below.refl _ W2).alloc (Nat.le_refl _) (.cells #[.string ⟨#[102]⟩, .string ⟨#[70]⟩, .string ⟨#[102, 97, 108, 115, 101]⟩, .string ⟨#[70, 97, 108, 115, 101]⟩, .string ⟨#[70, 65, 76, 83, 69]⟩] 9)))
    obtain ⟨W3, hW3⟩ : ∃ W3, W3 = W2.alloc (.cells #[.string ⟨#[102]⟩, .string ⟨#[70]⟩, .string ⟨#[102, 97, 108, 115, 101]⟩, .string ⟨#[70, 97, 108, 115, 101]⟩, .string ⟨#[70, 65, 76, 83, 69]⟩] 9) := ⟨_, rfl⟩
    rw [← hW3] at Z ⊢
    clear hW3
    go_upto_region 14 with (go_at_call 27; refine (II.out _).mono ?_; clear II; rintro e w4 ⟨rfl, h2⟩; rw [h2]; clear h2 w4)
    obtain ⟨q0, q1, q2, q3, q4, q5⟩ := Z.out.cells
    have Q := Lib.hid (Z.out.fin (.int .i64 2) (.int .u64 (IntKind.u64.wrap v)) (.string ⟨#[]⟩))
    go_wp2_with fail
    obtain ⟨m0, m1, m2, bb⟩ := Q.out
    refine bodyPost_ret (v := .tuple #[.agg #[.int .i64 2, .int .u64 (IntKind.u64.wrap v), .string ⟨#[]⟩], .int .i64 0]) (by simp [results, Tryz.results10, go_sem, m0, m1, m2] <;> rfl) rfl ⟨rfl, bb⟩
set_option maxRecDepth 100000 in
set_option maxHeartbeats 1000000 in
theorem rno (w : World) (s : ByteArray) (hs : s.size ≤ 140737488355328) (h0 : 0 < s.size) (h34 : by8 s 0 ≠ 34) (hl : s.size = 1 ∨ by8 s (s.size - 1) ≠ 105) (hw : ∀ k, k < 10 → word k ≠ s) (hf : (ff s && decide (s.size ≤ 400)) = false) :
    Calls Tryz.prog 10 #[.string s] w fun e w' => e = .returned (.tuple #[.agg #[.int .i64 0, .int .u64 0, .string ⟨#[]⟩], .int .i64 2]) ∧ Below w.heap.size w w' := by
  have IF := Lib.hid (fun (y : World) => isFloat y s (by omega))
  rw [hf] at IF
  have IN1 : Hid (∀ y : World, Calls Tryz.prog 25 #[.slice (some ⟨y.heap.size, 0, none⟩) 5 5, .string s] (y.alloc (.cells #[.string ⟨#[116]⟩, .string ⟨#[84]⟩, .string ⟨#[116, 114, 117, 101]⟩, .string ⟨#[84, 114, 117, 101]⟩, .string ⟨#[84, 82, 85, 69]⟩] 9)) fun e w' => e = .returned (.bool false) ∧ w' = y.alloc (.cells #[.string ⟨#[116]⟩, .string ⟨#[84]⟩, .string ⟨#[116, 114, 117, 101]⟩, .string ⟨#[84, 114, 117, 101]⟩, .string ⟨#[84, 82, 85, 69]⟩] 9)) := Lib.hid (in_t s false (fun h => by cases h) (fun _ k hk => hw k (by omega)))
  have IN2 : Hid (∀ y : World, Calls Tryz.prog 25 #[.slice (some ⟨y.heap.size, 0, none⟩) 5 5, .string s] (y.alloc (.cells #[.string ⟨#[102]⟩, .string ⟨#[70]⟩, .string ⟨#[102, 97, 108, 115, 101]⟩, .string ⟨#[70, 97, 108, 115, 101]⟩, .string ⟨#[70, 65, 76, 83, 69]⟩] 9)) fun e w' => e = .returned (.bool false) ∧ w' = y.alloc (.cells #[.string ⟨#[102]⟩, .string ⟨#[70]⟩, .string ⟨#[102, 97, 108, 115, 101]⟩, .string ⟨#[70, 97, 108, 115, 101]⟩, .string ⟨#[70, 65, 76, 83, 69]⟩] 9)) := Lib.hid (in_f s false (fun h => by cases h) (fun _ k hk => hw (5 + k) (by omega)))
  clear hw
  have hi0 := by8_get s 0 h0
  obtain ⟨b, hb⟩ : ∃ b, b = by8 s 0 := ⟨_, rfl⟩
  rw [← hb] at hi0 h34
  have g1 : ((b : Int) == 34) = false := by simp; omega
  clear hb h34
  obtain ⟨n, hn⟩ : ∃ n, n = s.size := ⟨_, rfl⟩
  have hlen : ∀ (ty : TypeId) (y : World), (Builtin.len_ #[9] ty #[.string s]).run Tryz.prog y = .ok (.int .i64 (n : Nat)) y := fun ty y => by rw [hn]; exact run_len_string y 9 ty s Tryz.underlying9
  have hil : ∀ y : World, (Instr.index 9 (.string s) (.int .i64 ((n : Int) - 1))).run Tryz.prog y = .ok (.int .u8 (by8 s (n - 1) : Nat)) y := fun y => by
    have h := idx y s (n - 1) (by omega)
    rw [show (((n - 1 : Nat)) : Int) = (n : Int) - 1 from by omega] at h
    exact h
  have hnb : n ≤ 140737488355328 := by omega
  have hn0 : 0 < n := by omega
  rw [← hn] at hl
  clear hn hs hf
  by_cases hn1 : 1 < n
  · have hl : by8 s (n - 1) ≠ 105 := by rcases hl with h | h; omega; exact h
    obtain ⟨c, hc⟩ : ∃ c, c = by8 s (n - 1) := ⟨_, rfl⟩
    rw [← hc] at hil hl
    have g2 : ((c : Int) == 105) = false := by simp; omega
    clear hc hl
    obtain ⟨W, hW⟩ : ∃ W, W = w.alloc (.cells #[.int .i64 0, .int .u64 0, .string ⟨#[]⟩] 25) := ⟨_, rfl⟩
    have Z := Lib.hid (show Zc w w.heap.size W by rw [hW]; exact zc_new w)
    obtain ⟨r, hr0⟩ : ∃ r, r = w.heap.size := ⟨_, rfl⟩
    have hbw := hr0
    rw [← hr0] at Z
    clear hbw
    go_enter Tryz.func10, Tryz.ntmps10
    go_upto_region 1 with (fail)
    rw [← hW, ← hr0]
    clear hW hr0
    go_upto_region 3 with (go_at_call 25; refine (IN1.out _).mono ?_; clear IN1; rintro e w2 ⟨rfl, h2⟩; rw [h2]; clear h2 w2)
    have Z := Lib.hid (Z.out.step ((Below.refl _ W).alloc (Nat.le_refl _) (.cells #[.string ⟨#[116]⟩, .string ⟨#[84]⟩, .string ⟨#[116, 114, 117, 101]⟩, .string ⟨#[84, 114, 117, 101]⟩, .string ⟨#[84, 82, 85, 69]⟩] 9)))
    obtain ⟨W2, hW2⟩ : ∃ W2, W2 = W.alloc (.cells #[.string ⟨#[116]⟩, .string ⟨#[84]⟩, .string ⟨#[116, 114, 117, 101]⟩, .string ⟨#[84, 114, 117, 101]⟩, .string ⟨#[84, 82, 85, 69]⟩] 9) := ⟨_, rfl⟩
    rw [← hW2] at Z ⊢
    clear hW2
    go_upto_region 5 with (go_at_call 25; refine (IN2.out _).mono ?_; clear IN2; rintro e w2 ⟨rfl, h2⟩; rw [h2]; clear h2 w2)
    have Z := Lib.hid (Z.out.step ((Below.refl _ W2).alloc (Nat.le_refl _) (.cells #[.string ⟨#[102]⟩, .string ⟨#[70]⟩, .string ⟨#[102, 97, 108, 115, 101]⟩, .string ⟨#[70, 97, 108, 115, 101]⟩, .string ⟨#[70, 65, 76, 83, 69]⟩] 9)))
    obtain ⟨W3, hW3⟩ : ∃ W3, W3 = W2.alloc (.cells #[.string ⟨#[102]⟩, .string ⟨#[70]⟩, .string ⟨#[102, 97, 108, 115, 101]⟩, .string ⟨#[70, 97, 108, 115, 101]⟩, .string ⟨#[70, 65, 76, 83, 69]⟩] 9) := ⟨_, rfl⟩
    rw [← hW3] at Z ⊢
    clear hW3
    go_upto_region 18 with (go_at_call 28; refine (IF.out _).mono ?_; clear IF; rintro e w4 ⟨rfl, h2⟩; rw [h2]; clear h2 w4)
    obtain ⟨q0, q1, q2, q3, q4, q5⟩ := Z.out.cells
    have Q := Lib.hid (Z.out.fin (.int .i64 0) (.int .u64 0) (.string ⟨#[]⟩))
    go_wp2_with fail
    obtain ⟨m0, m1, m2, bb⟩ := Q.out
    refine bodyPost_ret (v := .tuple #[.agg #[.int .i64 0, .int .u64 0, .string ⟨#[]⟩], .int .i64 2]) (by simp [results, Tryz.results10, go_sem, m0, m1, m2] <;> rfl) rfl ⟨rfl, bb⟩
  · have g3 : ¬ (n : Int) > 1 := by omega
    clear hl hil
    obtain ⟨W, hW⟩ : ∃ W, W = w.alloc (.cells #[.int .i64 0, .int .u64 0, .string ⟨#[]⟩] 25) := ⟨_, rfl⟩
    have Z := Lib.hid (show Zc w w.heap.size W by rw [hW]; exact zc_new w)
    obtain ⟨r, hr0⟩ : ∃ r, r = w.heap.size := ⟨_, rfl⟩
    have hbw := hr0
    rw [← hr0] at Z
    clear hbw
    go_enter Tryz.func10, Tryz.ntmps10
    go_upto_region 1 with (fail)
    rw [← hW, ← hr0]
    clear hW hr0
    go_upto_region 3 with (go_at_call 25; refine (IN1.out _).mono ?_; clear IN1; rintro e w2 ⟨rfl, h2⟩; rw [h2]; clear h2 w2)
    have Z := Lib.hid (Z.out.step ((Below.refl _ W).alloc (Nat.le_refl _) (.cells #[.string ⟨#[116]⟩, .string ⟨#[84]⟩, .string ⟨#[116, 114, 117, 101]⟩, .string ⟨#[84, 114, 117, 101]⟩, .string ⟨#[84, 82, 85, 69]⟩] 9)))
    obtain ⟨W2, hW2⟩ : ∃ W2, W2 = W.alloc (.cells #[.string ⟨#[116]⟩, .string ⟨#[84]⟩, .string ⟨#[116, 114, 117, 101]⟩, .string ⟨#[84, 114, 117, 101]⟩, .string ⟨#[84, 82, 85, 69]⟩] 9) := ⟨_, rfl⟩
    rw [← hW2] at Z ⊢
    clear hW2
    go_upto_region 5 with (go_at_call 25; refine (IN2.out _).mono ?_; clear IN2; rintro e w2 ⟨rfl, h2⟩; rw [h2]; clear h2 w2)
    have Z := Lib.hid (Z.out.step ((Below.refl _ W2).alloc (Nat.le_refl _) (.cells #[.string ⟨#[102]⟩, .string ⟨#[70]⟩, .string ⟨#[102, 97, 108, 115, 101]⟩, .string ⟨#[70, 97, 108, 115, 101]⟩, .string ⟨#[70, 65, 76, 83, 69]⟩] 9)))
    obtain ⟨W3, hW3⟩ : ∃ W3, W3 = W2.alloc (.cells #[.string ⟨#[102]⟩, .string ⟨#[70]⟩, .string ⟨#[102, 97, 108, 115, 101]⟩, .string ⟨#[70, 97, 108, 115, 101]⟩, .string ⟨#[70, 65, 76, 83, 69]⟩] 9) := ⟨_, rfl⟩
    rw [← hW3] at Z ⊢
    clear hW3
    go_upto_region 18 with (go_at_call 28; refine (IF.out _).mono ?_; clear IF; rintro e w4 ⟨rfl, h2⟩; rw [h2]; clear h2 w4)
    obtain ⟨q0, q1, q2, q3, q4, q5⟩ := Z.out.cells
    have Q := Lib.hid (Z.out.fin (.int .i64 0) (.int .u64 0) (.string ⟨#[]⟩))
    go_wp2_with fail
    obtain ⟨m0, m1, m2, bb⟩ := Q.out
    refine bodyPost_ret (v := .tuple #[.agg #[.int .i64 0, .int .u64 0, .string ⟨#[]⟩], .int .i64 2]) (by simp [results, Tryz.results10, go_sem, m0, m1, m2] <;> rfl) rfl ⟨rfl, bb⟩
set_option maxRecDepth 100000 in
theorem rempty (w : World) : Calls Tryz.prog 10 #[.string ⟨#[]⟩] w fun e w' => e = .returned (.tuple #[.agg #[.int .i64 0, .int .u64 0, .string ⟨#[]⟩], .int .i64 2]) ∧ Below w.heap.size w w' := by
  have IF : Hid (∀ y : World, Calls Tryz.prog 28 #[.string ⟨#[]⟩] y fun e w' => e = .returned (.bool false) ∧ w' = y) := Lib.hid (fun y => by
    have h := isFloat y ⟨#[]⟩ (by decide)
    have e : ff ⟨#[]⟩ = false := by decide +kernel
    rw [e, Bool.false_and] at h
    exact h)
  have hw : ∀ k, k < 10 → word k ≠ ⟨#[]⟩ := by
    intro k hk
    match k, hk with
    | 0, _ => decide
    | 1, _ => decide
    | 2, _ => decide
    | 3, _ => decide
    | 4, _ => decide
    | 5, _ => decide
    | 6, _ => decide
    | 7, _ => decide
    | 8, _ => decide
    | 9, _ => decide
  have IN1 : Hid (∀ y : World, Calls Tryz.prog 25 #[.slice (some ⟨y.heap.size, 0, none⟩) 5 5, .string ⟨#[]⟩] (y.alloc (.cells #[.string ⟨#[116]⟩, .string ⟨#[84]⟩, .string ⟨#[116, 114, 117, 101]⟩, .string ⟨#[84, 114, 117, 101]⟩, .string ⟨#[84, 82, 85, 69]⟩] 9)) fun e w' => e = .returned (.bool false) ∧ w' = y.alloc (.cells #[.string ⟨#[116]⟩, .string ⟨#[84]⟩, .string ⟨#[116, 114, 117, 101]⟩, .string ⟨#[84, 114, 117, 101]⟩, .string ⟨#[84, 82, 85, 69]⟩] 9)) := Lib.hid (in_t ⟨#[]⟩ false (fun h => by cases h) (fun _ k hk => hw k (by omega)))
  have IN2 : Hid (∀ y : World, Calls Tryz.prog 25 #[.slice (some ⟨y.heap.size, 0, none⟩) 5 5, .string ⟨#[]⟩] (y.alloc (.cells #[.string ⟨#[102]⟩, .string ⟨#[70]⟩, .string ⟨#[102, 97, 108, 115, 101]⟩, .string ⟨#[70, 97, 108, 115, 101]⟩, .string ⟨#[70, 65, 76, 83, 69]⟩] 9)) fun e w' => e = .returned (.bool false) ∧ w' = y.alloc (.cells #[.string ⟨#[102]⟩, .string ⟨#[70]⟩, .string ⟨#[102, 97, 108, 115, 101]⟩, .string ⟨#[70, 97, 108, 115, 101]⟩, .string ⟨#[70, 65, 76, 83, 69]⟩] 9)) := Lib.hid (in_f ⟨#[]⟩ false (fun h => by cases h) (fun _ k hk => hw (5 + k) (by omega)))
  clear hw
  obtain ⟨W, hW⟩ : ∃ W, W = w.alloc (.cells #[.int .i64 0, .int .u64 0, .string ⟨#[]⟩] 25) := ⟨_, rfl⟩
  have Z := Lib.hid (show Zc w w.heap.size W by rw [hW]; exact zc_new w)
  obtain ⟨r, hr0⟩ : ∃ r, r = w.heap.size := ⟨_, rfl⟩
  have hbw := hr0
  rw [← hr0] at Z
  clear hbw
  go_enter Tryz.func10, Tryz.ntmps10
  go_upto_region 1 with (fail)
  rw [← hW, ← hr0]
  clear hW hr0
  go_upto_region 3 with (go_at_call 25; refine (IN1.out _).mono ?_; clear IN1; rintro e w2 ⟨rfl, h2⟩; rw [h2]; clear h2 w2)
  have Z := Lib.hid (Z.out.step ((Below.refl _ W).alloc (Nat.le_refl _) (.cells #[.string ⟨#[116]⟩, .string ⟨#[84]⟩, .string ⟨#[116, 114, 117, 101]⟩, .string ⟨#[84, 114, 117, 101]⟩, .string ⟨#[84, 82, 85, 69]⟩] 9)))
  obtain ⟨W2, hW2⟩ : ∃ W2, W2 = W.alloc (.cells #[.string ⟨#[116]⟩, .string ⟨#[84]⟩, .string ⟨#[116, 114, 117, 101]⟩, .string ⟨#[84, 114, 117, 101]⟩, .string ⟨#[84, 82, 85, 69]⟩] 9) := ⟨_, rfl⟩
  rw [← hW2] at Z ⊢
  clear hW2
  go_upto_region 5 with (go_at_call 25; refine (IN2.out _).mono ?_; clear IN2; rintro e w2 ⟨rfl, h2⟩; rw [h2]; clear h2 w2)
  have Z := Lib.hid (Z.out.step ((Below.refl _ W2).alloc (Nat.le_refl _) (.cells #[.string ⟨#[102]⟩, .string ⟨#[70]⟩, .string ⟨#[102, 97, 108, 115, 101]⟩, .string ⟨#[70, 97, 108, 115, 101]⟩, .string ⟨#[70, 65, 76, 83, 69]⟩] 9)))
  obtain ⟨W3, hW3⟩ : ∃ W3, W3 = W2.alloc (.cells #[.string ⟨#[102]⟩, .string ⟨#[70]⟩, .string ⟨#[102, 97, 108, 115, 101]⟩, .string ⟨#[70, 97, 108, 115, 101]⟩, .string ⟨#[70, 65, 76, 83, 69]⟩] 9) := ⟨_, rfl⟩
  rw [← hW3] at Z ⊢
  clear hW3
  go_upto_region 18 with (go_at_call 28; refine (IF.out _).mono ?_; clear IF; rintro e w4 ⟨rfl, h2⟩; rw [h2]; clear h2 w4)
  obtain ⟨q0, q1, q2, q3, q4, q5⟩ := Z.out.cells
  have Q := Lib.hid (Z.out.fin (.int .i64 0) (.int .u64 0) (.string ⟨#[]⟩))
  go_wp2_with fail
  obtain ⟨m0, m1, m2, bb⟩ := Q.out
  refine bodyPost_ret (v := .tuple #[.agg #[.int .i64 0, .int .u64 0, .string ⟨#[]⟩], .int .i64 2]) (by simp [results, Tryz.results10, go_sem, m0, m1, m2] <;> rfl) rfl ⟨rfl, bb⟩
end Vm
end Go.Proofs.YtbnicnhkakbglaaGreatDoor
