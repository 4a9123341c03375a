import Derived.Test.YtbnicnhkakbglaaGreatDoorG35
import Derived.Test.YtbnicnhkakbglaaGreatDoorG33
import Derived.Test.YtbnicnhkakbglaaGreatDoorG02
import Derived.Test.YtbnicnhkakbglaaGreatDoorG34

/- The program's Parse, whatever it hands on to. -/
namespace Go.Proofs.YtbnicnhkakbglaaGreatDoor
open Go.RowKit
namespace Vm
open Jb Sa Sb Sj Vd

def word (k : Nat) : ByteArray := match k with
  | 0 => ⟨#[116]⟩
  | 1 => ⟨#[84]⟩
  | 2 => ⟨#[116, 114, 117, 101]⟩
  | 3 => ⟨#[84, 114, 117, 101]⟩
  | 4 => ⟨#[84, 82, 85, 69]⟩
  | 5 => ⟨#[102]⟩
  | 6 => ⟨#[70]⟩
  | 7 => ⟨#[102, 97, 108, 115, 101]⟩
  | 8 => ⟨#[70, 97, 108, 115, 101]⟩
  | 9 => ⟨#[70, 65, 76, 83, 69]⟩
  | _ => ⟨#[]⟩
theorem ne_lit {s t : ByteArray} {l : List UInt8} (ht : t.toList = l) (h : t ≠ s) : (s.toList == l) = false := by
  have h1 := toList_ne (fun e => h e.symm)
  rw [ht] at h1
  exact h1
set_option maxRecDepth 100000 in
theorem pempty (w : World) : Calls Tryz.prog 11 #[.string ⟨#[]⟩] w fun e w' => e = .returned (.tuple #[.agg #[.int .i64 0, .int .u64 0, .string ⟨#[]⟩], .int .i64 2]) ∧ Below w.heap.size w w' := by
  obtain ⟨W, hW⟩ : ∃ W, W = w.alloc (.cells #[.int .i64 0, .int .u64 0, .string ⟨#[]⟩] 25) := ⟨_, rfl⟩
  have Z := Lib.hid (show Zc w w.heap.size W by rw [hW]; exact zc_new w)
  obtain ⟨r, hr0⟩ : ∃ r, r = w.heap.size := ⟨_, rfl⟩
  have hbw := hr0
  rw [← hr0] at Z
  clear hbw
  go_enter Tryz.func11, Tryz.ntmps11
  go_upto_region 1 with (fail)
  rw [← hW, ← hr0]
  clear hW hr0
  obtain ⟨q0, q1, q2, q3, q4, q5⟩ := Z.out.cells
  have Q := Lib.hid (Z.out.fin (.int .i64 0) (.int .u64 0) (.string ⟨#[]⟩))
  go_wp2_with fail
  obtain ⟨m0, m1, m2, bb⟩ := Q.out
  refine bodyPost_ret (v := .tuple #[.agg #[.int .i64 0, .int .u64 0, .string ⟨#[]⟩], .int .i64 2]) (by simp [results, Tryz.results11, go_sem, m0, m1, m2] <;> rfl) rfl ⟨rfl, bb⟩
set_option maxRecDepth 100000 in
set_option maxHeartbeats 1000000 in
theorem pquote (w : World) (s : ByteArray) (_ : s.size ≤ 140737488355328) (h0 : 0 < s.size) (h34 : by8 s 0 = 34) (TT : World → Prop) (hTT : ∀ w w', TT w → Below w.heap.size w w' → TT w') (hT : TT w) (A1 A2 A3 : Int) (C : ByteArray)
    (hF : ∀ y, TT y → Calls Tryz.prog 31 #[.string s] y fun e w' => e = .returned (.tuple #[.agg #[.int .i64 A1, .int .u64 A2, .string C], .int .i64 A3]) ∧ Below y.heap.size y w') :
    Calls Tryz.prog 11 #[.string s] w fun e w' => e = .returned (.tuple #[.agg #[.int .i64 A1, .int .u64 A2, .string C], .int .i64 A3]) ∧ Below w.heap.size w w' := by
  have FC := Lib.hid hF
  clear hF
  obtain ⟨es, es2⟩ := nil_no (show s ≠ ⟨#[]⟩ from fun e => by rw [e] at h0; exact absurd h0 (by decide))
  have hi0 := by8_get s 0 h0
  rw [h34] at hi0
  clear h34
  obtain ⟨W, hW⟩ : ∃ W, W = w.alloc (.cells #[.int .i64 0, .int .u64 0, .string ⟨#[]⟩] 25) := ⟨_, rfl⟩
  have Z := Lib.hid (show Zc w w.heap.size W by rw [hW]; exact zc_new w)
  obtain ⟨r, hr0⟩ : ∃ r, r = w.heap.size := ⟨_, rfl⟩
  have hbw := hr0
  rw [← hr0] at Z
  have HW := Lib.hid (show TT W from hTT _ _ hT (by rw [hW]; exact (Below.refl _ w).alloc (Nat.le_refl _) _))
  clear hbw hT hTT
  go_enter Tryz.func11, Tryz.ntmps11
  go_upto_region 1 with (fail)
  rw [← hW, ← hr0]
  clear hW hr0
  obtain ⟨q0, q1, q2, q3, q4, q5⟩ := Z.out.cells
  go_wp2_with (go_at_call 31; refine (FC.out _ HW.out).mono ?_; clear FC; rintro e w4 ⟨rfl, b4⟩; have Z := Lib.hid (Z.out.step b4); clear b4; clear q0 q1 q2 q3 q4 q5; obtain ⟨q0, q1, q2, q3, q4, q5⟩ := Z.out.cells; have Q := Lib.hid (Z.out.fin (.int .i64 A1) (.int .u64 A2) (.string C)))
  obtain ⟨m0, m1, m2, bb⟩ := Q.out
  refine bodyPost_ret (v := .tuple #[.agg #[.int .i64 A1, .int .u64 A2, .string C], .int .i64 A3]) (by simp [results, Tryz.results11, go_sem, m0, m1, m2] <;> rfl) rfl ⟨rfl, bb⟩
set_option maxRecDepth 100000 in
set_option maxHeartbeats 1000000 in
theorem pint (w : World) (s : ByteArray) (hs : s.size ≤ 140737488355328) (h0 : 0 < s.size) (h34 : by8 s 0 ≠ 34) (hl : by8 s (s.size - 1) = 105) (TT : World → Prop) (hTT : ∀ w w', TT w → Below w.heap.size w w' → TT w') (hT : TT w) (A1 A2 A3 : Int) (C : ByteArray)
    (hF : ∀ y, TT y → Calls Tryz.prog 32 #[.string s] y fun e w' => e = .returned (.tuple #[.agg #[.int .i64 A1, .int .u64 A2, .string C], .int .i64 A3]) ∧ Below y.heap.size y w') :
    Calls Tryz.prog 11 #[.string s] w fun e w' => e = .returned (.tuple #[.agg #[.int .i64 A1, .int .u64 A2, .string C], .int .i64 A3]) ∧ Below w.heap.size w w' := by
  have FC := Lib.hid hF
  clear hF
  obtain ⟨es, es2⟩ := nil_no (show s ≠ ⟨#[]⟩ from fun e => by rw [e] at h0; exact absurd h0 (by decide))
  have hi0 := by8_get s 0 h0
  obtain ⟨n, hn⟩ : ∃ n, n = s.size := ⟨_, rfl⟩
  have hlen : ∀ (ty : TypeId) (y : World), (Builtin.len_ #[9] ty #[.string s]).run Tryz.prog y = .ok (.int .i64 (n : Nat)) y := fun ty y => by rw [hn]; exact run_len_string y 9 ty s Tryz.underlying9
  have hil : ∀ y : World, (Instr.index 9 (.string s) (.int .i64 ((n : Int) - 1))).run Tryz.prog y = .ok (.int .u8 (by8 s (n - 1) : Nat)) y := fun y => by
    have h := idx y s (n - 1) (by omega)
    rw [show (((n - 1 : Nat)) : Int) = (n : Int) - 1 from by omega] at h
    exact h
  have hnb : n ≤ 140737488355328 := by omega
  have hn1 : 1 ≤ n := by omega
  rw [← hn] at hl
  obtain ⟨b, hb⟩ : ∃ b, b = by8 s 0 := ⟨_, rfl⟩
  rw [← hb] at hi0 h34
  have g1 : ((b : Int) == 34) = false := by simp; omega
  obtain ⟨c, hc⟩ : ∃ c, c = by8 s (n - 1) := ⟨_, rfl⟩
  rw [← hc] at hil hl
  subst hl
  clear hn hb h34 hs hc
  obtain ⟨W, hW⟩ : ∃ W, W = w.alloc (.cells #[.int .i64 0, .int .u64 0, .string ⟨#[]⟩] 25) := ⟨_, rfl⟩
  have Z := Lib.hid (show Zc w w.heap.size W by rw [hW]; exact zc_new w)
  obtain ⟨r, hr0⟩ : ∃ r, r = w.heap.size := ⟨_, rfl⟩
  have hbw := hr0
  rw [← hr0] at Z
  have HW := Lib.hid (show TT W from hTT _ _ hT (by rw [hW]; exact (Below.refl _ w).alloc (Nat.le_refl _) _))
  clear hbw hT hTT
  go_enter Tryz.func11, Tryz.ntmps11
  go_upto_region 1 with (fail)
  rw [← hW, ← hr0]
  clear hW hr0
  obtain ⟨q0, q1, q2, q3, q4, q5⟩ := Z.out.cells
  go_wp2_with (go_at_call 32; refine (FC.out _ HW.out).mono ?_; clear FC; rintro e w4 ⟨rfl, b4⟩; have Z := Lib.hid (Z.out.step b4); clear b4; clear q0 q1 q2 q3 q4 q5; obtain ⟨q0, q1, q2, q3, q4, q5⟩ := Z.out.cells; have Q := Lib.hid (Z.out.fin (.int .i64 A1) (.int .u64 A2) (.string C)))
  obtain ⟨m0, m1, m2, bb⟩ := Q.out
  refine bodyPost_ret (v := .tuple #[.agg #[.int .i64 A1, .int .u64 A2, .string C], .int .i64 A3]) (by simp [results, Tryz.results11, go_sem, m0, m1, m2] <;> rfl) rfl ⟨rfl, bb⟩
end Vm
end Go.Proofs.YtbnicnhkakbglaaGreatDoor

/- The program's Parse where it hands on to the floats. -/
namespace Go.Proofs.YtbnicnhkakbglaaGreatDoor
open Go.RowKit
namespace Vm
open Jb Sa Sb Sj Vd

set_option maxRecDepth 100000 in
set_option maxHeartbeats 1000000 in
theorem pfloat (w : World) (s : ByteArray) (hs : s.size ≤ 140737488355328) (h0 : 0 < s.size) (h34 : by8 s 0 ≠ 34) (hl : by8 s (s.size - 1) ≠ 105) (hw : ∀ k, k < 10 → word k ≠ s) (TT : World → Prop) (hTT : ∀ w w', TT w → Below w.heap.size w w' → TT w') (hT : TT w) (A1 A2 A3 : Int) (C : ByteArray)
    (hF : ∀ y, TT y → Calls Tryz.prog 33 #[.string s] y fun e w' => e = .returned (.tuple #[.agg #[.int .i64 A1, .int .u64 A2, .string C], .int .i64 A3]) ∧ Below y.heap.size y w') :
    Calls Tryz.prog 11 #[.string s] w fun e w' => e = .returned (.tuple #[.agg #[.int .i64 A1, .int .u64 A2, .string C], .int .i64 A3]) ∧ Below w.heap.size w w' := by
  have FC := Lib.hid hF
  clear hF
  obtain ⟨es, es2⟩ := nil_no (show s ≠ ⟨#[]⟩ from fun e => by rw [e] at h0; exact absurd h0 (by decide))
  have hi0 := by8_get s 0 h0
  obtain ⟨n, hn⟩ : ∃ n, n = s.size := ⟨_, rfl⟩
  have hlen : ∀ (ty : TypeId) (y : World), (Builtin.len_ #[9] ty #[.string s]).run Tryz.prog y = .ok (.int .i64 (n : Nat)) y := fun ty y => by rw [hn]; exact run_len_string y 9 ty s Tryz.underlying9
  have hil : ∀ y : World, (Instr.index 9 (.string s) (.int .i64 ((n : Int) - 1))).run Tryz.prog y = .ok (.int .u8 (by8 s (n - 1) : Nat)) y := fun y => by
    have h := idx y s (n - 1) (by omega)
    rw [show (((n - 1 : Nat)) : Int) = (n : Int) - 1 from by omega] at h
    exact h
  have hnb : n ≤ 140737488355328 := by omega
  have hn1 : 1 ≤ n := by omega
  rw [← hn] at hl
  obtain ⟨b, hb⟩ : ∃ b, b = by8 s 0 := ⟨_, rfl⟩
  rw [← hb] at hi0 h34
  have g1 : ((b : Int) == 34) = false := by simp; omega
  obtain ⟨c, hc⟩ : ∃ c, c = by8 s (n - 1) := ⟨_, rfl⟩
  rw [← hc] at hil hl
  have g2 : ((c : Int) == 105) = false := by simp; omega
  have k0 : (s.toList == [116]) = false := ne_lit (t := word 0) (by decide +kernel) (hw 0 (by decide))
  have k1 : (s.toList == [84]) = false := ne_lit (t := word 1) (by decide +kernel) (hw 1 (by decide))
  have k2 : (s.toList == [116, 114, 117, 101]) = false := ne_lit (t := word 2) (by decide +kernel) (hw 2 (by decide))
  have k3 : (s.toList == [84, 114, 117, 101]) = false := ne_lit (t := word 3) (by decide +kernel) (hw 3 (by decide))
  have k4 : (s.toList == [84, 82, 85, 69]) = false := ne_lit (t := word 4) (by decide +kernel) (hw 4 (by decide))
  have k5 : (s.toList == [102]) = false := ne_lit (t := word 5) (by decide +kernel) (hw 5 (by decide))
  have k6 : (s.toList == [70]) = false := ne_lit (t := word 6) (by decide +kernel) (hw 6 (by decide))
  have k7 : (s.toList == [102, 97, 108, 115, 101]) = false := ne_lit (t := word 7) (by decide +kernel) (hw 7 (by decide))
  have k8 : (s.toList == [70, 97, 108, 115, 101]) = false := ne_lit (t := word 8) (by decide +kernel) (hw 8 (by decide))
  have k9 : (s.toList == [70, 65, 76, 83, 69]) = false := ne_lit (t := word 9) (by decide +kernel) (hw 9 (by decide))
  clear hn hb h34 hs hc hl hw
  obtain ⟨W, hW⟩ : ∃ W, W = w.alloc (.cells #[.int .i64 0, .int .u64 0, .string ⟨#[]⟩] 25) := ⟨_, rfl⟩
  have Z := Lib.hid (show Zc w w.heap.size W by rw [hW]; exact zc_new w)
  obtain ⟨r, hr0⟩ : ∃ r, r = w.heap.size := ⟨_, rfl⟩
  have hbw := hr0
  rw [← hr0] at Z
  have HW := Lib.hid (show TT W from hTT _ _ hT (by rw [hW]; exact (Below.refl _ w).alloc (Nat.le_refl _) _))
  clear hbw hT hTT
  go_enter Tryz.func11, Tryz.ntmps11
  go_upto_region 1 with (fail)
  rw [← hW, ← hr0]
  clear hW hr0
  obtain ⟨q0, q1, q2, q3, q4, q5⟩ := Z.out.cells
  go_wp2_with (go_at_call 33; refine (FC.out _ HW.out).mono ?_; clear FC; rintro e w4 ⟨rfl, b4⟩; have Z := Lib.hid (Z.out.step b4); clear b4; clear q0 q1 q2 q3 q4 q5; obtain ⟨q0, q1, q2, q3, q4, q5⟩ := Z.out.cells; have Q := Lib.hid (Z.out.fin (.int .i64 A1) (.int .u64 A2) (.string C)))
  obtain ⟨m0, m1, m2, bb⟩ := Q.out
  refine bodyPost_ret (v := .tuple #[.agg #[.int .i64 A1, .int .u64 A2, .string C], .int .i64 A3]) (by simp [results, Tryz.results11, go_sem, m0, m1, m2] <;> rfl) rfl ⟨rfl, bb⟩
end Vm
end Go.Proofs.YtbnicnhkakbglaaGreatDoor

/- The document's Parse. -/
namespace Go.Proofs.YtbnicnhkakbglaaGreatDoor
open Go.RowKit
namespace Vm
open Jb Sa Sb Sc Sd Se Sf Sg Sh Si Sj Uq Vd

def tws (k : Nat) : ByteArray := word k
def fws (k : Nat) : ByteArray := word (5 + k)
theorem cell_new (y : World) (arr : Array Value) (t : TypeId) (k : Nat) : (y.alloc (.cells arr t)).cell? ⟨y.heap.size, k, none⟩ = arr[k]? := by
  rw [World.cell?_alloc_at (w := y) _ _ y.heap.size k rfl]
theorem in_t (s : ByteArray) (a : Bool) (h1 : a = true → ∃ k, k < 5 ∧ word k = s) (h0 : a = false → ∀ k, k < 5 → word k ≠ s) (y : World) :
    Calls Tryz.prog 25 #[.slice (some ⟨y.heap.size, 0, none⟩) 5 5, .string s] (y.alloc (.cells #[.string ⟨#[116]⟩, .string ⟨#[84]⟩, .string ⟨#[116, 114, 117, 101]⟩, .string ⟨#[84, 114, 117, 101]⟩, .string ⟨#[84, 82, 85, 69]⟩] 9)) fun e w' => e = .returned (.bool a) ∧ w' = y.alloc (.cells #[.string ⟨#[116]⟩, .string ⟨#[84]⟩, .string ⟨#[116, 114, 117, 101]⟩, .string ⟨#[84, 114, 117, 101]⟩, .string ⟨#[84, 82, 85, 69]⟩] 9) := by
  refine in25 _ y.heap.size word s (fun k hk => ?_) a h1 h0
  rw [cell_new]
  match k, hk with
  | 0, _ => rfl
  | 1, _ => rfl
  | 2, _ => rfl
  | 3, _ => rfl
  | 4, _ => rfl
theorem in_f (s : ByteArray) (a : Bool) (h1 : a = true → ∃ k, k < 5 ∧ word (5 + k) = s) (h0 : a = false → ∀ k, k < 5 → word (5 + k) ≠ s) (y : World) :
    Calls Tryz.prog 25 #[.slice (some ⟨y.heap.size, 0, none⟩) 5 5, .string s] (y.alloc (.cells #[.string ⟨#[102]⟩, .string ⟨#[70]⟩, .string ⟨#[102, 97, 108, 115, 101]⟩, .string ⟨#[70, 97, 108, 115, 101]⟩, .string ⟨#[70, 65, 76, 83, 69]⟩] 9)) fun e w' => e = .returned (.bool a) ∧ w' = y.alloc (.cells #[.string ⟨#[102]⟩, .string ⟨#[70]⟩, .string ⟨#[102, 97, 108, 115, 101]⟩, .string ⟨#[70, 97, 108, 115, 101]⟩, .string ⟨#[70, 65, 76, 83, 69]⟩] 9) := by
  refine in25 _ y.heap.size (fun k => word (5 + k)) s (fun k hk => ?_) a h1 h0
  rw [cell_new]
  match k, hk with
  | 0, _ => rfl
  | 1, _ => rfl
  | 2, _ => rfl
  | 3, _ => rfl
  | 4, _ => rfl
set_option maxRecDepth 100000 in
theorem rword_t (w : World) (s : ByteArray) (h : ∃ k, k < 5 ∧ word k = s) : Calls Tryz.prog 10 #[.string s] w fun e w' => e = .returned (.tuple #[.agg #[.int .i64 3, .int .u64 1, .string ⟨#[]⟩], .int .i64 0]) ∧ Below w.heap.size w w' := by
  have IN1 : Hid (∀ y : World, Calls Tryz.prog 25 #[.slice (some ⟨y.heap.size, 0, none⟩) 5 5, .string s] (y.alloc (.cells #[.string ⟨#[116]⟩, .string ⟨#[84]⟩, .string ⟨#[116, 114, 117, 101]⟩, .string ⟨#[84, 114, 117, 101]⟩, .string ⟨#[84, 82, 85, 69]⟩] 9)) fun e w' => e = .returned (.bool true) ∧ w' = y.alloc (.cells #[.string ⟨#[116]⟩, .string ⟨#[84]⟩, .string ⟨#[116, 114, 117, 101]⟩, .string ⟨#[84, 114, 117, 101]⟩, .string ⟨#[84, 82, 85, 69]⟩] 9)) := Lib.hid (in_t s true (fun _ => h) (fun h => by cases h))
  clear h
  obtain ⟨W, hW⟩ : ∃ W, W = w.alloc (.cells #[.int .i64 0, .int .u64 0, .string ⟨#[]⟩] 25) := ⟨_, rfl⟩
  have Z := Lib.hid (show Zc w w.heap.size W by rw [hW]; exact zc_new w)
  obtain ⟨r, hr0⟩ : ∃ r, r = w.heap.size := ⟨_, rfl⟩
  have hbw := hr0
  rw [← hr0] at Z
  clear hbw
  go_enter Tryz.func10, Tryz.ntmps10
  go_upto_region 1 with (fail)
  rw [← hW, ← hr0]
  clear hW hr0
  go_upto_region 2 with (go_at_call 25; refine (IN1.out _).mono ?_; clear IN1; rintro e w2 ⟨rfl, h2⟩; rw [h2]; clear h2 w2)
  have Z := Lib.hid (Z.out.step ((Below.refl _ W).alloc (Nat.le_refl _) (.cells #[.string ⟨#[116]⟩, .string ⟨#[84]⟩, .string ⟨#[116, 114, 117, 101]⟩, .string ⟨#[84, 114, 117, 101]⟩, .string ⟨#[84, 82, 85, 69]⟩] 9)))
  obtain ⟨q0, q1, q2, q3, q4, q5⟩ := Z.out.cells
  have Q := Lib.hid (Z.out.fin (.int .i64 3) (.int .u64 1) (.string ⟨#[]⟩))
  go_wp2_with fail
  obtain ⟨m0, m1, m2, bb⟩ := Q.out
  refine bodyPost_ret (v := .tuple #[.agg #[.int .i64 3, .int .u64 1, .string ⟨#[]⟩], .int .i64 0]) (by simp [results, Tryz.results10, go_sem, m0, m1, m2] <;> rfl) rfl ⟨rfl, bb⟩
set_option maxRecDepth 100000 in
theorem rword_f (w : World) (s : ByteArray) (h0 : ∀ k, k < 5 → word k ≠ s) (h : ∃ k, k < 5 ∧ word (5 + k) = s) : Calls Tryz.prog 10 #[.string s] w fun e w' => e = .returned (.tuple #[.agg #[.int .i64 3, .int .u64 0, .string ⟨#[]⟩], .int .i64 0]) ∧ Below w.heap.size w w' := by
  have IN1 : Hid (∀ y : World, Calls Tryz.prog 25 #[.slice (some ⟨y.heap.size, 0, none⟩) 5 5, .string s] (y.alloc (.cells #[.string ⟨#[116]⟩, .string ⟨#[84]⟩, .string ⟨#[116, 114, 117, 101]⟩, .string ⟨#[84, 114, 117, 101]⟩, .string ⟨#[84, 82, 85, 69]⟩] 9)) fun e w' => e = .returned (.bool false) ∧ w' = y.alloc (.cells #[.string ⟨#[116]⟩, .string ⟨#[84]⟩, .string ⟨#[116, 114, 117, 101]⟩, .string ⟨#[84, 114, 117, 101]⟩, .string ⟨#[84, 82, 85, 69]⟩] 9)) := Lib.hid (in_t s false (fun h => by cases h) (fun _ => h0))
  have IN2 : Hid (∀ y : World, Calls Tryz.prog 25 #[.slice (some ⟨y.heap.size, 0, none⟩) 5 5, .string s] (y.alloc (.cells #[.string ⟨#[102]⟩, .string ⟨#[70]⟩, .string ⟨#[102, 97, 108, 115, 101]⟩, .string ⟨#[70, 97, 108, 115, 101]⟩, .string ⟨#[70, 65, 76, 83, 69]⟩] 9)) fun e w' => e = .returned (.bool true) ∧ w' = y.alloc (.cells #[.string ⟨#[102]⟩, .string ⟨#[70]⟩, .string ⟨#[102, 97, 108, 115, 101]⟩, .string ⟨#[70, 97, 108, 115, 101]⟩, .string ⟨#[70, 65, 76, 83, 69]⟩] 9)) := Lib.hid (in_f s true (fun _ => h) (fun h => by cases h))
  clear h h0
  obtain ⟨W, hW⟩ : ∃ W, W = w.alloc (.cells #[.int .i64 0, .int .u64 0, .string ⟨#[]⟩] 25) := ⟨_, rfl⟩
  have Z := Lib.hid (show Zc w w.heap.size W by rw [hW]; exact zc_new w)
  obtain ⟨r, hr0⟩ : ∃ r, r = w.heap.size := ⟨_, rfl⟩
  have hbw := hr0
  rw [← hr0] at Z
  clear hbw
  go_enter Tryz.func10, Tryz.ntmps10
  go_upto_region 1 with (fail)
  rw [← hW, ← hr0]
  clear hW hr0
  go_upto_region 3 with (go_at_call 25; refine (IN1.out _).mono ?_; clear IN1; rintro e w2 ⟨rfl, h2⟩; rw [h2]; clear h2 w2)
  have Z := Lib.hid (Z.out.step ((Below.refl _ W).alloc (Nat.le_refl _) (.cells #[.string ⟨#[116]⟩, .string ⟨#[84]⟩, .string ⟨#[116, 114, 117, 101]⟩, .string ⟨#[84, 114, 117, 101]⟩, .string ⟨#[84, 82, 85, 69]⟩] 9)))
  obtain ⟨W2, hW2⟩ : ∃ W2, W2 = W.alloc (.cells #[.string ⟨#[116]⟩, .string ⟨#[84]⟩, .string ⟨#[116, 114, 117, 101]⟩, .string ⟨#[84, 114, 117, 101]⟩, .string ⟨#[84, 82, 85, 69]⟩] 9) := ⟨_, rfl⟩
  rw [← hW2] at Z ⊢
  clear hW2
  go_upto_region 4 with (go_at_call 25; refine (IN2.out _).mono ?_; clear IN2; rintro e w2 ⟨rfl, h2⟩; rw [h2]; clear h2 w2)
  have Z := Lib.hid (Z.out.step ((Below.refl _ W2).alloc (Nat.le_refl _) (.cells #[.string ⟨#[102]⟩, .string ⟨#[70]⟩, .string ⟨#[102, 97, 108, 115, 101]⟩, .string ⟨#[70, 97, 108, 115, 101]⟩, .string ⟨#[70, 65, 76, 83, 69]⟩] 9)))
  obtain ⟨q0, q1, q2, q3, q4, q5⟩ := Z.out.cells
  have Q := Lib.hid (Z.out.fin (.int .i64 3) (.int .u64 0) (.string ⟨#[]⟩))
  go_wp2_with fail
  obtain ⟨m0, m1, m2, bb⟩ := Q.out
  refine bodyPost_ret (v := .tuple #[.agg #[.int .i64 3, .int .u64 0, .string ⟨#[]⟩], .int .i64 0]) (by simp [results, Tryz.results10, go_sem, m0, m1, m2] <;> rfl) rfl ⟨rfl, bb⟩
end Vm
end Go.Proofs.YtbnicnhkakbglaaGreatDoor
