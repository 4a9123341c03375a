import Derived.Test.YtbnicnhkakbglaaGreatDoorG36
import Derived.Test.YtbnicnhkakbglaaGreatDoorG33

/- Quoted values: both sides. -/
namespace Go.Proofs.YtbnicnhkakbglaaGreatDoor
open Go.RowKit
namespace Vm
open Jb Sa Sb Sc Sd Se Sf Sg Sh Si Sj Uq Vd

/-- What a quoted text is read as. -/
def qres (o : Option (List UInt8)) : Int × ByteArray × Int := match o with
  | none => (0, ⟨#[]⟩, 2)
  | some t => if 65536 < t.length then (0, ⟨#[]⟩, 4) else (4, ba t, 0)
set_option maxRecDepth 100000 in
set_option maxHeartbeats 1000000 in
theorem parseString (w : World) (s : ByteArray) (hs : s.size ≤ 140737488355328)  :
    Calls Tryz.prog 31 #[.string s] w fun e w' => e = .returned (.tuple #[.agg #[.int .i64 (qres (qans s)).1, .int .u64 0, .string (qres (qans s)).2.1], .int .i64 (qres (qans s)).2.2]) ∧ Below w.heap.size w w' := by
  have UQ := Lib.hid (fun (y : World) => unquote y s hs)
  obtain ⟨o, ho⟩ : ∃ o, o = qans s := ⟨_, rfl⟩
  rw [← ho] at UQ ⊢
  clear ho hs
  cases o with
  | none =>
    have UQ : Hid (∀ y : World, Calls Tryz.prog 63 #[.string s] y fun e w' => e = .returned (.tuple #[.string ⟨#[]⟩, .bool false]) ∧ Below y.heap.size y w') := UQ
    rw [show qres none = (0, ⟨#[]⟩, 2) from rfl]
    dsimp only
    obtain ⟨W, hW⟩ : ∃ W, W = w.alloc (.cells #[.int .i64 0, .int .u64 0, .string ⟨#[]⟩] 25) := ⟨_, rfl⟩
    have Z := Lib.hid (show Zc w w.heap.size W by rw [hW]; exact zc_new w)
    obtain ⟨r, hr0⟩ : ∃ r, r = w.heap.size := ⟨_, rfl⟩
    have hbw := hr0
    rw [← hr0] at Z
    clear hbw
    go_enter Tryz.func31, Tryz.ntmps31
    go_upto_region 1 with (fail)
    rw [← hW, ← hr0]
    clear hW hr0
    go_upto_region 2 with (go_at_call 63; refine (UQ.out _).mono ?_; clear UQ; rintro e w4 ⟨rfl, b4⟩; have B4 := Lib.hid b4; clear b4)
    have Z := Lib.hid (Z.out.step B4.out)
    obtain ⟨q0, q1, q2, q3, q4, q5⟩ := Z.out.cells
    have Q := Lib.hid (Z.out.fin (.int .i64 0) (.int .u64 0) (.string ⟨#[]⟩))
    go_wp2_with fail
    obtain ⟨m0, m1, m2, bb⟩ := Q.out
    refine bodyPost_ret (v := .tuple #[.agg #[.int .i64 0, .int .u64 0, .string ⟨#[]⟩], .int .i64 2]) (by simp [results, Tryz.results31, go_sem, m0, m1, m2] <;> rfl) rfl ⟨rfl, bb⟩
  | some t =>
    have UQ : Hid (∀ y : World, Calls Tryz.prog 63 #[.string s] y fun e w' => e = .returned (.tuple #[.string (ba t), .bool true]) ∧ Below y.heap.size y w') := UQ
    obtain ⟨X, hX⟩ : ∃ X, X = ba t := ⟨_, rfl⟩
    obtain ⟨m, hm⟩ : ∃ m, m = t.length := ⟨_, rfl⟩
    have hlen2 : ∀ (ty : TypeId) (y : World), (Builtin.len_ #[9] ty #[.string X]).run Tryz.prog y = .ok (.int .i64 (m : Nat)) y := fun ty y => by rw [hm, ← ba_size, ← hX]; exact run_len_string y 9 ty X Tryz.underlying9
    rw [← hX] at UQ
    by_cases hl : 65536 < m
    · have e : qres (some t) = (0, ⟨#[]⟩, 4) := by show (if _ then _ else _) = _; rw [if_pos (by omega)]
      rw [e]
      dsimp only
      have g9 : (m : Int) > 65536 := by omega
      clear e hX hm hl
      obtain ⟨W, hW⟩ : ∃ W, W = w.alloc (.cells #[.int .i64 0, .int .u64 0, .string ⟨#[]⟩] 25) := ⟨_, rfl⟩
      have Z := Lib.hid (show Zc w w.heap.size W by rw [hW]; exact zc_new w)
      obtain ⟨r, hr0⟩ : ∃ r, r = w.heap.size := ⟨_, rfl⟩
      have hbw := hr0
      rw [← hr0] at Z
      clear hbw
      go_enter Tryz.func31, Tryz.ntmps31
      go_upto_region 1 with (fail)
      rw [← hW, ← hr0]
      clear hW hr0
      go_upto_region 2 with (go_at_call 63; refine (UQ.out _).mono ?_; clear UQ; rintro e w4 ⟨rfl, b4⟩; have B4 := Lib.hid b4; clear b4)
      have Z := Lib.hid (Z.out.step B4.out)
      obtain ⟨q0, q1, q2, q3, q4, q5⟩ := Z.out.cells
      have Q := Lib.hid (Z.out.fin (.int .i64 0) (.int .u64 0) (.string ⟨#[]⟩))
      go_wp2_with fail
      obtain ⟨m0, m1, m2, bb⟩ := Q.out
      refine bodyPost_ret (v := .tuple #[.agg #[.int .i64 0, .int .u64 0, .string ⟨#[]⟩], .int .i64 4]) (by simp [results, Tryz.results31, go_sem, m0, m1, m2] <;> rfl) rfl ⟨rfl, bb⟩
    · have e : qres (some t) = (4, X, 0) := by show (if _ then _ else _) = _; rw [if_neg (by omega), hX]
      rw [e]
      dsimp only
      have g9 : ¬ (m : Int) > 65536 := by omega
      clear e hX hm hl
      obtain ⟨W, hW⟩ : ∃ W, W = w.alloc (.cells #[.int .i64 0, .int .u64 0, .string ⟨#[]⟩] 25) := ⟨_, rfl⟩
      have Z := Lib.hid (show Zc w w.heap.size W by rw [hW]; exact zc_new w)
      obtain ⟨r, hr0⟩ : ∃ r, r = w.heap.size := ⟨_, rfl⟩
      have hbw := hr0
      rw [← hr0] at Z
      clear hbw
      go_enter Tryz.func31, Tryz.ntmps31
      go_upto_region 1 with (fail)
      rw [← hW, ← hr0]
      clear hW hr0
      go_upto_region 2 with (go_at_call 63; refine (UQ.out _).mono ?_; clear UQ; rintro e w4 ⟨rfl, b4⟩; have B4 := Lib.hid b4; clear b4)
      have Z := Lib.hid (Z.out.step B4.out)
      obtain ⟨q0, q1, q2, q3, q4, q5⟩ := Z.out.cells
      have Q := Lib.hid (Z.out.fin (.int .i64 4) (.int .u64 0) (.string X))
      go_wp2_with fail
      obtain ⟨m0, m1, m2, bb⟩ := Q.out
      refine bodyPost_ret (v := .tuple #[.agg #[.int .i64 4, .int .u64 0, .string X], .int .i64 0]) (by simp [results, Tryz.results31, go_sem, m0, m1, m2] <;> rfl) rfl ⟨rfl, bb⟩
set_option maxRecDepth 100000 in
set_option maxHeartbeats 1000000 in
theorem rquote (w : World) (s : ByteArray) (hs : s.size ≤ 140737488355328) (h0 : 0 < s.size) (h34 : by8 s 0 = 34) (hw : ∀ k, k < 10 → word k ≠ s) :
    Calls Tryz.prog 10 #[.string s] w fun e w' => e = .returned (.tuple #[.agg #[.int .i64 (qres (qans s)).1, .int .u64 0, .string (qres (qans s)).2.1], .int .i64 (qres (qans s)).2.2]) ∧ Below w.heap.size w w' := by
  have UQ := Lib.hid (fun (y : World) => unquoted y s hs)
  have IN1 : Hid (∀ y : World, Calls Tryz.prog 25 #[.slice (some ⟨y.heap.size, 0, none⟩) 5 5, .string s] (y.alloc (.cells #[.string ⟨#[116]⟩, .string ⟨#[84]⟩, .string ⟨#[116, 114, 117, 101]⟩, .string ⟨#[84, 114, 117, 101]⟩, .string ⟨#[84, 82, 85, 69]⟩] 9)) fun e w' => e = .returned (.bool false) ∧ w' = y.alloc (.cells #[.string ⟨#[116]⟩, .string ⟨#[84]⟩, .string ⟨#[116, 114, 117, 101]⟩, .string ⟨#[84, 114, 117, 101]⟩, .string ⟨#[84, 82, 85, 69]⟩] 9)) := Lib.hid (in_t s false (fun h => by cases h) (fun _ k hk => hw k (by omega)))
  have IN2 : Hid (∀ y : World, Calls Tryz.prog 25 #[.slice (some ⟨y.heap.size, 0, none⟩) 5 5, .string s] (y.alloc (.cells #[.string ⟨#[102]⟩, .string ⟨#[70]⟩, .string ⟨#[102, 97, 108, 115, 101]⟩, .string ⟨#[70, 97, 108, 115, 101]⟩, .string ⟨#[70, 65, 76, 83, 69]⟩] 9)) fun e w' => e = .returned (.bool false) ∧ w' = y.alloc (.cells #[.string ⟨#[102]⟩, .string ⟨#[70]⟩, .string ⟨#[102, 97, 108, 115, 101]⟩, .string ⟨#[70, 97, 108, 115, 101]⟩, .string ⟨#[70, 65, 76, 83, 69]⟩] 9)) := Lib.hid (in_f s false (fun h => by cases h) (fun _ k hk => hw (5 + k) (by omega)))
  clear hw
  obtain ⟨n, hn⟩ : ∃ n, n = s.size := ⟨_, rfl⟩
  have hlen : ∀ (ty : TypeId) (y : World), (Builtin.len_ #[9] ty #[.string s]).run Tryz.prog y = .ok (.int .i64 (n : Nat)) y := fun ty y => by rw [hn]; exact run_len_string y 9 ty s Tryz.underlying9
  have hi0 := by8_get s 0 h0
  rw [h34] at hi0
  have hn0 : 0 < n := by omega
  clear hn h34
  obtain ⟨o, ho⟩ : ∃ o, o = qans s := ⟨_, rfl⟩
  rw [← ho] at UQ ⊢
  clear ho hs
  cases o with
  | none =>
    have UQ : Hid (∀ y : World, Calls Tryz.prog 26 #[.string s] y fun e w' => e = .returned (.tuple #[.string ⟨#[]⟩, .bool false]) ∧ Below y.heap.size y w') := UQ
    rw [show qres none = (0, ⟨#[]⟩, 2) from rfl]
    dsimp only
    obtain ⟨W, hW⟩ : ∃ W, W = w.alloc (.cells #[.int .i64 0, .int .u64 0, .string ⟨#[]⟩] 25) := ⟨_, rfl⟩
    have Z := Lib.hid (show Zc w w.heap.size W by rw [hW]; exact zc_new w)
    obtain ⟨r, hr0⟩ : ∃ r, r = w.heap.size := ⟨_, rfl⟩
    have hbw := hr0
    rw [← hr0] at Z
    clear hbw
    go_enter Tryz.func10, Tryz.ntmps10
    go_upto_region 1 with (fail)
    rw [← hW, ← hr0]
    clear hW hr0
    go_upto_region 3 with (go_at_call 25; refine (IN1.out _).mono ?_; clear IN1; rintro e w2 ⟨rfl, h2⟩; rw [h2]; clear h2 w2)
    have Z := Lib.hid (Z.out.step ((Below.refl _ W).alloc (Nat.le_refl _) (.cells #[.string ⟨#[116]⟩, .string ⟨#[84]⟩, .string ⟨#[116, 114, 117, 101]⟩, .string ⟨#[84, 114, 117, 101]⟩, .string ⟨#[84, 82, 85, 69]⟩] 9)))
    obtain ⟨W2, hW2⟩ : ∃ W2, W2 = W.alloc (.cells #[.string ⟨#[116]⟩, .string ⟨#[84]⟩, .string ⟨#[116, 114, 117, 101]⟩, .string ⟨#[84, 114, 117, 101]⟩, .string ⟨#[84, 82, 85, 69]⟩] 9) := ⟨_, rfl⟩
    rw [← hW2] at Z ⊢
    clear hW2
    go_upto_region 5 with (go_at_call 25; refine (IN2.out _).mono ?_; clear IN2; rintro e w2 ⟨rfl, h2⟩; rw [h2]; clear h2 w2)
    have Z := Lib.hid (Z.out.step ((Below.refl _ W2).alloc (Nat.le_refl _) (.cells #[.string ⟨#[102]⟩, .string ⟨#[70]⟩, .string ⟨#[102, 97, 108, 115, 101]⟩, .string ⟨#[70, 97, 108, 115, 101]⟩, .string ⟨#[70, 65, 76, 83, 69]⟩] 9)))
    obtain ⟨W3, hW3⟩ : ∃ W3, W3 = W2.alloc (.cells #[.string ⟨#[102]⟩, .string ⟨#[70]⟩, .string ⟨#[102, 97, 108, 115, 101]⟩, .string ⟨#[70, 97, 108, 115, 101]⟩, .string ⟨#[70, 65, 76, 83, 69]⟩] 9) := ⟨_, rfl⟩
    rw [← hW3] at Z ⊢
    clear hW3
    go_upto_region 7 with (go_at_call 26; refine (UQ.out _).mono ?_; clear UQ; rintro e w4 ⟨rfl, b4⟩; have B4 := Lib.hid b4; clear b4)
    have Z := Lib.hid (Z.out.step B4.out)
    obtain ⟨q0, q1, q2, q3, q4, q5⟩ := Z.out.cells
    have Q := Lib.hid (Z.out.fin (.int .i64 0) (.int .u64 0) (.string ⟨#[]⟩))
    go_wp2_with fail
    obtain ⟨m0, m1, m2, bb⟩ := Q.out
    refine bodyPost_ret (v := .tuple #[.agg #[.int .i64 0, .int .u64 0, .string ⟨#[]⟩], .int .i64 2]) (by simp [results, Tryz.results10, go_sem, m0, m1, m2] <;> rfl) rfl ⟨rfl, bb⟩
  | some t =>
    have UQ : Hid (∀ y : World, Calls Tryz.prog 26 #[.string s] y fun e w' => e = .returned (.tuple #[.string (ba t), .bool true]) ∧ Below y.heap.size y w') := UQ
    obtain ⟨X, hX⟩ : ∃ X, X = ba t := ⟨_, rfl⟩
    obtain ⟨m, hm⟩ : ∃ m, m = t.length := ⟨_, rfl⟩
    have hlen2 : ∀ (ty : TypeId) (y : World), (Builtin.len_ #[9] ty #[.string X]).run Tryz.prog y = .ok (.int .i64 (m : Nat)) y := fun ty y => by rw [hm, ← ba_size, ← hX]; exact run_len_string y 9 ty X Tryz.underlying9
    rw [← hX] at UQ
    by_cases hl : 65536 < m
    · have e : qres (some t) = (0, ⟨#[]⟩, 4) := by show (if _ then _ else _) = _; rw [if_pos (by omega)]
      rw [e]
      dsimp only
      have g9 : (m : Int) > 65536 := by omega
      clear e hX hm hl
      obtain ⟨W, hW⟩ : ∃ W, W = w.alloc (.cells #[.int .i64 0, .int .u64 0, .string ⟨#[]⟩] 25) := ⟨_, rfl⟩
      have Z := Lib.hid (show Zc w w.heap.size W by rw [hW]; exact zc_new w)
      obtain ⟨r, hr0⟩ : ∃ r, r = w.heap.size := ⟨_, rfl⟩
      have hbw := hr0
      rw [← hr0] at Z
      clear hbw
      go_enter Tryz.func10, Tryz.ntmps10
      go_upto_region 1 with (fail)
      rw [← hW, ← hr0]
      clear hW hr0
      go_upto_region 3 with (go_at_call 25; refine (IN1.out _).mono ?_; clear IN1; rintro e w2 ⟨rfl, h2⟩; rw [h2]; clear h2 w2)
      have Z := Lib.hid (Z.out.step ((Below.refl _ W).alloc (Nat.le_refl _) (.cells #[.string ⟨#[116]⟩, .string ⟨#[84]⟩, .string ⟨#[116, 114, 117, 101]⟩, .string ⟨#[84, 114, 117, 101]⟩, .string ⟨#[84, 82, 85, 69]⟩] 9)))
      obtain ⟨W2, hW2⟩ : ∃ W2, W2 = W.alloc (.cells #[.string ⟨#[116]⟩, .string ⟨#[84]⟩, .string ⟨#[116, 114, 117, 101]⟩, .string ⟨#[84, 114, 117, 101]⟩, .string ⟨#[84, 82, 85, 69]⟩] 9) := ⟨_, rfl⟩
      rw [← hW2] at Z ⊢
      clear hW2
      go_upto_region 5 with (go_at_call 25; refine (IN2.out _).mono ?_; clear IN2; rintro e w2 ⟨rfl, h2⟩; rw [h2]; clear h2 w2)
      have Z := Lib.hid (Z.out.step ((Below.refl _ W2).alloc (Nat.le_refl _) (.cells #[.string ⟨#[102]⟩, .string ⟨#[70]⟩, .string ⟨#[102, 97, 108, 115, 101]⟩, .string ⟨#[70, 97, 108, 115, 101]⟩, .string ⟨#[70, 65, 76, 83, 69]⟩] 9)))
      obtain ⟨W3, hW3⟩ : ∃ W3, W3 = W2.alloc (.cells #[.string ⟨#[102]⟩, .string ⟨#[70]⟩, .string ⟨#[102, 97, 108, 115, 101]⟩, .string ⟨#[70, 97, 108, 115, 101]⟩, .string ⟨#[70, 65, 76, 83, 69]⟩] 9) := ⟨_, rfl⟩
      rw [← hW3] at Z ⊢
      clear hW3
      go_upto_region 7 with (go_at_call 26; refine (UQ.out _).mono ?_; clear UQ; rintro e w4 ⟨rfl, b4⟩; have B4 := Lib.hid b4; clear b4)
      have Z := Lib.hid (Z.out.step B4.out)
      obtain ⟨q0, q1, q2, q3, q4, q5⟩ := Z.out.cells
      have Q := Lib.hid (Z.out.fin (.int .i64 0) (.int .u64 0) (.string ⟨#[]⟩))
      go_wp2_with fail
      obtain ⟨m0, m1, m2, bb⟩ := Q.out
      refine bodyPost_ret (v := .tuple #[.agg #[.int .i64 0, .int .u64 0, .string ⟨#[]⟩], .int .i64 4]) (by simp [results, Tryz.results10, go_sem, m0, m1, m2] <;> rfl) rfl ⟨rfl, bb⟩
    · have e : qres (some t) = (4, X, 0) := by show (if _ then _ else _) = _; rw [if_neg (by omega), hX]
      rw [e]
      dsimp only
      have g9 : ¬ (m : Int) > 65536 := by omega
      clear e hX hm hl
      obtain ⟨W, hW⟩ : ∃ W, W = w.alloc (.cells #[.int .i64 0, .int .u64 0, .string ⟨#[]⟩] 25) := ⟨_, rfl⟩
      have Z := Lib.hid (show Zc w w.heap.size W by rw [hW]; exact zc_new w)
      obtain ⟨r, hr0⟩ : ∃ r, r = w.heap.size := ⟨_, rfl⟩
      have hbw := hr0
      rw [← hr0] at Z
      clear hbw
      go_enter Tryz.func10, Tryz.ntmps10
      go_upto_region 1 with (fail)
      rw [← hW, ← hr0]
      clear hW hr0
      go_upto_region 3 with (go_at_call 25; refine (IN1.out _).mono ?_; clear IN1; rintro e w2 ⟨rfl, h2⟩; rw [h2]; clear h2 w2)
      have Z := Lib.hid (Z.out.step ((Below.refl _ W).alloc (Nat.le_refl _) (.cells #[.string ⟨#[116]⟩, .string ⟨#[84]⟩, .string ⟨#[116, 114, 117, 101]⟩, .string ⟨#[84, 114, 117, 101]⟩, .string ⟨#[84, 82, 85, 69]⟩] 9)))
      obtain ⟨W2, hW2⟩ : ∃ W2, W2 = W.alloc (.cells #[.string ⟨#[116]⟩, .string ⟨#[84]⟩, .string ⟨#[116, 114, 117, 101]⟩, .string ⟨#[84, 114, 117, 101]⟩, .string ⟨#[84, 82, 85, 69]⟩] 9) := ⟨_, rfl⟩
      rw [← hW2] at Z ⊢
      clear hW2
      go_upto_region 5 with (go_at_call 25; refine (IN2.out _).mono ?_; clear IN2; rintro e w2 ⟨rfl, h2⟩; rw [h2]; clear h2 w2)
      have Z := Lib.hid (Z.out.step ((Below.refl _ W2).alloc (Nat.le_refl _) (.cells #[.string ⟨#[102]⟩, .string ⟨#[70]⟩, .string ⟨#[102, 97, 108, 115, 101]⟩, .string ⟨#[70, 97, 108, 115, 101]⟩, .string ⟨#[70, 65, 76, 83, 69]⟩] 9)))
      obtain ⟨W3, hW3⟩ : ∃ W3, W3 = W2.alloc (.cells #[.string ⟨#[102]⟩, .string ⟨#[70]⟩, .string ⟨#[102, 97, 108, 115, 101]⟩, .string ⟨#[70, 97, 108, 115, 101]⟩, .string ⟨#[70, 65, 76, 83, 69]⟩] 9) := ⟨_, rfl⟩
      rw [← hW3] at Z ⊢
      clear hW3
      go_upto_region 7 with (go_at_call 26; refine (UQ.out _).mono ?_; clear UQ; rintro e w4 ⟨rfl, b4⟩; have B4 := Lib.hid b4; clear b4)
      have Z := Lib.hid (Z.out.step B4.out)
      obtain ⟨q0, q1, q2, q3, q4, q5⟩ := Z.out.cells
      have Q := Lib.hid (Z.out.fin (.int .i64 4) (.int .u64 0) (.string X))
      go_wp2_with fail
      obtain ⟨m0, m1, m2, bb⟩ := Q.out
      refine bodyPost_ret (v := .tuple #[.agg #[.int .i64 4, .int .u64 0, .string X], .int .i64 0]) (by simp [results, Tryz.results10, go_sem, m0, m1, m2] <;> rfl) rfl ⟨rfl, bb⟩
end Vm
end Go.Proofs.YtbnicnhkakbglaaGreatDoor
