import Derived.Test.YtbnicnhkakbglaaGreatDoorG32

/- Strings in quotes: the program's reading. -/
namespace Go.Proofs.YtbnicnhkakbglaaGreatDoor
open Go.RowKit
namespace Vm
open Jb Sa Sb Sc Sd Se Sf Sg Sh Si Sj Uq Vd

set_option maxRecDepth 100000 in
set_option maxHeartbeats 2000000 in
theorem unquote (w : World) (s : ByteArray) (hs : s.size ≤ 140737488355328) :
    Calls Tryz.prog 63 #[.string s] w fun e w' => e = .returned (.tuple #[.string (qv (qans s)).1, .bool (qv (qans s)).2]) ∧ Below w.heap.size w w' := by
  have HQ0 := Lib.hid (fun (y : World) (k : Nat) (hk : k < (inner s).size) => idx y (inner s) k hk)
  have hsz := inner_size s
  obtain ⟨A1, hA1⟩ : ∃ A, A = (qv (qans s)).1 := ⟨_, rfl⟩
  obtain ⟨A2, hA2⟩ : ∃ A, A = (qv (qans s)).2 := ⟨_, rfl⟩
  rw [← hA1, ← hA2]
  have NOQ := Lib.hid (fun (h : qd s = false) => (show A1 = ⟨#[]⟩ ∧ A2 = false by rw [hA1, hA2]; unfold qans; rw [h]; exact ⟨rfl, rfl⟩))
  have NO0 := Lib.hid (fun (hq : qd s = true) (h : unq (bl (inner s)) = none) => (show A1 = ⟨#[]⟩ ∧ A2 = false by rw [hA1, hA2]; unfold qans; rw [if_pos hq, h]; exact ⟨rfl, rfl⟩))
  have YES0 := Lib.hid (fun (hq : qd s = true) (l : List UInt8) (h : unq (bl (inner s)) = some l) => (show A1 = ba l ∧ A2 = true by rw [hA1, hA2]; unfold qans; rw [if_pos hq, h]; exact ⟨rfl, rfl⟩))
  clear hA1 hA2
  obtain ⟨n, hn⟩ : ∃ n, n = s.size := ⟨_, rfl⟩
  have hlen : ∀ (ty : TypeId) (y : World), (Builtin.len_ #[9] ty #[.string s]).run Tryz.prog y = .ok (.int .i64 (n : Nat)) y := fun ty y => by rw [hn]; exact run_len_string y 9 ty s Tryz.underlying9
  by_cases h2 : s.size < 2
  · obtain ⟨rfl, rfl⟩ := NOQ.out (decide_eq_false (fun k => by have := k.1; omega))
    have g0 : (n : Int) < 2 := by omega
    clear HQ0 hsz NOQ NO0 YES0 h2 hn hs
    go_enter Tryz.func63, Tryz.ntmps63
    go_wp2_with fail
    go_ret2
    exact ⟨rfl, Below.refl _ _⟩
  have g0 : ¬ (n : Int) < 2 := by omega
  have hnb : n ≤ 140737488355328 := by omega
  have hnb2 : 2 ≤ n := by omega
  have hz0 : 0 < s.size := by omega
  have hi0 := by8_get s 0 hz0
  have hil : ∀ y : World, (Instr.index 9 (.string s) (.int .i64 ((n : Int) - 1))).run Tryz.prog y = .ok (.int .u8 (by8 s (n - 1) : Nat)) y := fun y => by
    have h := idx y s (n - 1) (by omega)
    rw [show (((n - 1 : Nat)) : Int) = (n : Int) - 1 from by omega] at h
    exact h
  have hsl := inner_run s (by omega)
  rw [← hn] at hsl
  by_cases h3 : by8 s 0 = 34
  case neg =>
    obtain ⟨rfl, rfl⟩ := NOQ.out (decide_eq_false (fun k => h3 k.2.1))
    obtain ⟨b, hb⟩ : ∃ b, b = by8 s 0 := ⟨_, rfl⟩
    rw [← hb] at hi0 h3
    have g1 : ((b : Int) == 34) = false := by simp; omega
    clear HQ0 hsz NOQ NO0 YES0 h2 hn hs hb hil hsl
    go_enter Tryz.func63, Tryz.ntmps63
    go_wp2_with fail
    go_ret2
    exact ⟨rfl, Below.refl _ _⟩
  by_cases h4 : by8 s (n - 1) = 34
  case neg =>
    obtain ⟨rfl, rfl⟩ := NOQ.out (decide_eq_false (fun k => h4 (by rw [hn]; exact k.2.2)))
    rw [h3] at hi0
    obtain ⟨b, hb⟩ : ∃ b, b = by8 s (n - 1) := ⟨_, rfl⟩
    rw [← hb] at hil h4
    have g1 : ((b : Int) == 34) = false := by simp; omega
    clear HQ0 hsz NOQ NO0 YES0 h2 hn hs hb h3 hsl
    go_enter Tryz.func63, Tryz.ntmps63
    go_wp2_with fail
    go_ret2
    exact ⟨rfl, Below.refl _ _⟩
  have hqd : qd s = true := decide_eq_true ⟨by omega, h3, by rw [← hn]; exact h4⟩
  have NO := Lib.hid (NO0.out hqd)
  have YES := Lib.hid (YES0.out hqd)
  rw [h3] at hi0
  rw [h4] at hil
  obtain ⟨I, hI⟩ : ∃ I, I = inner s := ⟨_, rfl⟩
  rw [← hI] at HQ0 hsz NO YES hsl
  obtain ⟨m, hm⟩ : ∃ m, m = I.size := ⟨_, rfl⟩
  have hlen2 : ∀ (ty : TypeId) (y : World), (Builtin.len_ #[9] ty #[.string I]).run Tryz.prog y = .ok (.int .i64 (m : Nat)) y := fun ty y => by rw [hm]; exact run_len_string y 9 ty I Tryz.underlying9
  have HG := Lib.hid (show ∀ k, k < (bl I).length → ∃ c, (bl I).drop k = c :: (bl I).drop (k + 1) ∧ c.toNat = by8 I k from fun k hk => by obtain ⟨c, e1, e2, _⟩ := drop_cons I k (by rw [← bl_len]; exact hk); exact ⟨c, e1, e2⟩)
  have hml : (bl I).length = m := by rw [bl_len, hm]
  have hms : m ≤ 140737488355328 := by omega
  rw [← hm] at HQ0
  obtain ⟨l, hl⟩ : ∃ l, l = bl I := ⟨_, rfl⟩
  rw [← hl] at NO YES HG hml
  have HL := Lib.hid hml
  have HMS := Lib.hid hms
  have HQ := HQ0
  clear NOQ NO0 YES0 h2 h3 h4 hqd hI hm hl hml hsz hs hn HQ0
  obtain ⟨b, hb⟩ : ∃ b, b = w.heap.size := ⟨_, rfl⟩
  obtain ⟨w1, hw1⟩ : ∃ w1, w1 = w.alloc (.cells #[.pointer none, .slice none 0 0] 121) := ⟨_, rfl⟩
  have D0 := Lib.hid (show Bd w1 b b [] by rw [hw1, hb]; exact bd_new w)
  have N1 := Lib.hid (show Below b w w1 by rw [hw1, hb]; exact (Below.refl _ w).alloc (Nat.le_refl _) _)
  have HBB := Lib.hid hb
  rw [← hb]
  go_enter Tryz.func63, Tryz.ntmps63
  go_upto_region 5 with (fail)
  rw [← hw1, ← hb]
  clear hw1 hb hi0 hil hsl hlen g0 hz0
  go_wp2_with fail
  go_loopw [6] (fun i wr => ∃ (k : Nat) (acc : List UInt8), i = .int .i64 (k : Nat) ∧ Hid (At l k acc) ∧ Hid (Bd wr b b acc) ∧ Hid (Below b w wr)) (fun i _ => m - (intOf i).toNat)
  case atStart => exact ⟨0, [], rfl, Lib.hid (at_zero l), D0, N1⟩
  case round =>
    obtain ⟨k, acc, rfl, HA, HD, BW⟩ := hrel
    have hk := HA.out.2.2
    rw [HL.out] at hk
    have HBr := Lib.hid (Nat.le_of_lt (bd_lt HD.out))
    have HBb := Lib.hid (show b ≤ b from Nat.le_refl _)
    have hk0 : (0 : Int) ≤ (k : Int) := by omega
    by_cases hkn : k < m
    case neg =>
      obtain rfl : k = m := by omega
      obtain ⟨e1, e2⟩ := YES.out acc (at_end HA.out (by rw [HL.out]; exact Nat.le_refl _))
      have ST := Lib.hid (bd_string HD.out HBr.out)
      rw [← e1] at ST
      subst e2
      clear hkn e1
      go_wp2_with (go_at_call 80; refine ST.out.mono ?_; clear ST; rintro e w4 ⟨rfl, _, b4⟩; have B4 := Lib.hid b4; clear b4)
      go_ret2
      exact ⟨rfl, BW.out.trans B4.out⟩
    have hkl : k < l.length := by rw [HL.out]; exact hkn
    have HKL := Lib.hid hkl
    have hi := fun (y : World) => HQ.out y k hkn
    obtain ⟨c, hc, hc2⟩ := HG.out k hkl
    obtain ⟨q, hq⟩ : ∃ q, q = by8 I k := ⟨_, rfl⟩
    rw [← hq] at hi hc2
    have HC := Lib.hid hc2
    have HCL := Lib.hid hc
    have LA := Lib.hid (show acc.length + 1 ≤ 140737488355328 by have := HA.out.2.1; have := HMS.out; omega)
    clear hq hc hc2 hkl
    by_cases h1 : q = 34
    · have g1 : ((q : Int) == 34) = true := by simp; omega
      obtain ⟨e1, e2⟩ := NO.out (atx_bad HA.out HCL.out (.inl (HC.out.trans h1)))
      subst e1 e2
      go_wp2_with fail
      go_ret2
      exact ⟨rfl, BW.out⟩
    have g1 : ((q : Int) == 34) = false := by simp; omega
    by_cases h2 : q = 10
    · have g2 : ((q : Int) == 10) = true := by simp; omega
      obtain ⟨e1, e2⟩ := NO.out (atx_bad HA.out HCL.out (.inr (HC.out.trans h2)))
      subst e1 e2
      go_wp2_with fail
      go_ret2
      exact ⟨rfl, BW.out⟩
    have g2 : ((q : Int) == 10) = false := by simp; omega
    by_cases h3 : q = 92
    case neg =>
      have g3 : ((q : Int) == 92) = false := by simp; omega
      have PN := Lib.hid (show At l (k + 1) (acc ++ [c]) by
        exact atx_plain HA.out HKL.out HCL.out (fun e => h1 (HC.out.symm.trans e)) (fun e => h2 (HC.out.symm.trans e)) (fun e => h3 (HC.out.symm.trans e)))
      clear h1 h2 h3
      have W1 := Lib.hid (show Calls Tryz.prog 79 #[.pointer (some ⟨b, 0, none⟩), .int .u8 ((q : Nat))] wr _ from HC.out ▸ bd_write HD.out c LA.out HBr.out)
      go_wp2_with (first | (go_at_call 79; refine W1.out.mono ?_; clear W1; rintro e w2 ⟨rfl, d1, b1, _⟩; have D1 := Lib.hid d1; have B1 := Lib.hid b1; clear d1 b1))
      go_roundw
      case rel => exact ⟨k + 1, acc ++ [c], by go_num, PN, D1, Lib.hid (BW.out.trans (B1.out.mono HBb.out))⟩
      case measure => simp [intOf]; omega
    have g3 : ((q : Int) == 92) = true := by simp; omega
    by_cases hk1 : k + 1 = m
    · have e := atx_last HA.out HCL.out (HC.out.trans h3) (by rw [HL.out]; exact hk1.symm)
      have g4 : ((k : Int) + 1 == (m : Int)) = true := by simp; omega
      obtain ⟨e1, e2⟩ := NO.out e
      subst e1 e2
      clear e hk1 h3
      go_wp2_with fail
      go_ret2
      exact ⟨rfl, BW.out⟩
    have hkn1 : k + 1 < m := by omega
    have g4 : ((k : Int) + 1 == (m : Int)) = false := by simp; omega
    have hkl1 : k + 1 < l.length := by rw [HL.out]; exact hkn1
    have HKL1 := Lib.hid hkl1
    have hi1 := fun (y : World) => HQ.out y (k + 1) hkn1
    obtain ⟨d, hd, hd2⟩ := HG.out (k + 1) hkl1
    obtain ⟨p1, hp1⟩ : ∃ p, p = by8 I (k + 1) := ⟨_, rfl⟩
    rw [← hp1] at hi1 hd2
    have hi2 : ∀ (y : World), (Instr.index 9 (.string I) (.int .i64 ((k : Int) + 1))).run Tryz.prog y = .ok (.int .u8 (p1 : Nat)) y := hi1
    have HD2 := Lib.hid hd2
    have HDL := Lib.hid hd
    have H3 := Lib.hid (show c.toNat = 92 from HC.out.trans h3)
    have ES := Lib.hid (fun (y : World) => escaped p1 y)
    clear hp1 hd hd2 hk1 hkl1 h1 h2 h3 hi1
    by_cases k34 : p1 = 34
    · subst k34
      obtain rfl : d = 34 := UInt8.toNat.inj HD2.out
      have PN := Lib.hid (show At l (k + 2) (acc ++ [34]) from atx_esc HA.out HKL1.out HCL.out HDL.out H3.out (by decide))
      have W1 := Lib.hid (show Calls Tryz.prog 79 #[.pointer (some ⟨b, 0, none⟩), .int .u8 34] wr _ from bd_write HD.out 34 LA.out HBr.out)
      have ES : Hid (∀ y : World, Calls Tryz.prog 104 #[.int .u8 34] y fun e w' => e = .returned (.tuple #[.int .u8 34, .bool true]) ∧ w' = y) := Lib.hid ES.out
      go_wp2_with (first | (go_at_call 104; refine (ES.out _).mono ?_; clear ES; rintro e wr ⟨rfl, hw⟩; rw [hw]; clear hw wr) | (go_at_call 79; refine W1.out.mono ?_; clear W1; rintro e w2 ⟨rfl, d1, b1, _⟩; have D1 := Lib.hid d1; have B1 := Lib.hid b1; clear d1 b1))
      go_roundw
      case rel => exact ⟨k + 2, acc ++ [34], by go_num, PN, D1, Lib.hid (BW.out.trans (B1.out.mono HBb.out))⟩
      case measure => simp [intOf]; omega
    have g34 : ((p1 : Int) == 34) = false := by simp; omega
    by_cases k92 : p1 = 92
    · subst k92
      obtain rfl : d = 92 := UInt8.toNat.inj HD2.out
      have PN := Lib.hid (show At l (k + 2) (acc ++ [92]) from atx_esc HA.out HKL1.out HCL.out HDL.out H3.out (by decide))
      have W1 := Lib.hid (show Calls Tryz.prog 79 #[.pointer (some ⟨b, 0, none⟩), .int .u8 92] wr _ from bd_write HD.out 92 LA.out HBr.out)
      have ES : Hid (∀ y : World, Calls Tryz.prog 104 #[.int .u8 92] y fun e w' => e = .returned (.tuple #[.int .u8 92, .bool true]) ∧ w' = y) := Lib.hid ES.out
      go_wp2_with (first | (go_at_call 104; refine (ES.out _).mono ?_; clear ES; rintro e wr ⟨rfl, hw⟩; rw [hw]; clear hw wr) | (go_at_call 79; refine W1.out.mono ?_; clear W1; rintro e w2 ⟨rfl, d1, b1, _⟩; have D1 := Lib.hid d1; have B1 := Lib.hid b1; clear d1 b1))
      go_roundw
      case rel => exact ⟨k + 2, acc ++ [92], by go_num, PN, D1, Lib.hid (BW.out.trans (B1.out.mono HBb.out))⟩
      case measure => simp [intOf]; omega
    have g92 : ((p1 : Int) == 92) = false := by simp; omega
    by_cases k110 : p1 = 110
    · subst k110
      obtain rfl : d = 110 := UInt8.toNat.inj HD2.out
      have PN := Lib.hid (show At l (k + 2) (acc ++ [10]) from atx_n HA.out HKL1.out HCL.out HDL.out H3.out (by decide))
      have W1 := Lib.hid (show Calls Tryz.prog 79 #[.pointer (some ⟨b, 0, none⟩), .int .u8 10] wr _ from bd_write HD.out 10 LA.out HBr.out)
      have ES : Hid (∀ y : World, Calls Tryz.prog 104 #[.int .u8 110] y fun e w' => e = .returned (.tuple #[.int .u8 10, .bool true]) ∧ w' = y) := Lib.hid ES.out
      go_wp2_with (first | (go_at_call 104; refine (ES.out _).mono ?_; clear ES; rintro e wr ⟨rfl, hw⟩; rw [hw]; clear hw wr) | (go_at_call 79; refine W1.out.mono ?_; clear W1; rintro e w2 ⟨rfl, d1, b1, _⟩; have D1 := Lib.hid d1; have B1 := Lib.hid b1; clear d1 b1))
      go_roundw
      case rel => exact ⟨k + 2, acc ++ [10], by go_num, PN, D1, Lib.hid (BW.out.trans (B1.out.mono HBb.out))⟩
      case measure => simp [intOf]; omega
    have g110 : ((p1 : Int) == 110) = false := by simp; omega
    have e := atx_no HA.out HCL.out HDL.out H3.out (fun e => k34 (HD2.out.symm.trans e)) (fun e => k92 (HD2.out.symm.trans e)) (fun e => k110 (HD2.out.symm.trans e))
    obtain ⟨e1, e2⟩ := NO.out e
    subst e1 e2
    rw [if_neg (by omega), if_neg k110] at ES
    clear e
    go_wp2_with ((go_at_call 104; refine (ES.out _).mono ?_; clear ES; rintro e wr ⟨rfl, hw⟩; rw [hw]; clear hw wr))
    go_ret2
    exact ⟨rfl, BW.out⟩
end Vm
end Go.Proofs.YtbnicnhkakbglaaGreatDoor

/- Is a text one of a list of words: the document's test; the program's quoted values. -/
namespace Go.Proofs.YtbnicnhkakbglaaGreatDoor
open Go.RowKit
namespace Vm
open Jb Sa Sb Sc Sd Se Sf Sg Sh Si Sj Uq Vd

set_option maxRecDepth 100000 in
theorem in25 (w : World) (g : Nat) (ws : Nat → ByteArray) (s : ByteArray) (hc : ∀ k, k < 5 → w.cell? ⟨g, k, none⟩ = some (.string (ws k))) (A : Bool) (hA1 : A = true → ∃ k, k < 5 ∧ ws k = s) (hA0 : A = false → ∀ j, j < 5 → ws j ≠ s) :
    Calls Tryz.prog 25 #[.slice (some ⟨g, 0, none⟩) 5 5, .string s] w fun e w' => e = .returned (.bool A) ∧ w' = w := by
  have HA1 := Lib.hid hA1
  have HA0 := Lib.hid hA0
  have HC := Lib.hid hc
  clear hA1 hA0 hc
  go_enter Tryz.func25, Tryz.ntmps25
  go_wp2_with fail
  go_loopw [8] (fun i wr => ∃ k, k ≤ 5 ∧ i = .int .i64 (k : Nat) ∧ (∀ j, j < k → ws j ≠ s) ∧ wr = w) (fun i _ => 5 - (intOf i).toNat)
  case atStart => exact ⟨0, Nat.zero_le _, rfl, fun j hj => by omega, by first | rfl | trivial⟩
  case round =>
    obtain ⟨k, hk, rfl, hall, rfl⟩ := hrel
    have HALL := Lib.hid hall
    clear hall
    by_cases h5 : k < 5
    · have c := HC.out k h5
      have g0 : (k : Int) < 5 := by omega
      by_cases e : ws k = s
      · have e1 : A = true := by
          cases A with
          | true => rfl
          | false => exact absurd e (HA0.out rfl k h5)
        rw [e] at c
        subst e1
        clear e
        go_wp2_with fail
        go_ret
        exact ⟨rfl, by first | rfl | trivial⟩
      · have HE := Lib.hid e
        obtain ⟨X, hX⟩ : ∃ X, X = ws k := ⟨_, rfl⟩
        rw [← hX] at c e
        have e2 := toList_ne e
        clear hX e
        go_wp2_with fail
        go_roundw
        case rel => exact ⟨k + 1, by omega, by go_num, fun j hj => by
          by_cases hjk : j = k
          · rw [hjk]; exact HE.out
          · exact HALL.out j (by omega), by first | rfl | trivial⟩
        case measure => simp [intOf]; omega
    · have g0 : ¬ (k : Int) < 5 := by omega
      have e1 : A = false := by
        cases A with
        | false => rfl
        | true =>
          obtain ⟨j, h1, h2⟩ := HA1.out rfl
          exact absurd h2 (HALL.out j (by omega))
      subst e1
      go_wp2_with fail
      go_ret
      exact ⟨rfl, by first | rfl | trivial⟩
end Vm
end Go.Proofs.YtbnicnhkakbglaaGreatDoor
