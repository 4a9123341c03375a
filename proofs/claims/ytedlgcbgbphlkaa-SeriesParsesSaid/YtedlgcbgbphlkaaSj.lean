/- The program's readName. -/
import Derived.Test.YtedlgcbgbphlkaaSi
namespace Go.Proofs.Ytedlgcbgbphlkaa
open Go.RowKit
namespace Sj
open Jb Sa Sb Sc Sd Se Sf Sg Sh Si

theorem slice_run (s : ByteArray) (k : Nat) (hk : k ≤ s.size) (y : World) : (Instr.slice 9 (.string s) (some (.int .i64 (k : Nat))) none none).run Try.prog y = .ok (.string (ba ((bl s).drop k))) y := by
  rw [run_slice_string_l y 9 s Try.underlying9 .i64 (k : Nat) (by omega) (by omega)]
  have e : s.extract ((k : Nat) : Int).toNat s.size = ba ((bl s).drop k) := by
    apply bl_inj
    rw [bl_ba]
    have hl := bl_len s
    unfold bl at *
    simp only [Int.toNat_natCast, ByteArray.data_extract, Array.toList_extract, List.extract_eq_take_drop]
    rw [List.take_of_length_le (by rw [List.length_drop]; omega)]
  rw [e]
/-- What a name's reading answers. -/
def rn (t : List UInt8) : ByteArray × ByteArray × Bool := match prt t with
  | none => (⟨#[]⟩, ⟨#[]⟩, false)
  | some (n, r) => (ba n, ba r, true)
theorem rn_some {t n r : List UInt8} (h : prt t = some (n, r)) : rn t = (ba n, ba r, true) := by unfold rn; rw [h]
theorem rn_none {t : List UInt8} (h : prt t = none) : rn t = (⟨#[]⟩, ⟨#[]⟩, false) := by unfold rn; rw [h]
theorem at_cons {l : List UInt8} {k : Nat} {acc : List UInt8} (h : prt l = (prt (l.drop k)).map fun x => (acc ++ x.1, x.2)) {n r : List UInt8} (h1 : prt (l.drop k) = some (n, r)) : prt l = some (acc ++ n, r) := by rw [h, h1]; rfl
set_option maxRecDepth 100000 in
theorem readName31 (w : World) (s : ByteArray) (hs : s.size ≤ 70368744177664) :
    Calls Try.prog 31 #[.string s] w fun e w' => e = .returned (.tuple #[.string (rn (bl s)).1, .string (rn (bl s)).2.1, .bool (rn (bl s)).2.2]) ∧ Below w.heap.size w w' := by
  have HQ := Lib.hid (fun (y : World) (k : Nat) (hk : k < s.size) => idx y s k hk)
  have SL := Lib.hid (fun (k : Nat) (hk : k ≤ s.size) => slice_run s k hk)
  obtain ⟨n, hn⟩ : ∃ n, n = s.size := ⟨_, rfl⟩
  have hlen : ∀ (ty : TypeId) (y : World), (Builtin.len_ #[9] ty #[.string s]).run Try.prog y = .ok (.int .i64 (n : Nat)) y := fun ty y => by rw [hn]; exact run_len_string y 9 ty s Try.underlying9
  obtain ⟨A1, hA1⟩ : ∃ A, A = (rn (bl s)).1 := ⟨_, rfl⟩
  obtain ⟨A2, hA2⟩ : ∃ A, A = (rn (bl s)).2.1 := ⟨_, rfl⟩
  obtain ⟨A3, hA3⟩ : ∃ A, A = (rn (bl s)).2.2 := ⟨_, rfl⟩
  rw [← hA1, ← hA2, ← hA3]
  have YES := Lib.hid (fun m r (h : prt (bl s) = some (m, r)) => (show A1 = ba m ∧ A2 = ba r ∧ A3 = true by rw [hA1, hA2, hA3, rn_some h]; exact ⟨rfl, rfl, rfl⟩))
  have NO := Lib.hid (fun (h : prt (bl s) = none) => (show A1 = ⟨#[]⟩ ∧ A2 = ⟨#[]⟩ ∧ A3 = false by rw [hA1, hA2, hA3, rn_none h]; exact ⟨rfl, rfl, rfl⟩))
  rw [← hn] at hs SL HQ
  have HN := Lib.hid hn
  have HS := Lib.hid hs
  have EB := Lib.hid (fun (y : World) (c : Nat) => isEscaped29 y c)
  have hn9 : n ≤ 140737488355328 := by omega
  obtain ⟨b, hb⟩ : ∃ b, b = w.heap.size := ⟨_, rfl⟩
  obtain ⟨w1, hw1⟩ : ∃ w1, w1 = w.alloc (.cells #[.pointer none, .slice none 0 0] 45) := ⟨_, rfl⟩
  have D0 := Lib.hid (show Bd w1 b b [] by rw [hw1, hb]; exact bd_new w)
  have N1 := Lib.hid (show Below b w w1 by rw [hw1, hb]; exact (Below.refl _ w).alloc (Nat.le_refl _) _)
  have HBB := Lib.hid hb
  rw [← hb]
  clear hn hs hA1 hA2 hA3
  go_enter Try.func31, Try.ntmps31
  go_upto_region 2 with (fail)
  rw [← hw1, ← hb]
  clear hw1 hb
  go_wp2_with fail
  go_loopw [6] (fun i wr => ∃ (k : Nat) (acc : List UInt8), k ≤ n ∧ i = .int .i64 (k : Nat) ∧ Hid (acc.length ≤ k) ∧ Hid (prt (bl s) = (prt ((bl s).drop k)).map fun x => (acc ++ x.1, x.2)) ∧ Hid (Bd wr b b acc) ∧ Hid (Below b w wr)) (fun i _ => n - (intOf i).toNat)
  case atStart => exact ⟨0, [], Nat.zero_le _, rfl, Lib.hid (Nat.le_refl _), Lib.hid (by simp), D0, N1⟩
  case round =>
    obtain ⟨k, acc, hk, rfl, HAL, HP, HD, BW⟩ := hrel
    have HBr := Lib.hid (Nat.le_of_lt (bd_lt HD.out))
    by_cases hkn : k < n
    case neg =>
      obtain rfl : k = n := by omega
      have e := YES.out acc [] (by
        have := at_cons HP.out (n := []) (r := []) (by rw [List.drop_of_length_le (by rw [bl_len, ← HN.out]; exact Nat.le_refl _)]; exact part_nil)
        rwa [List.append_nil] at this)
      obtain ⟨e1, e2, e3⟩ := e
      have ST := Lib.hid (bd_string HD.out HBr.out)
      rw [← e1] at ST
      have e2' : A2 = ⟨#[]⟩ := e2
      subst e2' e3
      clear hkn e1 e2
      go_wp2_with (go_at_call 22; refine ST.out.mono ?_; clear ST; rintro e w4 ⟨rfl, _, b4⟩; have B4 := Lib.hid b4; clear b4)
      go_ret3
      exact ⟨rfl, BW.out.trans B4.out⟩
    have hi := fun (y : World) => HQ.out y k hkn
    obtain ⟨c, hc1, hc2, hc3⟩ := drop_cons s k (by rw [← HN.out]; exact hkn)
    obtain ⟨q, hq⟩ : ∃ q, q = by8 s k := ⟨_, rfl⟩
    rw [← hq] at hi hc2
    have hk0 : (0 : Int) ≤ (k : Int) := by omega
    have HC := Lib.hid hc2
    have HC1 := Lib.hid hc1
    have EB1 := Lib.hid (fun (y : World) => EB.out y q)
    have LA := Lib.hid (show acc.length + 1 ≤ 140737488355328 by have := HAL.out; have := HS.out; omega)
    clear hq hc1 hc2 hc3
    by_cases hq92 : q = 92
    · have g1 : ((q : Int) == 92) = true := by simp; omega
      by_cases hk1 : k + 1 = n
      · have e := NO.out (by
          rw [HP.out, HC1.out, List.drop_of_length_le (by rw [bl_len, ← HN.out]; omega), part_end c (by rw [HC.out]; exact hq92)]; rfl)
        obtain ⟨e1, e2, e3⟩ := e
        subst e1 e2 e3
        have g2 : ((k : Int) + 1 == (n : Int)) = true := by simp; omega
        clear hq92 hk1
        go_wp2_with fail
        go_ret3
        exact ⟨rfl, BW.out⟩
      have hkn1 : k + 1 < n := by omega
      have g2 : ((k : Int) + 1 == (n : Int)) = false := by simp; omega
      have hi1 := fun (y : World) => HQ.out y (k + 1) hkn1
      obtain ⟨d, hd1, hd2, _⟩ := drop_cons s (k + 1) (by rw [← HN.out]; exact hkn1)
      obtain ⟨p, hp⟩ : ∃ p, p = by8 s (k + 1) := ⟨_, rfl⟩
      rw [← hp] at hi1 hd2
      have hi2 : ∀ (y : World), (Instr.index 9 (.string s) (.int .i64 ((k : Int) + 1))).run Try.prog y = .ok (.int .u8 (p : Nat)) y := hi1
      have HD1 := Lib.hid hd1
      have HD2 := Lib.hid hd2
      have EP := Lib.hid (fun (y : World) => EB.out y p)
      clear hp hd1 hd2 hk1
      by_cases hs : spn p = true
      · rw [hs] at EP
        have W1 := Lib.hid (show Calls Try.prog 21 #[.pointer (some ⟨b, 0, none⟩), .int .u8 (p : Nat)] wr _ from HD2.out ▸ bd_write HD.out d LA.out HBr.out)
        have PN := Lib.hid (show prt (bl s) = (prt ((bl s).drop (k + 2))).map fun x => ((acc ++ [d]) ++ x.1, x.2) by
          rw [HP.out, HC1.out, HD1.out, part_esc2 c d _ (by rw [HC.out]; exact hq92) (by unfold sp; rw [HD2.out]; exact hs), Option.map_map]
          congr 1
          funext x
          simp)
        clear hs hq92
        go_wp2_with (first
          | (go_at_call 29; refine (EP.out _).mono ?_; clear EP; rintro e wr ⟨rfl, rfl⟩)
          | (go_at_call 21; refine W1.out.mono ?_; clear W1; rintro e w2 ⟨rfl, d1, b1, _⟩; have D1 := Lib.hid d1; have B1 := Lib.hid b1; clear d1 b1))
        go_roundw
        case rel => exact ⟨k + 2, acc ++ [d], by omega, by go_num, Lib.hid (by have := HAL.out; simp; omega), PN, D1, Lib.hid (BW.out.trans B1.out)⟩
        case measure => simp [intOf]; omega
      · have hs' : spn p = false := by simpa using hs
        rw [hs'] at EP
        have e := NO.out (by
          rw [HP.out, HC1.out, HD1.out, part_bad c d _ (by rw [HC.out]; exact hq92) (by unfold sp; rw [HD2.out]; exact hs')]; rfl)
        obtain ⟨e1, e2, e3⟩ := e
        subst e1 e2 e3
        clear hs hs' hq92
        go_wp2_with (first
          | (go_at_call 29; refine (EP.out _).mono ?_; clear EP; rintro e wr ⟨rfl, rfl⟩))
        go_ret3
        exact ⟨rfl, BW.out⟩
    have g1 : ((q : Int) == 92) = false := by simp; omega
    by_cases hs : spn q = true
    · have e := YES.out acc ((bl s).drop k) (by
        have := at_cons HP.out (n := []) (r := (bl s).drop k) (by rw [HC1.out]; exact part_stop _ _ (by rw [HC.out]; exact hq92) (by unfold sp; rw [HC.out]; exact hs))
        rwa [List.append_nil] at this)
      obtain ⟨e1, e2, e3⟩ := e
      have ST := Lib.hid (bd_string HD.out HBr.out)
      rw [← e1] at ST
      have sl := SL.out k (Nat.le_of_lt hkn)
      rw [← e2] at sl
      have STq := Lib.hid (bd_string (w := wr.drew) HD.out HBr.out)
      rw [← e1] at STq
      subst e3
      rw [hs] at EB1
      clear e1 e2 hq92 hs ST
      go_wp2_with (first
        | (go_at_call 29; refine (EB1.out _).mono ?_; clear EB1; rintro e wr ⟨rfl, rfl⟩))
      go_region_with (go_at_call 22; refine STq.out.mono ?_; rintro e w4 ⟨rfl, _, b4⟩; have B4 := Lib.hid b4; clear b4)
      all_goals
        go_wp2_with fail
        go_ret3
        exact ⟨rfl, BW.out.trans (show Below b wr _ from ⟨B4.out.os, B4.out.tape, B4.out.output, B4.out.size, B4.out.block⟩)⟩
    · have hs' : spn q = false := by simpa using hs
      rw [hs'] at EB1
      have W1 := Lib.hid (show Calls Try.prog 21 #[.pointer (some ⟨b, 0, none⟩), .int .u8 (q : Nat)] wr _ from HC.out ▸ bd_write HD.out c LA.out HBr.out)
      have PN := Lib.hid (show prt (bl s) = (prt ((bl s).drop (k + 1))).map fun x => ((acc ++ [c]) ++ x.1, x.2) by
        rw [HP.out, HC1.out, part_plain c _ (by unfold sp; rw [HC.out]; exact hs'), Option.map_map]
        congr 1
        funext x
        simp)
      clear hs hs' hq92
      go_wp2_with (first
        | (go_at_call 29; refine (EB1.out _).mono ?_; clear EB1; rintro e wr ⟨rfl, rfl⟩)
        | (go_at_call 21; refine W1.out.mono ?_; clear W1; rintro e w2 ⟨rfl, d1, b1, _⟩; have D1 := Lib.hid d1; have B1 := Lib.hid b1; clear d1 b1))
      go_roundw
      case rel => exact ⟨k + 1, acc ++ [c], by omega, by go_num, Lib.hid (by have := HAL.out; simp; exact this), PN, D1, Lib.hid (BW.out.trans B1.out)⟩
      case measure => simp [intOf]; omega
end Sj
end Go.Proofs.Ytedlgcbgbphlkaa
