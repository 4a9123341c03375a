/- The document's Part. -/
import Derived.Test.YtedlgcbgbphlkaaSm
namespace Go.Proofs.Ytedlgcbgbphlkaa
open Go.RowKit
namespace Sn
open Jb Sa Sb Sc Sd Se Sf Sg Sh Si Sj Sk Sl Sm

/-- What Part answers. -/
def PtE (s : ByteArray) (p : Nat) (e : Ending) : Prop :=
  (∃ n q, prt ((bl s).drop p) = some (n, (bl s).drop q) ∧ p ≤ q ∧ q ≤ s.size ∧ e = .returned (.tuple #[.string (ba n), .int .i64 (q : Nat), .bool true])) ∨
    (prt ((bl s).drop p) = none ∧ ∃ q : Nat, q ≤ s.size ∧ e = .returned (.tuple #[.string ⟨#[]⟩, .int .i64 (q : Nat), .bool false]))
set_option maxRecDepth 100000 in
set_option maxHeartbeats 1000000 in
theorem part26 (w : World) (s : ByteArray) (p : Nat) (hs : s.size ≤ 140737488351232) (hp : p ≤ s.size) :
    Calls Try.prog 26 #[.string s, .int .i64 (p : Nat)] w fun e w' => PtE s p e ∧ Below w.heap.size w w' := by
  have HQ := Lib.hid (fun (y : World) (k : Nat) (hk : k < s.size) => idx y s k hk)
  obtain ⟨n, hn⟩ : ∃ n, n = s.size := ⟨_, rfl⟩
  have hlen : ∀ (ty : TypeId) (y : World), (Builtin.len_ #[9] ty #[.string s]).run Try.prog y = .ok (.int .i64 (n : Nat)) y := fun ty y => by rw [hn]; exact run_len_string y 9 ty s Try.underlying9
  have YES := Lib.hid (fun m q (h : prt ((bl s).drop p) = some (m, (bl s).drop q)) (h1 : p ≤ q) (h2 : q ≤ n) => (show PtE s p (.returned (.tuple #[.string (ba m), .int .i64 (q : Nat), .bool true])) from .inl ⟨m, q, h, h1, by omega, rfl⟩))
  have NO := Lib.hid (fun (h : prt ((bl s).drop p) = none) (q : Nat) (h2 : q ≤ n) => (show PtE s p (.returned (.tuple #[.string ⟨#[]⟩, .int .i64 (q : Nat), .bool false])) from .inr ⟨h, q, by omega, rfl⟩))
  rw [← hn] at hs hp HQ
  have HN := Lib.hid hn
  have HS := Lib.hid hs
  have EB := Lib.hid (fun (y : World) (c : Nat) => special25 y c)
  obtain ⟨PT, hPT⟩ : ∃ PT, PT = prt ((bl s).drop p) := ⟨_, rfl⟩
  rw [← hPT] at YES NO
  have HPT := Lib.hid hPT
  obtain ⟨B, hB⟩ : ∃ B, B = w.heap.size := ⟨_, rfl⟩
  have HBE := Lib.hid hB
  have HP0 := Lib.hid hp
  rw [← hB]
  clear hn hPT hB
  go_enter Try.func26, Try.ntmps26
  go_wp2_with fail
  go_loopw [1, 7, 8] (fun i o _ wr => ∃ (k : Nat) (acc : List UInt8), i = .int .i64 (k : Nat) ∧ k ≤ n ∧ Hid (acc.length + p ≤ k) ∧ Hid (PT = (prt ((bl s).drop k)).map fun x => (acc ++ x.1, x.2)) ∧ Hid (Ob wr B o acc) ∧ Hid (Below B w wr)) (fun i _ _ _ => n - (intOf i).toNat)
  case atStart => exact ⟨p, [], rfl, hp, Lib.hid (by simp), Lib.hid (by rw [HPT.out]; simp), Lib.hid (ob_nil _ _), Lib.hid (Below.refl _ _)⟩
  case round =>
    obtain ⟨k, acc, rfl, hk, HAL, HP, HO, BW⟩ := hrel
    obtain ⟨oa, ol, oc, rfl, hol⟩ := HO.out.forms
    clear hol
    have HW := Lib.hid (show B ≤ wr.heap.size from Nat.le_trans (by rw [HBE.out]; exact Nat.le_refl _) BW.out.size)
    have hk0 : (0 : Int) ≤ (k : Int) := by omega
    clear hp
    by_cases hkn : k < n
    case neg =>
      obtain rfl : k = n := by omega
      have E := Lib.hid (YES.out acc k (by
        have h1 : (bl s).drop k = [] := List.drop_of_length_le (by rw [bl_len, ← HN.out]; exact Nat.le_refl _)
        rw [HP.out, h1, part_nil]; simp) HP0.out (Nat.le_refl _))
      have CV := (show (convert 43 9 (.slice oa ol oc)).run Try.prog wr = .ok (.string (ba acc)) wr from HO.out.conv)
      clear hkn hk
      go_wp2_with fail
      go_ret3
      exact ⟨E.out, BW.out⟩
    have hi := fun (y : World) => HQ.out y k hkn
    obtain ⟨c, hc1, hc2, hc3⟩ := drop_cons s k (by rw [← HN.out]; exact hkn)
    obtain ⟨q, hq⟩ : ∃ q, q = by8 s k := ⟨_, rfl⟩
    rw [← hq] at hi hc2
    have HC := Lib.hid hc2
    have HC1 := Lib.hid hc1
    have EB1 := Lib.hid (fun (y : World) => EB.out y q)
    have LA := Lib.hid (show acc.length + 1 + (acc.length + 1) / 4 + 192 ≤ 281474976710656 by have := HAL.out; have := HS.out; omega)
    have HKN := Lib.hid hkn
    clear hq hc1 hc2 hc3
    by_cases hq92 : q = 92
    · have g1 : ((q : Int) == 92) = true := by simp; omega
      by_cases hk1 : k + 1 = n
      · have E := Lib.hid (NO.out (by
          rw [HP.out, HC1.out, List.drop_of_length_le (by rw [bl_len, ← HN.out]; omega), part_end c (by rw [HC.out]; exact hq92)]; rfl) k hk)
        have g2 : decide ((k : Int) + 1 ≥ (n : Int)) = true := decide_eq_true (by omega)
        clear hq92 hk1
        go_wp2_with fail
        go_ret3
        exact ⟨E.out, BW.out⟩
      have hkn1 : k + 1 < n := by omega
      have g2 : decide ((k : Int) + 1 ≥ (n : Int)) = false := decide_eq_false (by omega)
      have hi1 := fun (y : World) => HQ.out y (k + 1) hkn1
      obtain ⟨d, hd1, hd2, _⟩ := drop_cons s (k + 1) (by rw [← HN.out]; exact hkn1)
      obtain ⟨p1, hp1⟩ : ∃ p1, p1 = by8 s (k + 1) := ⟨_, rfl⟩
      rw [← hp1] at hi1 hd2
      have hi2 : ∀ (y : World), (Instr.index 9 (.string s) (.int .i64 ((k : Int) + 1))).run Try.prog y = .ok (.int .u8 (p1 : Nat)) y := hi1
      have HD1 := Lib.hid hd1
      have HD2 := Lib.hid hd2
      have EP := Lib.hid (fun (y : World) => EB.out y p1)
      clear hp1 hd1 hd2 hk1
      by_cases hs : spn p1 = true
      · rw [hs] at EP
        have PN := Lib.hid (show PT = (prt ((bl s).drop (k + 2))).map fun x => ((acc ++ [d]) ++ x.1, x.2) by
          rw [HP.out, HC1.out, HD1.out, part_esc2 c d _ (by rw [HC.out]; exact hq92) (by unfold sp; rw [HD2.out]; exact hs), Option.map_map]
          congr 1
          funext x
          simp)
        clear hs hq92
        go_wp2_with (first
          | (go_at_call 25; refine (EP.out _).mono ?_; clear EP; rintro e wr ⟨rfl, rfl⟩)
          | (at_builtin; rw [← HD2.out]; refine app1 rfl (.tmp 32) (.tmp 37) rfl wr B _ _ d rfl rfl HO.out HW.out LA.out ?_; intro o2 w2 h2 b2; clear HO; obtain ⟨a2, m2, c2, rfl, e2⟩ := h2.forms; clear e2; have H2 := Lib.hid h2; have B2 := Lib.hid b2; clear h2 b2))
        go_roundw
        case rel => exact ⟨k + 2, acc ++ [d], by go_num, by omega, Lib.hid (by have := HAL.out; simp; omega), PN, H2, Lib.hid (BW.out.trans B2.out)⟩
        case measure => simp [intOf]; omega
      · have hs' : spn p1 = false := by simpa using hs
        rw [hs'] at EP
        have E := Lib.hid (NO.out (by
          rw [HP.out, HC1.out, HD1.out, part_bad c d _ (by rw [HC.out]; exact hq92) (by unfold sp; rw [HD2.out]; exact hs')]; rfl) k hk)
        clear hs hs' hq92
        go_wp2_with (first
          | (go_at_call 25; refine (EP.out _).mono ?_; clear EP; rintro e wr ⟨rfl, rfl⟩))
        go_ret3
        exact ⟨E.out, BW.out⟩
    have g1 : ((q : Int) == 92) = false := by simp; omega
    by_cases hs : spn q = true
    · have E := Lib.hid (YES.out acc k (by
        have h1 := part_stop c ((bl s).drop (k + 1)) (by rw [HC.out]; exact hq92) (by unfold sp; rw [HC.out]; exact hs)
        rw [← HC1.out] at h1
        rw [HP.out, h1]; simp) (by have := HAL.out; omega) hk)
      have CV := (show (convert 43 9 (.slice oa ol oc)).run Try.prog wr = .ok (.string (ba acc)) wr from HO.out.conv)
      rw [hs] at EB1
      clear hs hq92
      go_wp2_with (first
        | (go_at_call 25; refine (EB1.out _).mono ?_; clear EB1; rintro e wr ⟨rfl, rfl⟩))
      go_ret3
      exact ⟨E.out, BW.out⟩
    · have hs' : spn q = false := by simpa using hs
      rw [hs'] at EB1
      have PN := Lib.hid (show PT = (prt ((bl s).drop (k + 1))).map fun x => ((acc ++ [c]) ++ x.1, x.2) by
        rw [HP.out, HC1.out, part_plain c _ (by unfold sp; rw [HC.out]; exact hs'), Option.map_map]
        congr 1
        funext x
        simp)
      clear hs hs' hq92
      go_wp2_with (first
        | (go_at_call 25; refine (EB1.out _).mono ?_; clear EB1; rintro e wr ⟨rfl, rfl⟩)
        | (at_builtin; rw [← HC.out]; refine app1 rfl (.tmp 43) (.tmp 45) rfl wr B _ _ c rfl rfl HO.out HW.out LA.out ?_; intro o2 w2 h2 b2; clear HO; obtain ⟨a2, m2, c2, rfl, e2⟩ := h2.forms; clear e2; have H2 := Lib.hid h2; have B2 := Lib.hid b2; clear h2 b2))
      go_roundw
      case rel => exact ⟨k + 1, acc ++ [c], by go_num, by omega, Lib.hid (by have := HAL.out; simp; omega), PN, H2, Lib.hid (BW.out.trans B2.out)⟩
      case measure => simp [intOf]; omega
end Sn
end Go.Proofs.Ytedlgcbgbphlkaa
