/- Names as texts. -/
import Derived.Test.YtalanjhpacjmmaaGreatSc
namespace Go.Proofs.YtalanjhpacjmmaaGreat
set_option maxRecDepth 100000
open Go.RowKit
namespace Sd
open Jb Sa Sb Sc

/-- A builder that holds these bytes. -/
def Bd (w : World) (B b : Nat) (l : List UInt8) : Prop := Lib.IsBuilderF 110 5 B b (Lib.byteCells l) w
theorem bd_new (w : World) : Bd (w.alloc (.cells #[.pointer none, .slice none 0 0] 110)) w.heap.size w.heap.size [] := Lib.IsBuilderF.of (Lib.fresh_isBuilder 110 5 w)
theorem bd_write {w : World} {B b : Nat} {l : List UInt8} (h : Bd w B b l) (c : UInt8) (hl : l.length + 1 ≤ 140737488355328) (hB : B ≤ w.heap.size) :
    Calls Tryz.prog 67 #[.pointer (some ⟨b, 0, none⟩), .int .u8 (c.toNat : Nat)] w fun e w' => e = .returned .nilIface ∧ Bd w' B b (l ++ [c]) ∧ Below B w w' ∧ Lib.OthersKept 5 (some b) w w' := by
  refine (Tryz.Builder_WriteByte_k B b _ _ w h (by rw [Lib.byteCells_length]; exact hl) hB).mono ?_
  rintro e w' ⟨rfl, h1, h2, h3⟩
  refine ⟨rfl, ?_, h2, h3⟩
  unfold Bd
  rw [Lib.byteCells_append]
  exact .inr h1
theorem bd_string {w : World} {B b : Nat} {l : List UInt8} (h : Bd w B b l) (hB : B ≤ w.heap.size) :
    Calls Tryz.prog 68 #[.pointer (some ⟨b, 0, none⟩)] w fun e w' => e = .returned (.string (ba l)) ∧ Bd w' B b l ∧ Below B w w' := by
  refine (Tryz.Builder_String_any_k B b l w h hB).mono ?_
  rintro e w' ⟨rfl, h1, h2, _⟩
  exact ⟨rfl, h1, h2⟩
set_option maxRecDepth 100000 in
theorem writeName20 (w : World) (B b : Nat) (pre : List UInt8) (s : ByteArray) (h : Bd w B b pre) (hl : pre.length + 2 * s.size ≤ 140737488355328) (hB : B ≤ w.heap.size) :
    Calls Tryz.prog 66 #[.pointer (some ⟨b, 0, none⟩), .string s] w fun e w' => e = .returned (.tuple #[]) ∧ Bd w' B b (pre ++ esc (bl s)) ∧ Below B w w' ∧ Lib.OthersKept 5 (some b) w w' := by
  have HQ := Lib.hid (fun (y : World) (k : Nat) (hk : k < s.size) => idx y s k hk)
  obtain ⟨n, hn⟩ : ∃ n, n = s.size := ⟨_, rfl⟩
  have hlen : ∀ (ty : TypeId) (y : World), (Builtin.len_ #[9] ty #[.string s]).run Tryz.prog y = .ok (.int .i64 (n : Nat)) y := fun ty y => by rw [hn]; exact run_len_string y 9 ty s Tryz.underlying9
  rw [← hn] at hl
  have HN := Lib.hid hn
  have H := Lib.hid h
  have EB := Lib.hid (fun (y : World) (c : Nat) => isEscaped29 y c)
  have hn9 : n ≤ 140737488355328 := by omega
  have HL := Lib.hid hl
  have HB := Lib.hid hB
  clear h hn hl hB
  go_enter Tryz.func66, Tryz.ntmps66
  go_wp2_with fail
  go_loopw [7] (fun i wr => ∃ k, k ≤ n ∧ i = .int .i64 (k : Nat) ∧ Hid (Bd wr B b (pre ++ esc ((bl s).take k))) ∧ Hid (Below B w wr) ∧ Hid (Lib.OthersKept 5 (some b) w wr)) (fun i _ => n - (intOf i).toNat)
  case atStart => exact ⟨0, Nat.zero_le _, rfl, Lib.hid (by simpa [esc] using H.out), Lib.hid (Below.refl _ _), Lib.hid (Lib.OthersKept.refl _ _ _)⟩
  case round =>
    obtain ⟨k, hk, rfl, HD, BW, KW⟩ := hrel
    by_cases hkn : k < n
    · have hi := fun (y : World) => HQ.out y k (by rw [← HN.out]; exact hkn)
      obtain ⟨c, hc1, hc2, hc3⟩ := drop_cons s k (by rw [← HN.out]; exact hkn)
      obtain ⟨q, hq⟩ : ∃ q, q = by8 s k := ⟨_, rfl⟩
      rw [← hq] at hi hc2
      have hk0 : (0 : Int) ≤ (k : Int) := by omega
      have hw : B ≤ wr.heap.size := Nat.le_trans HB.out BW.out.size
      have LT := Lib.hid (show (pre ++ esc ((bl s).take k)).length + 2 ≤ 140737488355328 by
        have h1 := (esc_len ((bl s).take k)).2
        have h2 := HL.out
        rw [List.length_append]
        rw [List.length_take, bl_len] at h1
        have : min k s.size ≤ k := Nat.min_le_left _ _
        omega)
      have EN := Lib.hid (show esc ((bl s).take (k + 1)) = esc ((bl s).take k) ++ (if sp c then [92, c] else [c]) by rw [hc3, esc_app, esc_one])
      have HW := Lib.hid hw
      by_cases hs : sp c = true
      · have hsn : spn q = true := by rw [← hc2]; exact hs
        have EE := Lib.hid (EN.out.trans (by rw [if_pos hs] : _ = esc ((bl s).take k) ++ [92, c]))
        have W1 := Lib.hid (bd_write HD.out 92 (by have := LT.out; omega) HW.out)
        have W2 := Lib.hid (fun (y : World) (hy : Bd y B b (pre ++ esc ((bl s).take k) ++ [92])) (hs : B ≤ y.heap.size) => (show Calls Tryz.prog 67 #[.pointer (some ⟨b, 0, none⟩), .int .u8 (q : Nat)] y _ from hc2 ▸ bd_write hy c (by have := LT.out; simp only [List.length_append, List.length_cons, List.length_nil] at this ⊢; omega) hs))
        have EQ := Lib.hid (show ∀ y, Calls Tryz.prog 101 #[.int .u8 (q : Nat)] y fun e w' => e = .returned (.bool true) ∧ w' = y from fun y => hsn ▸ EB.out y q)
        clear hq hc1 hc2 hc3 hw hs EN hsn EB
        go_wp2_with (first
          | (go_at_call 101; refine (EQ.out _).mono ?_; clear EQ; rintro e w1 ⟨rfl, rfl⟩)
          | (go_at_call 67; refine W1.out.mono ?_; clear W1; rintro e w2 ⟨rfl, d1, b1, k1⟩; have K1 := Lib.hid k1; clear k1; have D1 := Lib.hid d1; have B1 := Lib.hid b1; have S1 := Lib.hid (Nat.le_trans HW.out b1.size); clear d1 b1)
          | (go_at_call 67; refine (W2.out _ D1.out S1.out).mono ?_; clear W2; rintro e w3 ⟨rfl, d2, b2, k2⟩; have K2 := Lib.hid k2; clear k2; have D2 := Lib.hid d2; have B2 := Lib.hid b2; clear d2 b2))
        go_roundw
        case rel =>
          refine ⟨k + 1, by omega, by go_num, Lib.hid ?_, Lib.hid ((BW.out.trans (B1.out.mono (Nat.le_refl _))).trans B2.out), Lib.hid ((KW.out.trans K1.out).trans K2.out)⟩
          have := D2.out
          rw [List.append_assoc, List.append_assoc] at this
          rw [EE.out]
          exact this
        case measure => simp [intOf]; omega
      · have hs' : sp c = false := by simpa using hs
        have hsn : spn q = false := by rw [← hc2]; exact hs'
        have EE := Lib.hid (EN.out.trans (by rw [if_neg hs] : _ = esc ((bl s).take k) ++ [c]))
        have W1 := Lib.hid (show Calls Tryz.prog 67 #[.pointer (some ⟨b, 0, none⟩), .int .u8 (q : Nat)] wr _ from hc2 ▸ bd_write HD.out c (by have := LT.out; omega) HW.out)
        have EQ := Lib.hid (show ∀ y, Calls Tryz.prog 101 #[.int .u8 (q : Nat)] y fun e w' => e = .returned (.bool false) ∧ w' = y from fun y => hsn ▸ EB.out y q)
        clear hq hc1 hc2 hc3 hw hs EN hsn EB hs'
        go_wp2_with (first
          | (go_at_call 101; refine (EQ.out _).mono ?_; clear EQ; rintro e w1 ⟨rfl, rfl⟩)
          | (go_at_call 67; refine W1.out.mono ?_; clear W1; rintro e w2 ⟨rfl, d1, b1, k1⟩; have K1 := Lib.hid k1; clear k1; have D1 := Lib.hid d1; have B1 := Lib.hid b1; clear d1 b1))
        go_roundw
        case rel =>
          refine ⟨k + 1, by omega, by go_num, Lib.hid ?_, Lib.hid (BW.out.trans B1.out), Lib.hid (KW.out.trans K1.out)⟩
          have := D1.out
          rw [List.append_assoc] at this
          rw [EE.out]
          exact this
        case measure => simp [intOf]; omega
    · obtain rfl : k = n := by omega
      have DE := Lib.hid (show Bd wr B b (pre ++ esc (bl s)) by
        have := HD.out
        rwa [List.take_of_length_le (by rw [bl_len, ← HN.out]; exact Nat.le_refl _)] at this)
      clear hkn
      go_wp2_with fail
      refine bodyPost_end (v := .tuple #[]) (by simp [results, Tryz.results66, go_sem]) rfl ⟨rfl, DE.out, BW.out, KW.out⟩
end Sd
end Go.Proofs.YtalanjhpacjmmaaGreat
