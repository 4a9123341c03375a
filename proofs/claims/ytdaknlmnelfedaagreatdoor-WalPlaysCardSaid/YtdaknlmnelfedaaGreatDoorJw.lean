/- Names; the disk's small calls. -/
import Derived.Test.YtdaknlmnelfedaaGreatDoorJd
import Derived.RegionTactic
import Derived.Deep.RegionHeld
namespace Go.Proofs.YtdaknlmnelfedaaGreatDoor
open Go.RowKit Go.Maps Go.ChangeMaps Go.MapKept
namespace Jw
open Jb Jm Jd

def by8 (s : ByteArray) (k : Nat) : Nat := (s.data.toList.getD k 0).toNat
theorem by8_lt (s : ByteArray) (k : Nat) : by8 s k < 256 := UInt8.toNat_lt _
def good (s : ByteArray) (k : Nat) : Bool := decide (32 ≤ by8 s k) && decide (by8 s k ≠ 127)
/-- A name. -/
def isNm (s : ByteArray) : Bool := decide (1 ≤ s.size ∧ s.size ≤ 64 ∧ ∀ k, k < s.size → good s k = true)
theorem idx (w : World) (s : ByteArray) (k : Nat) (hk : k < s.size) : (Instr.index 9 (.string s) (.int .i64 (k : Nat))).run Tryz.prog w = .ok (.int .u8 (by8 s k : Nat)) w := by
  rw [run_index_string w 9 s .i64 k Tryz.underlying9, dif_pos ⟨by omega, by omega⟩]
  have h1 : k < s.data.toList.length := by simpa using hk
  have e : by8 s k = (s[k]'hk).toNat := by
    unfold by8
    rw [List.getD_eq_getElem?_getD, List.getElem?_eq_getElem h1]
    simp
    rfl
  rw [e]
  rfl
set_option maxRecDepth 100000 in
/-- The program's test of names. -/
theorem isName39 (w : World) (s : ByteArray) (hs : s.size ≤ 140737488355328) : Calls Tryz.prog 62 #[.string s] w fun e w' => e = .returned (.bool (isNm s)) ∧ w' = w := by
  obtain ⟨A, hA⟩ : ∃ A, A = isNm s := ⟨_, rfl⟩
  rw [← hA]
  have hq := fun (y : World) (k : Nat) (hk : k < s.size) => idx y s k hk
  have HQ := Lib.hid hq
  have HA := Lib.hid hA
  obtain ⟨n, hn⟩ : ∃ n, n = s.size := ⟨_, rfl⟩
  have hlen : ∀ (ty : TypeId) (y : World), (Builtin.len_ #[9] ty #[.string s]).run Tryz.prog y = .ok (.int .i64 (n : Nat)) y := fun ty y => by rw [hn]; exact run_len_string y 9 ty s Tryz.underlying9
  rw [← hn] at hs
  have HN := Lib.hid hn
  clear hA hq hn
  by_cases h0 : n = 0
  · have e1 : A = false := by rw [HA.out, isNm]; apply decide_eq_false; rintro ⟨a, -⟩; have := HN.out; omega
    subst h0 e1
    go_enter Tryz.func62, Tryz.ntmps62
    go_wp2_with fail
    go_ret
    trivial
  have d1 : decide ((n : Int) < 1) = false := decide_eq_false (by omega)
  by_cases h1 : 64 < n
  · have e1 : A = false := by rw [HA.out, isNm]; apply decide_eq_false; rintro ⟨-, a, -⟩; have := HN.out; omega
    have d2 : decide ((n : Int) > 64) = true := decide_eq_true (by omega)
    subst e1
    clear h0 h1
    go_enter Tryz.func62, Tryz.ntmps62
    go_wp2_with fail
    go_ret
    trivial
  have d2 : decide ((n : Int) > 64) = false := decide_eq_false (by omega)
  have HN0 := Lib.hid h0
  have HN1 := Lib.hid h1
  clear h0 h1
  go_enter Tryz.func62, Tryz.ntmps62
  go_wp2_with fail
  go_loopw [3, 14] (fun _ i wr => ∃ k, k ≤ n ∧ i = .int .i64 (k : Nat) ∧ (∀ j, j < k → good s j = true) ∧ wr = w) (fun _ i _ => n - (intOf i).toNat)
  case atStart => exact ⟨0, Nat.zero_le _, rfl, fun j hj => by omega, by first | rfl | trivial⟩
  case round =>
    obtain ⟨k, hk, rfl, hall, rfl⟩ := hrel
    have HALL := Lib.hid hall
    clear hall
    by_cases hkn : k < n
    · have hi := fun (y : World) => HQ.out y k (by rw [← HN.out]; exact hkn)
      obtain ⟨b, hb⟩ : ∃ b, b = by8 s k := ⟨_, rfl⟩
      have hbl := by8_lt s k
      rw [← hb] at hi hbl
      have HB := Lib.hid hb
      clear hb
      by_cases hf : 32 ≤ b ∧ b ≠ 127
      · obtain ⟨f1, f2⟩ := hf
        have HG : good s k = true := by unfold good; rw [← HB.out, decide_eq_true f1, decide_eq_true f2]; rfl
        have q1 : decide ((b : Int) < 32) = false := decide_eq_false (by omega)
        have q2 : ((b : Int) == 127) = false := by simp; omega
        go_wp2_with fail
        go_roundw
        case rel =>
          refine ⟨k + 1, by omega, by go_num, fun j hj => ?_, by first | rfl | trivial⟩
          by_cases e : j = k
          · rw [e]; exact HG
          · exact HALL.out j (by omega)
        case measure => simp [intOf]; omega
      · have e1 : A = false := by
          rw [HA.out, isNm]
          apply decide_eq_false
          rintro ⟨-, -, a⟩
          have := a k (by rw [← HN.out]; exact hkn)
          unfold good at this
          rw [← HB.out] at this
          simp at this
          exact hf this
        by_cases f1 : b < 32
        · have q1 : decide ((b : Int) < 32) = true := decide_eq_true (by omega)
          clear hf f1
          subst e1
          go_wp2_with fail
          go_ret
          trivial
        · have q1 : decide ((b : Int) < 32) = false := decide_eq_false (by omega)
          have q2 : ((b : Int) == 127) = true := by simp; omega
          clear hf f1
          subst e1
          go_wp2_with fail
          go_ret
          trivial
    · obtain rfl : k = n := by omega
      have e1 : A = true := by
        rw [HA.out, isNm]
        apply decide_eq_true
        have a := HN.out
        have b := HN0.out
        have c := HN1.out
        exact ⟨by omega, by omega, fun j hj => HALL.out j (by omega)⟩
      subst e1
      clear hkn
      go_wp2_with fail
      go_ret
      trivial
end Jw
end Go.Proofs.YtdaknlmnelfedaaGreatDoor
