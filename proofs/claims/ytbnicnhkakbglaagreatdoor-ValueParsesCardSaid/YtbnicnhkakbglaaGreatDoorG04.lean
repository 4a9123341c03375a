import Derived.Shelf.Small.Wraps
import Derived.Shelf.Strings.BuilderK
import Derived.Shelf.LaysM
import Derived.Shelf.Strconv.Clone
import Derived.Test.YtbnicnhkakbglaaGreatDoorProg
import Derived.Test.YtbnicnhkakbglaaGreatDoorG03
import Derived.RegionTactic
import Derived.Deep.RegionHeld
import Derived.BigQuiet

/- Contracts of Go's library at this program. -/
namespace Go.Proofs
open Go.Shelf
def Tryz.lays103_ren : Go.Shelf.Ren := ⟨fun | 103 => 259 | 210 => 262 | 206 => 144 | n => n, fun | 9 => 9 | 4 => 4 | 24 => 66 | 3 => 3 | n => n, fun | n => n⟩
theorem Tryz.lays103 : Go.Proofs.Lays.n103 Tryz.prog Tryz.lays103_ren := {
  mixed := by kernel_rfl
  f103 := Tryz.func259.trans (congrArg some (by kernel_rfl))
  f206 := Tryz.func144.trans (congrArg some (by kernel_rfl))
  f210 := Tryz.func262.trans (congrArg some (by kernel_rfl))
  t3 := Tryz.underlying3
  a3 := Tryz.isAgg3
  z3 := Tryz.sizeOf3
  v3 := Tryz.zeroValue3
  t4 := Tryz.underlying4
  a4 := Tryz.isAgg4
  z4 := Tryz.sizeOf4
  v4 := Tryz.zeroValue4
  t9 := Tryz.underlying9
  a9 := Tryz.isAgg9
  z9 := Tryz.sizeOf9
  v9 := Tryz.zeroValue9
  t24 := Tryz.underlying66
  a24 := Tryz.isAgg66
  z24 := Tryz.sizeOf66
  v24 := Tryz.zeroValue66 }
open Go.RowKit in
theorem Tryz.strings_CutPrefix (s p : ByteArray) (w : World) :
    Calls Tryz.prog 259 #[.string s, .string p] w fun e w' => e = .returned (.tuple #[.string ⟨(Lib.trimPrefix s.data.toList p.data.toList).toArray⟩, .bool (Lib.hasPrefix s.data.toList p.data.toList)]) ∧ w' = w := Any.strings_CutPrefix Tryz.lays103 s p w
def Tryz.lays167_ren : Go.Shelf.Ren := ⟨fun | 167 => 79 | 240 => 122 | 276 => 171 | n => n, fun | 0 => 0 | 4 => 4 | 5 => 5 | 9 => 9 | 20 => 20 | 37 => 58 | 70 => 119 | 72 => 121 | 75 => 71 | 164 => 189 | 80 => 124 | n => n, fun | n => n⟩
theorem Tryz.lays167 : Go.Proofs.Lays.n167 Tryz.prog Tryz.lays167_ren := {
  mixed := by kernel_rfl
  f167 := Tryz.func79.trans (congrArg some (by kernel_rfl))
  f240 := Tryz.func122.trans (congrArg some (by kernel_rfl))
  f276 := Tryz.func171.trans (congrArg some (by kernel_rfl))
  t0 := Tryz.underlying0
  a0 := Tryz.isAgg0
  z0 := Tryz.sizeOf0
  v0 := Tryz.zeroValue0
  t4 := Tryz.underlying4
  a4 := Tryz.isAgg4
  z4 := Tryz.sizeOf4
  v4 := Tryz.zeroValue4
  t5 := Tryz.underlying5
  a5 := Tryz.isAgg5
  z5 := Tryz.sizeOf5
  v5 := Tryz.zeroValue5
  t9 := Tryz.underlying9
  a9 := Tryz.isAgg9
  z9 := Tryz.sizeOf9
  v9 := Tryz.zeroValue9
  t20 := Tryz.underlying20
  a20 := Tryz.isAgg20
  z20 := Tryz.sizeOf20
  v20 := Tryz.zeroValue20
  t37 := Tryz.underlying58
  a37 := Tryz.isAgg58
  z37 := Tryz.sizeOf58
  v37 := Tryz.zeroValue58
  t70 := Tryz.underlying119
  a70 := Tryz.isAgg119
  z70 := Tryz.sizeOf119
  v70 := Tryz.zeroValue119
  t72 := Tryz.underlying121
  a72 := Tryz.isAgg121
  z72 := Tryz.sizeOf121
  v72 := Tryz.zeroValue121
  t75 := Tryz.underlying71
  a75 := Tryz.isAgg71
  z75 := Tryz.sizeOf71
  v75 := Tryz.zeroValue71
  t164 := Tryz.underlying189
  a164 := Tryz.isAgg189
  z164 := Tryz.sizeOf189
  v164 := Tryz.zeroValue189 }
theorem Tryz.Builder_Extra_167 : Builder.Extra Tryz.prog Tryz.lays167_ren := {
  sizeBuilder := by kernel_rfl
  liesBuilder := by kernel_rfl
  t5 := Tryz.underlying5
  a5 := Tryz.isAgg5
  z5 := Tryz.sizeOf5
  v5 := Tryz.zeroValue5
  infoByte := by kernel_rfl
  cellsByte := by kernel_rfl
  sizeByte := by kernel_rfl
  neB5 := by decide }
open Go.RowKit in
theorem Tryz.Builder_WriteByte_k (B b : Nat) (bs : List Value) (c : Int) (w : World) (h : Lib.IsBuilderF 121 5 B b bs w) (hlen : bs.length + 1 ≤ 140737488355328) (hBw : B ≤ w.heap.size) :
    Calls Tryz.prog 79 #[.pointer (some ⟨b, 0, none⟩), .int .u8 c] w fun e w' => e = .returned .nilIface ∧ (Lib.BuilderAtF 121 5 B b (.pointer (some ⟨b, 0, none⟩)) (bs ++ [.int .u8 c]) w' ∧ Below B w w' ∧ Lib.OthersKept 5 (some b) w w') := Any.Builder_WriteByte_k Tryz.lays167 Tryz.Builder_Extra_167 B b bs c w h hlen hBw
def Tryz.lays169_ren : Go.Shelf.Ren := ⟨fun | 169 => 80 | n => n, fun | 70 => 119 | 9 => 9 | 0 => 0 | 72 => 121 | 37 => 58 | 127 => 150 | 3 => 3 | 5 => 5 | n => n, fun | n => n⟩
theorem Tryz.lays169 : Go.Proofs.Lays.n169 Tryz.prog Tryz.lays169_ren := {
  mixed := by kernel_rfl
  f169 := Tryz.func80.trans (congrArg some (by kernel_rfl))
  t0 := Tryz.underlying0
  a0 := Tryz.isAgg0
  z0 := Tryz.sizeOf0
  v0 := Tryz.zeroValue0
  t3 := Tryz.underlying3
  a3 := Tryz.isAgg3
  z3 := Tryz.sizeOf3
  v3 := Tryz.zeroValue3
  t9 := Tryz.underlying9
  a9 := Tryz.isAgg9
  z9 := Tryz.sizeOf9
  v9 := Tryz.zeroValue9
  t37 := Tryz.underlying58
  a37 := Tryz.isAgg58
  z37 := Tryz.sizeOf58
  v37 := Tryz.zeroValue58
  t70 := Tryz.underlying119
  a70 := Tryz.isAgg119
  z70 := Tryz.sizeOf119
  v70 := Tryz.zeroValue119
  t72 := Tryz.underlying121
  a72 := Tryz.isAgg121
  z72 := Tryz.sizeOf121
  v72 := Tryz.zeroValue121
  t127 := Tryz.underlying150
  a127 := Tryz.isAgg150
  z127 := Tryz.sizeOf150
  v127 := Tryz.zeroValue150 }
theorem Tryz.Builder_Extra_169 : Builder.Extra Tryz.prog Tryz.lays169_ren := {
  sizeBuilder := by kernel_rfl
  liesBuilder := by kernel_rfl
  t5 := Tryz.underlying5
  a5 := Tryz.isAgg5
  z5 := Tryz.sizeOf5
  v5 := Tryz.zeroValue5
  infoByte := by kernel_rfl
  cellsByte := by kernel_rfl
  sizeByte := by kernel_rfl
  neB5 := by decide }
open Go.RowKit in
theorem Tryz.Builder_String_any_k (B b : Nat) (l : List UInt8) (w : World) (h : Lib.IsBuilderF 121 5 B b (Lib.byteCells l) w) (hBw : B ≤ w.heap.size) :
    Calls Tryz.prog 80 #[.pointer (some ⟨b, 0, none⟩)] w fun e w' => e = .returned (.string ⟨l.toArray⟩) ∧ (Lib.IsBuilderF 121 5 B b (Lib.byteCells l) w' ∧ Below B w w' ∧ Lib.OthersKept 5 (some b) w w') := Any.Builder_String_any_k Tryz.lays169 Tryz.Builder_Extra_169 B b l w h hBw
def Tryz.laysM316_ren : Go.Shelf.Ren := ⟨fun | 316 => 142 | n => n, fun | 9 => 9 | 3 => 3 | 4 => 4 | 37 => 58 | 0 => 0 | 127 => 150 | 5 => 5 | n => n, fun | n => n⟩
theorem Tryz.laysM316 : Go.Proofs.LaysM.n316 Tryz.prog Tryz.laysM316_ren := {
  mixed := by kernel_rfl
  f316 := Tryz.func142.trans (congrArg some (by kernel_rfl))
  t0 := Tryz.underlying0
  a0 := Tryz.isAgg0
  z0 := Tryz.sizeOf0
  v0 := Tryz.zeroValue0
  t3 := Tryz.underlying3
  a3 := Tryz.isAgg3
  z3 := Tryz.sizeOf3
  v3 := Tryz.zeroValue3
  t4 := Tryz.underlying4
  a4 := Tryz.isAgg4
  z4 := Tryz.sizeOf4
  v4 := Tryz.zeroValue4
  t9 := Tryz.underlying9
  a9 := Tryz.isAgg9
  z9 := Tryz.sizeOf9
  v9 := Tryz.zeroValue9
  t37 := Tryz.underlying58
  a37 := Tryz.isAgg58
  z37 := Tryz.sizeOf58
  v37 := Tryz.zeroValue58
  t127 := Tryz.underlying150
  a127 := Tryz.isAgg150
  z127 := Tryz.sizeOf150
  v127 := Tryz.zeroValue150
  t5 := Tryz.underlying5
  a5 := Tryz.isAgg5
  z5 := Tryz.sizeOf5
  v5 := Tryz.zeroValue5
  i0 := by kernel_rfl
  i3 := by kernel_rfl
  i4 := by kernel_rfl
  i5 := by kernel_rfl
  i9 := by kernel_rfl
  i37 := by kernel_rfl
  i127 := by kernel_rfl }
open Go.RowKit in
theorem Tryz.stringslite_Clone (s : ByteArray) (w : World) (hlim : s.size ≤ 281474976710656) :
    Calls Tryz.prog 142 #[.string s] w fun e w' => e = .returned (.string s) ∧ Below w.heap.size w w' := Any.stringslite_Clone Tryz.laysM316 s w hlim
end Go.Proofs

/- Escapes; names. -/
namespace Go.Proofs.YtbnicnhkakbglaaGreatDoor
open Go.RowKit
namespace Sc
open Jb Sa Sb

set_option maxRecDepth 100000 in
theorem isEscaped29 (w : World) (c : Nat) : Calls Tryz.prog 121 #[.int .u8 (c : Nat)] w fun e w' => e = .returned (.bool (spn c)) ∧ w' = w := by
  obtain ⟨A, hA⟩ : ∃ A, A = spn c := ⟨_, rfl⟩
  rw [← hA]
  have HA := Lib.hid hA
  clear hA
  by_cases h1 : c = 44 ∨ c = 61 ∨ c = 32 ∨ c = 35 ∨ c = 92
  · have e : A = true := by rw [HA.out]; unfold spn; rcases h1 with h | h | h | h | h <;> rw [h] <;> rfl
    subst e
    clear HA
    rcases h1 with rfl | rfl | rfl | rfl | rfl <;>
    · go_enter Tryz.func121, Tryz.ntmps121
      go_wp2_with fail
      go_ret
      trivial
  · have e : A = false := by
      rw [HA.out]; unfold spn
      have : ∀ k, c ≠ k → (c == k) = false := fun k h => by simp [h]
      rw [this 44 (fun h => h1 (.inl h)), this 61 (fun h => h1 (.inr (.inl h))), this 32 (fun h => h1 (.inr (.inr (.inl h)))), this 35 (fun h => h1 (.inr (.inr (.inr (.inl h))))), this 92 (fun h => h1 (.inr (.inr (.inr (.inr h)))))]
      rfl
    have q1 : ((c : Int) == 44) = false := by simp; omega
    have q2 : ((c : Int) == 61) = false := by simp; omega
    have q3 : ((c : Int) == 32) = false := by simp; omega
    have q4 : ((c : Int) == 35) = false := by simp; omega
    have q5 : ((c : Int) == 92) = false := by simp; omega
    subst e
    clear HA h1
    go_enter Tryz.func121, Tryz.ntmps121
    go_wp2_with fail
    go_ret
    trivial
set_option maxRecDepth 100000 in
theorem special25 (w : World) (c : Nat) : Calls Tryz.prog 68 #[.int .u8 (c : Nat)] w fun e w' => e = .returned (.bool (spn c)) ∧ w' = w := by
  obtain ⟨A, hA⟩ : ∃ A, A = spn c := ⟨_, rfl⟩
  rw [← hA]
  have HA := Lib.hid hA
  clear hA
  by_cases h1 : c = 44 ∨ c = 61 ∨ c = 32 ∨ c = 35 ∨ c = 92
  · have e : A = true := by rw [HA.out]; unfold spn; rcases h1 with h | h | h | h | h <;> rw [h] <;> rfl
    subst e
    clear HA
    rcases h1 with rfl | rfl | rfl | rfl | rfl <;>
    · go_enter Tryz.func68, Tryz.ntmps68
      go_wp2_with fail
      go_ret
      trivial
  · have e : A = false := by
      rw [HA.out]; unfold spn
      have : ∀ k, c ≠ k → (c == k) = false := fun k h => by simp [h]
      rw [this 44 (fun h => h1 (.inl h)), this 61 (fun h => h1 (.inr (.inl h))), this 32 (fun h => h1 (.inr (.inr (.inl h)))), this 35 (fun h => h1 (.inr (.inr (.inr (.inl h))))), this 92 (fun h => h1 (.inr (.inr (.inr (.inr h)))))]
      rfl
    have q1 : ((c : Int) == 44) = false := by simp; omega
    have q2 : ((c : Int) == 61) = false := by simp; omega
    have q3 : ((c : Int) == 32) = false := by simp; omega
    have q4 : ((c : Int) == 35) = false := by simp; omega
    have q5 : ((c : Int) == 92) = false := by simp; omega
    subst e
    clear HA h1
    go_enter Tryz.func68, Tryz.ntmps68
    go_wp2_with fail
    go_ret
    trivial
set_option maxRecDepth 100000 in
/-- The program's test of names. -/
theorem isName23 (w : World) (s : ByteArray) (hs : s.size ≤ 140737488355328) : Calls Tryz.prog 120 #[.string s] w fun e w' => e = .returned (.bool (isNm s)) ∧ w' = w := by
  obtain ⟨A, hA⟩ : ∃ A, A = isNm s := ⟨_, rfl⟩
  rw [← hA]
  have hq := fun (y : World) (k : Nat) (hk : k < s.size) => idx y s k hk
  have HQ := Lib.hid hq
  have HA := Lib.hid hA
  obtain ⟨n, hn⟩ : ∃ n, n = s.size := ⟨_, rfl⟩
  have hlen : ∀ (ty : TypeId) (y : World), (Builtin.len_ #[9] ty #[.string s]).run Tryz.prog y = .ok (.int .i64 (n : Nat)) y := fun ty y => by rw [hn]; exact run_len_string y 9 ty s Tryz.underlying9
  rw [← hn] at hs
  have HN := Lib.hid hn
  clear hA hq hn
  by_cases h0 : n = 0
  · have e1 : A = false := by rw [HA.out, isNm]; apply decide_eq_false; rintro ⟨a, -⟩; have := HN.out; omega
    obtain rfl := nil_of (HN.out.symm.trans h0)
    subst h0 e1
    go_enter Tryz.func120, Tryz.ntmps120
    go_wp2_with fail
    go_ret
    trivial
  obtain ⟨es, es2⟩ := nil_no (f := s) (by
    intro e
    have h := HN.out
    rw [e] at h
    exact h0 h)
  have d1 : decide ((n : Int) < 1) = false := decide_eq_false (by omega)
  by_cases h1 : 64 < n
  · have e1 : A = false := by rw [HA.out, isNm]; apply decide_eq_false; rintro ⟨-, a, -⟩; have := HN.out; omega
    have d2 : decide ((n : Int) > 64) = true := decide_eq_true (by omega)
    subst e1
    clear h0 h1
    go_enter Tryz.func120, Tryz.ntmps120
    go_wp2_with fail
    go_ret
    trivial
  have d2 : decide ((n : Int) > 64) = false := decide_eq_false (by omega)
  have HN0 := Lib.hid h0
  have HN1 := Lib.hid h1
  clear h0 h1
  go_enter Tryz.func120, Tryz.ntmps120
  go_wp2_with fail
  go_loopw [3, 13] (fun _ i wr => ∃ k, k ≤ n ∧ i = .int .i64 (k : Nat) ∧ (∀ j, j < k → good s j = true) ∧ wr = w) (fun _ i _ => n - (intOf i).toNat)
  case atStart => exact ⟨0, Nat.zero_le _, rfl, fun j hj => by omega, by first | rfl | trivial⟩
  case round =>
    obtain ⟨k, hk, rfl, hall, rfl⟩ := hrel
    have HALL := Lib.hid hall
    clear hall
    by_cases hkn : k < n
    · have hi := fun (y : World) => HQ.out y k (by rw [← HN.out]; exact hkn)
      obtain ⟨b, hb⟩ : ∃ b, b = by8 s k := ⟨_, rfl⟩
      have hbl := by8_lt s k
      rw [← hb] at hi hbl
      have HB := Lib.hid hb
      clear hb
      by_cases hf : 32 ≤ b ∧ b ≠ 127
      · obtain ⟨f1, f2⟩ := hf
        have HG : good s k = true := by unfold good; rw [← HB.out, decide_eq_true f1, decide_eq_true f2]; rfl
        have q1 : decide ((b : Int) < 32) = false := decide_eq_false (by omega)
        have q2 : ((b : Int) == 127) = false := by simp; omega
        go_wp2_with fail
        go_roundw
        case rel =>
          refine ⟨k + 1, by omega, by go_num, fun j hj => ?_, by first | rfl | trivial⟩
          by_cases e : j = k
          · rw [e]; exact HG
          · exact HALL.out j (by omega)
        case measure => simp [intOf]; omega
      · have e1 : A = false := by
          rw [HA.out, isNm]
          apply decide_eq_false
          rintro ⟨-, -, a⟩
          have := a k (by rw [← HN.out]; exact hkn)
          unfold good at this
          rw [← HB.out] at this
          simp at this
          exact hf this
        by_cases f1 : b < 32
        · have q1 : decide ((b : Int) < 32) = true := decide_eq_true (by omega)
          clear hf f1
          subst e1
          go_wp2_with fail
          go_ret
          trivial
        · have q1 : decide ((b : Int) < 32) = false := decide_eq_false (by omega)
          have q2 : ((b : Int) == 127) = true := by simp; omega
          clear hf f1
          subst e1
          go_wp2_with fail
          go_ret
          trivial
    · obtain rfl : k = n := by omega
      have e1 : A = true := by
        rw [HA.out, isNm]
        apply decide_eq_true
        have a := HN.out
        have b := HN0.out
        have c := HN1.out
        exact ⟨by omega, by omega, fun j hj => HALL.out j (by omega)⟩
      subst e1
      clear hkn
      go_wp2_with fail
      go_ret
      trivial
set_option maxRecDepth 100000 in
theorem name24 (w : World) (s : ByteArray) (hs : s.size ≤ 140737488355328) : Calls Tryz.prog 35 #[.string s] w fun e w' => e = .returned (.bool (isNm s)) ∧ w' = w := by
  obtain ⟨A, hA⟩ : ∃ A, A = isNm s := ⟨_, rfl⟩
  rw [← hA]
  have hq := fun (y : World) (k : Nat) (hk : k < s.size) => idx y s k hk
  have HQ := Lib.hid hq
  have HA := Lib.hid hA
  obtain ⟨n, hn⟩ : ∃ n, n = s.size := ⟨_, rfl⟩
  have hlen : ∀ (ty : TypeId) (y : World), (Builtin.len_ #[9] ty #[.string s]).run Tryz.prog y = .ok (.int .i64 (n : Nat)) y := fun ty y => by rw [hn]; exact run_len_string y 9 ty s Tryz.underlying9
  rw [← hn] at hs
  have HN := Lib.hid hn
  clear hA hq hn
  go_enter Tryz.func35, Tryz.ntmps35
  go_wp2_with fail
  go_loopw [3] (fun i wr => ∃ k, k ≤ n ∧ i = .int .i64 (k : Nat) ∧ (∀ j, j < k → good s j = true) ∧ wr = w) (fun i _ => n - (intOf i).toNat)
  case atStart => exact ⟨0, Nat.zero_le _, rfl, fun j hj => by omega, by first | rfl | trivial⟩
  case round =>
    obtain ⟨k, hk, rfl, hall, rfl⟩ := hrel
    have HALL := Lib.hid hall
    clear hall
    by_cases hkn : k < n
    · have hi := fun (y : World) => HQ.out y k (by rw [← HN.out]; exact hkn)
      obtain ⟨b, hb⟩ : ∃ b, b = by8 s k := ⟨_, rfl⟩
      have hbl := by8_lt s k
      rw [← hb] at hi hbl
      have HB := Lib.hid hb
      clear hb
      by_cases hf : 32 ≤ b ∧ b ≠ 127
      · obtain ⟨f1, f2⟩ := hf
        have HG : good s k = true := by unfold good; rw [← HB.out, decide_eq_true f1, decide_eq_true f2]; rfl
        have q1 : decide ((b : Int) < 32) = false := decide_eq_false (by omega)
        have q2 : ((b : Int) == 127) = false := by simp; omega
        go_wp2_with fail
        go_roundw
        case rel =>
          refine ⟨k + 1, by omega, by go_num, fun j hj => ?_, by first | rfl | trivial⟩
          by_cases e : j = k
          · rw [e]; exact HG
          · exact HALL.out j (by omega)
        case measure => simp [intOf]; omega
      · have e1 : A = false := by
          rw [HA.out, isNm]
          apply decide_eq_false
          rintro ⟨-, -, a⟩
          have := a k (by rw [← HN.out]; exact hkn)
          unfold good at this
          rw [← HB.out] at this
          simp at this
          exact hf this
        by_cases f1 : b < 32
        · have q1 : decide ((b : Int) < 32) = true := decide_eq_true (by omega)
          clear hf f1
          subst e1
          go_wp2_with fail
          go_ret
          trivial
        · have q1 : decide ((b : Int) < 32) = false := decide_eq_false (by omega)
          have q2 : ((b : Int) == 127) = true := by simp; omega
          clear hf f1
          subst e1
          go_wp2_with fail
          go_ret
          trivial
    · have ek : n = k := by omega
      subst ek
      have e1 : A = decide (1 ≤ n ∧ n ≤ 64) := by
        rw [HA.out, isNm]
        have b := HN.out
        by_cases h : 1 ≤ n ∧ n ≤ 64
        · rw [decide_eq_true h]
          exact decide_eq_true ⟨by omega, by omega, fun j hj => HALL.out j (by omega)⟩
        · rw [decide_eq_false h]
          exact decide_eq_false fun h' => h ⟨by omega, by omega⟩
      clear hkn
      by_cases h1 : 1 ≤ n
      · by_cases h2 : n ≤ 64
        · rw [decide_eq_true ⟨h1, h2⟩] at e1
          subst e1
          go_wp2_with fail
          go_ret
          first | trivial | exact ⟨rfl, rfl⟩ | (simp; omega) | (simp; omega)
        · rw [decide_eq_false (fun h => h2 h.2)] at e1
          subst e1
          go_wp2_with fail
          go_ret
          first | trivial | exact ⟨rfl, rfl⟩ | (simp; omega) | (simp; omega)
      · have h0 : n = 0 := by omega
        rw [decide_eq_false (fun h => h1 h.1)] at e1
        subst e1 h0
        go_wp2_with fail
        go_ret
        first | trivial | exact ⟨rfl, rfl⟩
end Sc
end Go.Proofs.YtbnicnhkakbglaaGreatDoor

/- Names as texts. -/
namespace Go.Proofs.YtbnicnhkakbglaaGreatDoor
open Go.RowKit
namespace Sd
open Jb Sa Sb Sc

/-- A builder that holds these bytes. -/
def Bd (w : World) (B b : Nat) (l : List UInt8) : Prop := Lib.IsBuilderF 121 5 B b (Lib.byteCells l) w
theorem bd_new (w : World) : Bd (w.alloc (.cells #[.pointer none, .slice none 0 0] 121)) w.heap.size w.heap.size [] := Lib.IsBuilderF.of (Lib.fresh_isBuilder 121 5 w)
theorem bd_write {w : World} {B b : Nat} {l : List UInt8} (h : Bd w B b l) (c : UInt8) (hl : l.length + 1 ≤ 140737488355328) (hB : B ≤ w.heap.size) :
    Calls Tryz.prog 79 #[.pointer (some ⟨b, 0, none⟩), .int .u8 (c.toNat : Nat)] w fun e w' => e = .returned .nilIface ∧ Bd w' B b (l ++ [c]) ∧ Below B w w' ∧ Lib.OthersKept 5 (some b) w w' := by
  refine (Tryz.Builder_WriteByte_k B b _ _ w h (by rw [Lib.byteCells_length]; exact hl) hB).mono ?_
  rintro e w' ⟨rfl, h1, h2, h3⟩
  refine ⟨rfl, ?_, h2, h3⟩
  unfold Bd
  rw [Lib.byteCells_append]
  exact .inr h1
theorem bd_string {w : World} {B b : Nat} {l : List UInt8} (h : Bd w B b l) (hB : B ≤ w.heap.size) :
    Calls Tryz.prog 80 #[.pointer (some ⟨b, 0, none⟩)] w fun e w' => e = .returned (.string (ba l)) ∧ Bd w' B b l ∧ Below B w w' := by
  refine (Tryz.Builder_String_any_k B b l w h hB).mono ?_
  rintro e w' ⟨rfl, h1, h2, _⟩
  exact ⟨rfl, h1, h2⟩
set_option maxRecDepth 100000 in
theorem writeName20 (w : World) (B b : Nat) (pre : List UInt8) (s : ByteArray) (h : Bd w B b pre) (hl : pre.length + 2 * s.size ≤ 140737488355328) (hB : B ≤ w.heap.size) :
    Calls Tryz.prog 78 #[.pointer (some ⟨b, 0, none⟩), .string s] w fun e w' => e = .returned (.tuple #[]) ∧ Bd w' B b (pre ++ esc (bl s)) ∧ Below B w w' ∧ Lib.OthersKept 5 (some b) w w' := by
  have HQ := Lib.hid (fun (y : World) (k : Nat) (hk : k < s.size) => idx y s k hk)
  obtain ⟨n, hn⟩ : ∃ n, n = s.size := ⟨_, rfl⟩
  have hlen : ∀ (ty : TypeId) (y : World), (Builtin.len_ #[9] ty #[.string s]).run Tryz.prog y = .ok (.int .i64 (n : Nat)) y := fun ty y => by rw [hn]; exact run_len_string y 9 ty s Tryz.underlying9
  rw [← hn] at hl
  have HN := Lib.hid hn
  have H := Lib.hid h
  have EB := Lib.hid (fun (y : World) (c : Nat) => isEscaped29 y c)
  have hn9 : n ≤ 140737488355328 := by omega
  have HL := Lib.hid hl
  have HB := Lib.hid hB
  clear h hn hl hB
  go_enter Tryz.func78, Tryz.ntmps78
  go_wp2_with fail
  go_loopw [7] (fun i wr => ∃ k, k ≤ n ∧ i = .int .i64 (k : Nat) ∧ Hid (Bd wr B b (pre ++ esc ((bl s).take k))) ∧ Hid (Below B w wr) ∧ Hid (Lib.OthersKept 5 (some b) w wr)) (fun i _ => n - (intOf i).toNat)
  case atStart => exact ⟨0, Nat.zero_le _, rfl, Lib.hid (by simpa [esc] using H.out), Lib.hid (Below.refl _ _), Lib.hid (Lib.OthersKept.refl _ _ _)⟩
  case round =>
    obtain ⟨k, hk, rfl, HD, BW, KW⟩ := hrel
    by_cases hkn : k < n
    · have hi := fun (y : World) => HQ.out y k (by rw [← HN.out]; exact hkn)
      obtain ⟨c, hc1, hc2, hc3⟩ := drop_cons s k (by rw [← HN.out]; exact hkn)
      obtain ⟨q, hq⟩ : ∃ q, q = by8 s k := ⟨_, rfl⟩
      rw [← hq] at hi hc2
      have hk0 : (0 : Int) ≤ (k : Int) := by omega
      have hw : B ≤ wr.heap.size := Nat.le_trans HB.out BW.out.size
      have LT := Lib.hid (show (pre ++ esc ((bl s).take k)).length + 2 ≤ 140737488355328 by
        have h1 := (esc_len ((bl s).take k)).2
        have h2 := HL.out
        rw [List.length_append]
        rw [List.length_take, bl_len] at h1
        have : min k s.size ≤ k := Nat.min_le_left _ _
        omega)
      have EN := Lib.hid (show esc ((bl s).take (k + 1)) = esc ((bl s).take k) ++ (if sp c then [92, c] else [c]) by rw [hc3, esc_app, esc_one])
      have HW := Lib.hid hw
      by_cases hs : sp c = true
      · have hsn : spn q = true := by rw [← hc2]; exact hs
        have EE := Lib.hid (EN.out.trans (by rw [if_pos hs] : _ = esc ((bl s).take k) ++ [92, c]))
        have W1 := Lib.hid (bd_write HD.out 92 (by have := LT.out; omega) HW.out)
        have W2 := Lib.hid (fun (y : World) (hy : Bd y B b (pre ++ esc ((bl s).take k) ++ [92])) (hs : B ≤ y.heap.size) => (show Calls Tryz.prog 79 #[.pointer (some ⟨b, 0, none⟩), .int .u8 (q : Nat)] y _ from hc2 ▸ bd_write hy c (by have := LT.out; simp only [List.length_append, List.length_cons, List.length_nil] at this ⊢; omega) hs))
        have EQ := Lib.hid (show ∀ y, Calls Tryz.prog 121 #[.int .u8 (q : Nat)] y fun e w' => e = .returned (.bool true) ∧ w' = y from fun y => hsn ▸ EB.out y q)
        clear hq hc1 hc2 hc3 hw hs EN hsn EB
        go_wp2_with (first
          | (go_at_call 121; refine (EQ.out _).mono ?_; clear EQ; rintro e w1 ⟨rfl, rfl⟩)
          | (go_at_call 79; refine W1.out.mono ?_; clear W1; rintro e w2 ⟨rfl, d1, b1, k1⟩; have K1 := Lib.hid k1; clear k1; have D1 := Lib.hid d1; have B1 := Lib.hid b1; have S1 := Lib.hid (Nat.le_trans HW.out b1.size); clear d1 b1)
          | (go_at_call 79; refine (W2.out _ D1.out S1.out).mono ?_; clear W2; rintro e w3 ⟨rfl, d2, b2, k2⟩; have K2 := Lib.hid k2; clear k2; have D2 := Lib.hid d2; have B2 := Lib.hid b2; clear d2 b2))
        go_roundw
        case rel =>
          refine ⟨k + 1, by omega, by go_num, Lib.hid ?_, Lib.hid ((BW.out.trans (B1.out.mono (Nat.le_refl _))).trans B2.out), Lib.hid ((KW.out.trans K1.out).trans K2.out)⟩
          have := D2.out
          rw [List.append_assoc, List.append_assoc] at this
          rw [EE.out]
          exact this
        case measure => simp [intOf]; omega
      · have hs' : sp c = false := by simpa using hs
        have hsn : spn q = false := by rw [← hc2]; exact hs'
        have EE := Lib.hid (EN.out.trans (by rw [if_neg hs] : _ = esc ((bl s).take k) ++ [c]))
        have W1 := Lib.hid (show Calls Tryz.prog 79 #[.pointer (some ⟨b, 0, none⟩), .int .u8 (q : Nat)] wr _ from hc2 ▸ bd_write HD.out c (by have := LT.out; omega) HW.out)
        have EQ := Lib.hid (show ∀ y, Calls Tryz.prog 121 #[.int .u8 (q : Nat)] y fun e w' => e = .returned (.bool false) ∧ w' = y from fun y => hsn ▸ EB.out y q)
        clear hq hc1 hc2 hc3 hw hs EN hsn EB hs'
        go_wp2_with (first
          | (go_at_call 121; refine (EQ.out _).mono ?_; clear EQ; rintro e w1 ⟨rfl, rfl⟩)
          | (go_at_call 79; refine W1.out.mono ?_; clear W1; rintro e w2 ⟨rfl, d1, b1, k1⟩; have K1 := Lib.hid k1; clear k1; have D1 := Lib.hid d1; have B1 := Lib.hid b1; clear d1 b1))
        go_roundw
        case rel =>
          refine ⟨k + 1, by omega, by go_num, Lib.hid ?_, Lib.hid (BW.out.trans B1.out), Lib.hid (KW.out.trans K1.out)⟩
          have := D1.out
          rw [List.append_assoc] at this
          rw [EE.out]
          exact this
        case measure => simp [intOf]; omega
    · obtain rfl : k = n := by omega
      have DE := Lib.hid (show Bd wr B b (pre ++ esc (bl s)) by
        have := HD.out
        rwa [List.take_of_length_le (by rw [bl_len, ← HN.out]; exact Nat.le_refl _)] at this)
      clear hkn
      go_wp2_with fail
      refine bodyPost_end (v := .tuple #[]) (by simp [results, Tryz.results78, go_sem]) rfl ⟨rfl, DE.out, BW.out, KW.out⟩
set_option maxRecDepth 100000 in
theorem escape13 (w : World) (s : ByteArray) (hs : s.size ≤ 70368744177664) :
    Calls Tryz.prog 43 #[.string s] w fun e w' => e = .returned (.string (ba (esc (bl s)))) ∧ Below w.heap.size w w' := by
  obtain ⟨b, hb⟩ : ∃ b, b = w.heap.size := ⟨_, rfl⟩
  have HS := Lib.hid hs
  obtain ⟨w1, hw1⟩ : ∃ w1, w1 = w.alloc (.cells #[.pointer none, .slice none 0 0] 121) := ⟨_, rfl⟩
  have h1 : b ≤ w1.heap.size := by rw [hw1, hb]; simp
  have N1 := Lib.hid (show Below b w w1 by rw [hw1, hb]; exact (Below.refl _ w).alloc (Nat.le_refl _) _)
  have W := Lib.hid (writeName20 w1 b b [] s (by rw [hw1, hb]; exact bd_new w) (by simp; omega) h1)
  have H1 := Lib.hid h1
  have HBB := Lib.hid hb
  clear hs h1
  go_enter Tryz.func43, Tryz.ntmps43
  go_upto_region 2 with (fail)
  rw [← hw1, ← hb]
  clear hw1 hb
  go_wp2_with (first
    | (go_at_call 78; refine W.out.mono ?_; clear W; rintro e w2 ⟨rfl, d, b2, _⟩; have D := Lib.hid d; have B2 := Lib.hid b2; have S2 := Lib.hid (Nat.le_trans H1.out b2.size); clear d b2)
    | (go_at_call 80; refine (bd_string D.out S2.out).mono ?_; rintro e w3 ⟨rfl, d, b3⟩; have B3 := Lib.hid b3; clear d b3))
  go_ret
  exact ⟨rfl, HBB.out ▸ (N1.out.trans B2.out).trans B3.out⟩
end Sd
end Go.Proofs.YtbnicnhkakbglaaGreatDoor

/- Formed, of both sides. -/
namespace Go.Proofs.YtbnicnhkakbglaaGreatDoor
open Go.RowKit
namespace Se
open Jb Sa Sb Sc Sd

theorem wr64 (m : Nat) (h : m ≤ 9223372036854775807) : IntKind.i64.wrap ((m : Nat) : Int) = ((m : Nat) : Int) := by rw [IntWalk.i64_in]; omega
theorem bdn {B : Nat} {a w : World} (h : Below B a w) (n : Nat) : Below B a (w.drewN n) := ⟨h.os, h.tape, h.output, h.size, h.block⟩
theorem new_cell (w : World) (vs : Array Value) (t : TypeId) (i : Nat) (v : Value) (h : vs[i]? = some v) : (w.alloc (.cells vs t)).cell? ⟨w.heap.size, i, none⟩ = some v := by
  rw [cell_of_row _ _ _ _ _ _ (heap_alloc_new _ _)]; exact h

theorem fm_no1 {s : Sr} (h : isNm s.1 = false) : fm s = false := by simp [fm, h]
theorem fm_no2 {s : Sr} (h : ¬ s.2.length ≤ 8) : fm s = false := by simp [fm, h]
theorem fm_no3 {s : Sr} {i : Nat} (hi : i < s.2.length) (h : tagOk s.2 i = false) : fm s = false := by
  unfold fm
  rw [decide_eq_false (p := ∀ i, i < s.2.length → tagOk s.2 i = true) (fun g => by rw [g i hi] at h; cases h)]
  simp
theorem fm_yes {s : Sr} (h1 : isNm s.1 = true) (h2 : s.2.length ≤ 8) (h3 : ∀ i, i < s.2.length → tagOk s.2 i = true) : fm s = true := by
  unfold fm
  rw [h1, decide_eq_true h2, decide_eq_true h3]
  rfl
/-- A tag by its parts. -/
theorem tagOk_at {L : List Tg} {k : Nat} {a b : ByteArray} (h : L.getD k t0 = (a, b)) : tagOk L k = (isNm a && isNm b && (decide (k = 0) || lt (L.getD (k - 1) t0).1 a)) := by
  unfold tagOk; rw [h]
set_option maxRecDepth 100000 in
theorem formed11 (w : World) (nm : ByteArray) (v : Value) (L : List Tg) (h : Ti w v L) (hn : nm.size ≤ 140737488355328) (hz : ∀ x ∈ L, x.1.size ≤ 140737488355328 ∧ x.2.size ≤ 140737488355328) (hl : L.length ≤ 140737488355328) :
    Calls Tryz.prog 76 #[.agg #[.string nm, v]] w fun e w' => e = .returned (.bool (fm (nm, L))) ∧ Below w.heap.size w w' := by
  obtain ⟨a, c, rfl, hg⟩ := h.get
  obtain ⟨n, hN⟩ : ∃ n, n = L.length := ⟨_, rfl⟩
  obtain ⟨A, hA⟩ : ∃ A, A = fm (nm, L) := ⟨_, rfl⟩
  have HA := Lib.hid hA
  have HG := Lib.hid hg
  have HN := Lib.hid hN
  have HZ := Lib.hid hz
  have NM := Lib.hid (fun (y : World) => isName23 y nm hn)
  rw [← hA]
  rw [← hN] at HG hl ⊢
  obtain ⟨W, hW⟩ : ∃ W, W = w.alloc (.cells #[.string nm, .slice a n c] 32) := ⟨_, rfl⟩
  have c0 : W.cell? ⟨w.heap.size, 0, none⟩ = some (.string nm) := by rw [hW]; exact new_cell _ _ _ 0 _ rfl
  have c1 : W.cell? ⟨w.heap.size, 1, none⟩ = some (.slice a n c) := by rw [hW]; exact new_cell _ _ _ 1 _ rfl
  have bW := Lib.hid (show Below w.heap.size w W by rw [hW]; exact (Below.refl _ w).alloc (Nat.le_refl _) _)
  have sW : W.heap.size = w.heap.size + 1 := by rw [hW]; simp
  obtain ⟨x, hx⟩ : ∃ x, x = w.heap.size := ⟨_, rfl⟩
  have HX := Lib.hid hx
  have SW := Lib.hid sW
  clear h hg hN hA hz hn sW
  by_cases q1 : isNm nm = true
  case neg =>
    have q1' : isNm nm = false := by simpa using q1
    have e : A = false := by rw [HA.out]; exact fm_no1 q1'
    subst e
    rw [q1'] at NM
    rw [← hx] at c0 c1
    go_enter Tryz.func76, Tryz.ntmps76
    go_upto_region 1 with (fail)
    rw [← hW, ← hx]
    clear hW hx
    go_wp2_with (go_at_call 120; refine (NM.out _).mono ?_; clear NM; rintro e W ⟨rfl, rfl⟩)
    go_ret
    exact ⟨rfl, bW.out⟩
  rw [q1] at NM
  rw [← hx] at c0 c1
  go_enter Tryz.func76, Tryz.ntmps76
  go_upto_region 1 with (fail)
  rw [← hW, ← hx]
  clear hW
  by_cases q2 : n ≤ 8
  case neg =>
    have e : A = false := by rw [HA.out]; exact fm_no2 (by rw [← HN.out]; exact q2)
    have d : decide ((n : Int) > 8) = true := decide_eq_true (by omega)
    subst e
    clear hx q2
    go_wp2_with (go_at_call 120; refine (NM.out _).mono ?_; clear NM; rintro e W ⟨rfl, rfl⟩)
    go_ret
    exact ⟨rfl, bW.out⟩
  have d : decide ((n : Int) > 8) = false := decide_eq_false (by omega)
  clear hx
  go_wp2_with (go_at_call 120; refine (NM.out _).mono ?_; clear NM; rintro e W ⟨rfl, rfl⟩)
  have C0 := Lib.hid c0
  have C1 := Lib.hid c1
  clear c0 c1
  go_loopw [3, 4, 18] (fun _ _ i wr => ∃ k : Nat, k ≤ n ∧ i = .int .i64 (k : Nat) ∧ Hid (∀ j, j < k → tagOk L j = true) ∧ Hid (Below W.heap.size W wr)) (fun _ _ i _ => n - (intOf i).toNat)
  case atStart => exact ⟨0, Nat.zero_le _, rfl, Lib.hid (fun j hj => by omega), Lib.hid (Below.refl _ _)⟩
  case round =>
    obtain ⟨k, hk, rfl, HA2, BW⟩ := hrel
    by_cases hkn : k < n
    case neg =>
      obtain rfl : k = n := by omega
      have e : A = true := by rw [HA.out]; exact fm_yes q1 (by rw [← HN.out]; exact q2) (fun i hi => HA2.out i (by rw [HN.out]; exact hi))
      subst e
      clear hkn
      go_wp2_with fail
      go_ret
      exact ⟨rfl, bW.out.trans (BW.out.mono (by rw [SW.out]; omega))⟩
    obtain ⟨b, off, rfl, hnc, hb, hT⟩ := HG.out k hkn
    have bwr := bW.out.trans (BW.out.mono (by rw [SW.out]; omega))
    obtain ⟨x0, x1⟩ := hT wr bwr
    obtain ⟨⟨ka, va⟩, hkv⟩ : ∃ y, y = L.getD k t0 := ⟨_, rfl⟩
    rw [← hkv] at x0 x1
    have TO := Lib.hid (tagOk_at hkv.symm)
    obtain ⟨za, zb⟩ : (ka.size ≤ 140737488355328) ∧ (va.size ≤ 140737488355328) := by
      have hm : L.getD k t0 ∈ L := by
        have hk2 : k < L.length := by rw [← HN.out]; exact hkn
        rw [List.getD_eq_getElem?_getD, List.getElem?_eq_getElem hk2]; exact List.getElem_mem hk2
      rw [← hkv] at hm
      exact HZ.out _ hm
    have HT := Lib.hid hT
    have NK := Lib.hid (fun (y : World) => isName23 y ka za)
    have NV := Lib.hid (fun (y : World) => isName23 y va zb)
    have BWR := Lib.hid bwr
    have HKV := Lib.hid hkv
    have hk0 : (0 : Int) ≤ (k : Int) := by omega
    clear bwr hkv hT za zb
    go_upto_region 6 with (fail)
    obtain ⟨wa, hwa⟩ : ∃ wa, wa = wr.alloc (.cells #[.string ka, .string va] 81) := ⟨_, rfl⟩
    obtain ⟨y, hy⟩ : ∃ y, y = wr.heap.size := ⟨_, rfl⟩
    have y0 : wa.cell? ⟨y, 0, none⟩ = some (.string ka) := by rw [hwa, hy]; exact new_cell _ _ _ 0 _ rfl
    have y1 : wa.cell? ⟨y, 1, none⟩ = some (.string va) := by rw [hwa, hy]; exact new_cell _ _ _ 1 _ rfl
    have ba : Below wr.heap.size wr wa := by rw [hwa]; exact (Below.refl _ wr).alloc (Nat.le_refl _) _
    have bWa := BW.out.trans (ba.mono BW.out.size)
    have bwa := bW.out.trans (bWa.mono (by rw [SW.out]; omega))
    have z0 : wa.cell? ⟨x, 0, none⟩ = some (.string nm) := (bWa.cell (p := ⟨x, 0, none⟩) (by rw [SW.out, ← HX.out]; exact Nat.lt_succ_self _)).trans C0.out
    have z1 : wa.cell? ⟨x, 1, none⟩ = some (.slice (some ⟨b, off, none⟩) n c) := (bWa.cell (p := ⟨x, 1, none⟩) (by rw [SW.out, ← HX.out]; exact Nat.lt_succ_self _)).trans C1.out
    have hp : ∃ kp : ByteArray, (0 < k → wa.cell? ⟨b, off + (k - 1) * 2, none⟩ = some (.string kp)) ∧ kp = (L.getD (k - 1) t0).1 := by
      refine ⟨(L.getD (k - 1) t0).1, fun h0 => ?_, rfl⟩
      obtain ⟨b', off', e, _, _, hT'⟩ := HG.out (k - 1) (by omega)
      cases e
      exact (hT' wa bwa).1
    obtain ⟨kp, hp0, hkp⟩ := hp
    rw [← hwa, ← hy]
    have BWa := Lib.hid bWa
    have Bwa := Lib.hid bwa
    have HKP := Lib.hid hkp
    clear hwa hy ba bWa bwa hkp x0 x1
    have TO2 := Lib.hid (show tagOk L k = (isNm ka && isNm va && (decide (k = 0) || lt kp ka)) by rw [HKP.out]; exact TO.out)
    clear TO
    have BAD := Lib.hid (fun (h : tagOk L k = false) => (HA.out.trans (fm_no3 (s := (nm, L)) (by rw [← HN.out]; exact hkn) h) : A = false))
    by_cases q3 : isNm ka = true
    case neg =>
      have q3' : isNm ka = false := by simpa using q3
      rw [q3'] at NK
      have e := BAD.out (by rw [TO2.out, q3']; rfl)
      subst e
      go_wp2_with (first
        | (go_at_call 120; refine (NK.out _).mono ?_; clear NK; rintro e wa ⟨rfl, rfl⟩))
      go_ret
      exact ⟨rfl, Bwa.out⟩
    rw [q3] at NK
    by_cases q4 : isNm va = true
    case neg =>
      have q4' : isNm va = false := by simpa using q4
      rw [q4'] at NV
      have e := BAD.out (by rw [TO2.out, q3, q4']; rfl)
      subst e
      go_wp2_with (first
        | (go_at_call 120; refine (NK.out _).mono ?_; clear NK; rintro e wa ⟨rfl, rfl⟩)
        | (go_at_call 120; refine (NV.out _).mono ?_; clear NV; rintro e wa ⟨rfl, rfl⟩))
      go_ret
      exact ⟨rfl, Bwa.out⟩
    rw [q4] at NV
    by_cases h0 : k = 0
    · have d0 : decide ((k : Int) > 0) = false := decide_eq_false (by omega)
      have d1 : decide (0 < (k : Int)) = false := decide_eq_false (by omega)
      have d2 : decide (0 < k) = false := decide_eq_false (by omega)
      have ok := Lib.hid (show tagOk L k = true by rw [TO2.out, q3, q4, decide_eq_true h0]; rfl)
      clear h0
      go_wp2_with (first
        | (go_at_call 120; refine (NK.out _).mono ?_; clear NK; rintro e wa ⟨rfl, rfl⟩)
        | (go_at_call 120; refine (NV.out _).mono ?_; clear NV; rintro e wa ⟨rfl, rfl⟩))
      go_quiet (fail)
      go_wp2_with fail
      go_roundw
      case rel =>
        refine ⟨k + 1, by omega, by go_num, Lib.hid fun j hj => ?_, Lib.hid (bdn BWa.out _)⟩
        by_cases e : j = k
        · rw [e]; exact ok.out
        · exact HA2.out j (by omega)
      case measure => simp [intOf]; omega
    · have d0 : decide ((k : Int) > 0) = true := decide_eq_true (by omega)
      have d1 : decide (0 < (k : Int)) = true := decide_eq_true (by omega)
      have d2 : decide (0 < k) = true := decide_eq_true (by omega)
      have p0 := hp0 (by omega)
      have hk1 : IntKind.i64.wrap ((k : Int) - 1) = ((k - 1 : Nat) : Int) := by
        have : ((k : Int) - 1) = ((k - 1 : Nat) : Int) := by omega
        rw [this]
        exact wr64 _ (by omega)
      have kn1 : k - 1 < n := by omega
      have HK0 := Lib.hid h0
      clear h0 hp0
      by_cases q5 : lt kp ka = true
      · have ok := Lib.hid (show tagOk L k = true by rw [TO2.out, q3, q4, q5]; simp)
        have l1 : Op.bytesLess kp.toList ka.toList = true := q5
        clear q5
        go_wp2_with (first
          | (go_at_call 120; refine (NK.out _).mono ?_; clear NK; rintro e wa ⟨rfl, rfl⟩)
          | (go_at_call 120; refine (NV.out _).mono ?_; clear NV; rintro e wa ⟨rfl, rfl⟩))
        go_quiet (fail)
        go_wp2_with fail
        go_roundw
        case rel =>
          refine ⟨k + 1, by omega, by go_num, Lib.hid fun j hj => ?_, Lib.hid (bdn BWa.out _)⟩
          by_cases e : j = k
          · rw [e]; exact ok.out
          · exact HA2.out j (by omega)
        case measure => simp [intOf]; omega
      · have q5' : lt kp ka = false := by simpa using q5
        have l1 : Op.bytesLess kp.toList ka.toList = false := q5'
        have e := BAD.out (by rw [TO2.out, q3, q4, q5', decide_eq_false HK0.out]; rfl)
        subst e
        clear q5 q5'
        go_wp2_with (first
          | (go_at_call 120; refine (NK.out _).mono ?_; clear NK; rintro e wa ⟨rfl, rfl⟩)
          | (go_at_call 120; refine (NV.out _).mono ?_; clear NV; rintro e wa ⟨rfl, rfl⟩))
        go_quiet (fail)
        go_wp2_with fail
        go_ret
        exact ⟨rfl, bdn Bwa.out _⟩
end Se
end Go.Proofs.YtbnicnhkakbglaaGreatDoor
