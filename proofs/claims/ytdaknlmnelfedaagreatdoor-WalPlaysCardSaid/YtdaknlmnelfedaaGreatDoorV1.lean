/- The log's names: the walks. -/
import Derived.Test.YtdaknlmnelfedaaGreatDoorShw
import Derived.Test.YtdaknlmnelfedaaGreatDoorWx
import Derived.Lib.LaidTab
import Derived.Lib.AppendIntMem
namespace Go.Proofs.YtdaknlmnelfedaaGreatDoor
open Go.RowKit
namespace V1
open Jb Jd J1 W1 W2 W3

def Tab (w : World) : Prop := Lib.TabIs Tryz.prog w "internal/strconv.uint64pow10" .u64 Lib.pow10Tab
theorem cat {p : List UInt8} (l : List UInt8) : (nm p) ++ (⟨l.toArray⟩ : ByteArray) = nm (p ++ l) := by
  apply ByteArray.ext
  simp [nm]
theorem itoa_dig (n : Nat) : (⟨(Lib.itoa (n : Int)).toArray⟩ : ByteArray) = nm (Lib.decDigits n) := by rw [Lib.itoa_nonneg]; rfl
theorem fmt (w : World) (hT : Tab w) (n : Nat) (h : Sm n) : Calls Tryz.prog 59 #[.int .i64 (n : Nat), .int .i64 10] w fun e w' => e = .returned (.string (nm (Lib.decDigits n))) ∧ Below w.heap.size w w' := by
  refine (Tryz.strconv_FormatInt_10 (n : Int) (by omega) (by unfold Sm at h; omega) w hT).mono ?_
  rintro e w' ⟨rfl, k, os, rfl⟩
  rw [itoa_dig]
  exact ⟨rfl, Lib.below_grow _ _ (Nat.le_refl _) _ _⟩
theorem epB : ({ data := #[119, 97, 108, 46, 101, 110, 116, 114, 121, 46] } : ByteArray) = nm ep := rfl
theorem mpB : ({ data := #[119, 97, 108, 46, 102, 105, 114, 115, 116, 46] } : ByteArray) = nm mp := rfl
theorem fits (n : Nat) (h : Sm n) : ¬ 9223372036854775807 < 10 + (nm (Lib.decDigits n)).size := by
  rw [nm_size]
  have := nDig_le 18 n (by have e : (10 : Nat) ^ (18 + 1) = 10000000000000000000 := by decide
                           unfold Sm at h; omega)
  omega
theorem ent26 (w : World) (hT : Tab w) (n : Nat) (h : Sm n) : Calls Tryz.prog 44 #[.int .i64 (n : Nat)] w fun e w' => e = .returned (.string (ent n)) ∧ Below w.heap.size w w' := by
  have F := Lib.hid (fmt w hT n h)
  have hsz := fits n h
  have e1 : ({ data := #[119, 97, 108, 46, 101, 110, 116, 114, 121, 46] } : ByteArray) ++ nm (Lib.decDigits n) = ent n := cat (p := ep) (Lib.decDigits n)
  clear hT h
  go_enter Tryz.func44, Tryz.ntmps44
  go_wp2_with (go_at_call 59; refine (F.out).mono ?_; rintro e w' ⟨rfl, hb⟩)
  go_ret
  first | exact ⟨by rw [e1], hb⟩ | exact ⟨rfl, hb⟩ | exact hb
theorem mrk34 (w : World) (hT : Tab w) (n : Nat) (h : Sm n) : Calls Tryz.prog 52 #[.int .i64 (n : Nat)] w fun e w' => e = .returned (.string (mrk n)) ∧ Below w.heap.size w w' := by
  have F := Lib.hid (fmt w hT n h)
  have hsz := fits n h
  have e1 : ({ data := #[119, 97, 108, 46, 102, 105, 114, 115, 116, 46] } : ByteArray) ++ nm (Lib.decDigits n) = mrk n := cat (p := mp) (Lib.decDigits n)
  clear hT h
  go_enter Tryz.func52, Tryz.ntmps52
  go_wp2_with (go_at_call 59; refine (F.out).mono ?_; rintro e w' ⟨rfl, hb⟩)
  go_ret
  first | exact ⟨by rw [e1], hb⟩ | exact ⟨rfl, hb⟩ | exact hb
theorem toList_nm (x : List UInt8) : (nm x).data.toList = x := by simp [nm]
/-- The error of a text that is no number. -/
def Err (w : World) : Prop := ∃ ev, w.cell? ⟨0, 0, none⟩ = some ev ∧ (ev = .nilIface ∨ ∃ te pe, ev = .iface te pe)
theorem num_own (w : World) (p : List UInt8) (n : Nat) (h : Sm n) :
    Calls Tryz.prog 42 #[.string (nm (pn p n)), .string (nm p)] w fun e w' => e = .returned (.tuple #[.int .i64 (n : Nat), .bool true]) ∧ Below w.heap.size w w' := by
  have C := Tryz.strings_CutPrefix (nm (pn p n)) (nm p) w
  rw [toList_nm, toList_nm, (pre_own p n).1, (pre_own p n).2] at C
  replace C := Lib.hid C
  have P := Tryz.strconv_ParseInt_10_at64_ok (nm (Lib.decDigits n)) (by
    rw [nm_size]
    have := nDig_le 18 n (by have e : (10 : Nat) ^ (18 + 1) = 10000000000000000000 := by decide
                             unfold Sm at h; omega)
    omega) (n : Int) (by rw [toList_nm]; exact parse_ok n h) w
  replace P := Lib.hid (show Calls Tryz.prog 57 #[.string ⟨(Lib.decDigits n).toArray⟩, .int .i64 10, .int .i64 64] w _ from P)
  clear h
  go_enter Tryz.func42, Tryz.ntmps42
  go_wp2_with (first | (go_at_call 56; refine (C.out).mono ?_; rintro e w ⟨rfl, rfl⟩) | (go_at_call 57; refine (P.out).mono ?_; rintro e w' ⟨rfl, hw⟩))
  refine bodyPost_ret (v := .tuple #[.int .i64 (n : Nat), .bool true]) (by simp [results, Tryz.results42, go_sem]) rfl ⟨rfl, ?_⟩
  rcases hw with rfl | ⟨t, rfl⟩
  · exact Below.refl _ _
  · exact Lib.bytesWorld_below _ _ _
theorem num_no (w : World) (hE : Err w) (p : List UInt8) (r : List UInt8) (hl : r.length ≤ 64) (hp : Lib.hasPrefix (119 :: r) p = false) :
    Calls Tryz.prog 42 #[.string (nm (119 :: r)), .string (nm p)] w fun e w' => e = .returned (.tuple #[.int .i64 0, .bool false]) ∧ Below w.heap.size w w' := by
  have C := Tryz.strings_CutPrefix (nm (119 :: r)) (nm p) w
  have ht : Lib.trimPrefix (119 :: r) p = 119 :: r := by unfold Lib.trimPrefix; rw [hp]; rfl
  rw [toList_nm, toList_nm, hp, ht] at C
  replace C := Lib.hid C
  obtain ⟨ev, hv, hev⟩ := hE
  have P := Tryz.strconv_ParseInt_10_at64_syntax (nm (119 :: r)) (by rw [nm_size]; simp; omega) (by rw [toList_nm]; exact parse_bad 119 r rfl) ev w hv hev
  replace P := Lib.hid (show Calls Tryz.prog 57 #[.string ⟨(119 :: r).toArray⟩, .int .i64 10, .int .i64 64] w _ from P)
  clear hv hev hp ht hl
  go_enter Tryz.func42, Tryz.ntmps42
  go_wp2_with (first | (go_at_call 56; refine (C.out).mono ?_; rintro e w ⟨rfl, rfl⟩) | (go_at_call 57; refine (P.out).mono ?_; rintro e w' ⟨N, rfl, _, _, hb⟩))
  refine bodyPost_ret (v := .tuple #[.int .i64 0, .bool false]) (by simp [results, Tryz.results42, go_sem]) rfl ⟨rfl, hb⟩
end V1
end Go.Proofs.YtdaknlmnelfedaaGreatDoor
