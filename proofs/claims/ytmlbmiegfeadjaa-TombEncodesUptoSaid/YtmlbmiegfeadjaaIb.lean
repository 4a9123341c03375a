/- Texts as bytes; putText; laid. -/
import Derived.Test.YtmlbmiegfeadjaaIa
namespace Go.Proofs.Ytmlbmiegfeadjaa
open Go.RowKit
namespace Ib
open Jb hiding Own
open Ga Gm Gt
open Bm (Has)
open Mt (eight eight_lt)
open Ia
open Wr (Mv Own)

/-- A text's bytes. -/
def nums (S : ByteArray) : List Nat := S.data.toList.map UInt8.toNat
theorem nums_len (S : ByteArray) : (nums S).length = S.size := by
  unfold nums
  rw [List.length_map, Array.length_toList]; rfl
theorem nums_lt (S : ByteArray) : ∀ b ∈ nums S, b < 256 := fun b hb => by
  obtain ⟨x, _, rfl⟩ := List.mem_map.1 hb
  exact x.toNat_lt
theorem str_nums (S : ByteArray) : str (nums S) = S := by
  have h : (str (nums S)).data.toList = S.data.toList := by
    unfold str nums
    rw [strOfNums_data]
    simp [List.map_map, Function.comp_def]
  cases S
  have := Array.toList_inj.1 h
  generalize str _ = u at *
  cases u
  exact congrArg ByteArray.mk this
theorem nums_take (S : ByteArray) {k : Nat} (hk : k < S.size) : (nums S).take (k + 1) = (nums S).take k ++ [S[k].toNat] := by
  have hl : k < (nums S).length := by rw [nums_len]; exact hk
  rw [List.take_add_one, List.getElem?_eq_getElem hl]
  simp only [Option.toList_some]
  have e : (nums S)[k] = S[k].toNat := by
    show (S.data.toList.map UInt8.toNat)[k]'(by rw [List.length_map, Array.length_toList]; exact hk) = _
    rw [List.getElem_map, Array.getElem_toList]
    rfl
  rw [e]
theorem two_lt (n : Nat) : ∀ b ∈ two n, b < 256 := fun b hb => by simp [two] at hb; omega
def ut (x : Int) : Nat := (x % 18446744073709551616).toNat
theorem ut_lt (x : Int) : ut x < 18446744073709551616 := by unfold ut; omega
theorem ut_wrap (x : Int) : IntKind.u64.wrap x = (ut x : Int) := by rw [IntKind.wrap_u64]; unfold ut; omega
/-- The bytes of a tomb, of tombs. -/
def txt (S : ByteArray) : List Nat := two S.size ++ nums S
theorem txt_len (S : ByteArray) : (txt S).length = S.size + 2 := by
  unfold txt
  rw [List.length_append, nums_len]
  simp [two]; omega
def enc (x : Tmb) : List Nat := txt x.1 ++ txt x.2.1 ++ eight (ut x.2.2.1) ++ eight (ut x.2.2.2)
def encL (L : List Tmb) : List Nat := L.flatMap enc
def fmT (x : Tmb) : Bool := decide (x.1.size ≤ 4000) && decide (x.2.1.size ≤ 4000)
def fmL (L : List Tmb) : Bool := L.all fmT
theorem enc_len (x : Tmb) : (enc x).length = x.1.size + x.2.1.size + 20 := by
  unfold enc txt
  simp only [List.length_append, nums_len]
  simp [two, eight]; omega
theorem enc_lt (x : Tmb) : ∀ b ∈ enc x, b < 256 := fun b hb => by
  unfold enc txt at hb
  simp only [List.mem_append] at hb
  rcases hb with ((((hb | hb) | (hb | hb)) | hb) | hb)
  · exact two_lt _ b hb
  · exact nums_lt _ b hb
  · exact two_lt _ b hb
  · exact nums_lt _ b hb
  · exact eight_lt _ b hb
  · exact eight_lt _ b hb
theorem encL_take (L : List Tmb) {k : Nat} (hk : k < L.length) : encL (L.take (k + 1)) = encL (L.take k) ++ enc (L.getD k t0) := by
  unfold encL
  rw [take_snoc L hk, List.flatMap_append]; simp
theorem encL_len (L : List Tmb) (h : fmL L = true) (k : Nat) : (encL (L.take k)).length ≤ k * 8020 := by
  induction k with
  | zero => simp [encL]
  | succ k ih =>
    by_cases hk : k < L.length
    · rw [encL_take L hk, List.length_append, enc_len]
      have hm : L.getD k t0 ∈ L := by rw [List.getD_eq_getElem?_getD, List.getElem?_eq_getElem hk]; exact List.getElem_mem _
      have := List.all_eq_true.1 h _ hm
      simp only [fmT, Bool.and_eq_true, decide_eq_true_eq] at this
      omega
    · have e : L.take (k + 1) = L.take k := by rw [List.take_of_length_le (by omega), List.take_of_length_le (by omega)]
      rw [e]
      exact Nat.le_trans ih (Nat.mul_le_mul_right _ (Nat.le_succ k))
set_option maxRecDepth 100000
set_option maxHeartbeats 4000000
theorem putText34 (w : World) (g : Nat) (s : Value) (bs : List Nat) (S : ByteArray) (h : Wb w g s bs) (hS : S.size ≤ 4000) (hb : bs.length ≤ 100000000000) :
    Calls Try.prog 34 #[.pointer (some ⟨g, 0, none⟩), .string S] w fun e w' => e = .returned (.tuple #[]) ∧ ∃ s', Wb w' g s' (bs ++ txt S) ∧ Mv w w' g s ∧ Own w s s' := by
  have P2 : Hid (Calls Try.prog 35 #[.pointer (some ⟨g, 0, none⟩), .int .u64 (S.size : Nat), .int .i64 16] w fun e' w' => e' = .returned (.tuple #[]) ∧ ∃ s', Wb w' g s' (bs ++ two S.size) ∧ Mv w w' g s ∧ Own w s s') :=
    Lib.hid (put32m w g s bs (two S.size) S.size 16 h (by omega) rfl (by decide) (two_lt _) (two_bits _) (by omega))
  have PB : Hid (∀ (y : World) s' cs b, Wb y g s' cs → b < 256 → List.length cs ≤ 140737488353272 → Calls Try.prog 35 #[.pointer (some ⟨g, 0, none⟩), .int .u64 (b : Nat), .int .i64 8] y fun e' w' => e' = .returned (.tuple #[]) ∧ ∃ s2, Wb w' g s2 (cs ++ [b]) ∧ Mv y w' g s' ∧ Own y s' s2) :=
    Lib.hid (fun (y : World) s' cs b hy hb2 hc => put32m y g s' cs [b] b 8 hy (by omega) rfl (by decide) (by simpa using hb2) (one_bits b) hc)
  have TX := Lib.hid (show txt S = two S.size ++ nums S from rfl)
  have NL := Lib.hid (nums_len S)
  have hbl : (bs ++ two S.size).length ≤ 100000000002 := by simp [two]; omega
  have HBL := Lib.hid hbl
  clear h hbl hb
  go_enter Try.func34, Try.ntmps34
  go_wp2_with fail
  refine P2.out.mono ?_
  rintro e w1 ⟨rfl, s1, h1, m1, o1⟩
  have H1 := Lib.hid h1
  have B1 := Lib.hid (And.intro m1 o1)
  clear h1 m1 o1 P2
  go_wp2_with fail
  go_loopw [12] (fun i wr => ∃ k s', k ≤ S.size ∧ i = .int .i64 (k : Nat) ∧ Hid (Wb wr g s' (bs ++ two S.size ++ (nums S).take k)) ∧ Hid (Mv w wr g s ∧ Own w s s')) (fun i _ => S.size - (intOf i).toNat)
  case atStart => exact ⟨0, s1, Nat.zero_le _, rfl, by simpa using H1, B1⟩
  case round =>
    obtain ⟨k, s', hk, rfl, HW, HB⟩ := hrel
    by_cases hkn : k < S.size
    case neg =>
      obtain rfl : k = S.size := by omega
      go_wp2_with fail
      refine bodyPost_end (v := .tuple #[]) (by simp [results, Try.results34, go_sem]) rfl ⟨rfl, s', ?_, HB.out⟩
      have := HW.out
      rw [List.take_of_length_le (by rw [NL.out]; exact Nat.le_refl _)] at this
      rw [TX.out, ← List.append_assoc]; exact this
    have hi1 : (k : Int) < (S.size : Int) := by omega
    have hlt : S[k].toNat < 256 := S[k].toNat_lt
    have ew : IntKind.u64.wrap ((S[k].toNat : Nat) : Int) = ((S[k].toNat : Nat) : Int) := by rw [IntKind.wrap_u64]; omega
    have NT := Lib.hid (show (nums S).take (k + 1) = (nums S).take k ++ [S[k].toNat] from nums_take S hkn)
    have CL := Lib.hid (show (bs ++ two S.size ++ (nums S).take k).length ≤ 140737488353272 by have := HBL.out; rw [List.length_append, List.length_take]; omega)
    have CC := Lib.hid (PB.out wr s' _ _ HW.out hlt CL.out)
    clear PB HW
    go_wp2_with fail
    refine CC.out.mono ?_
    rintro e w3 ⟨rfl, s3, h3, m3, o3⟩
    have H3 := Lib.hid h3
    have B3 := Lib.hid (And.intro (HB.out.1.trans HB.out.2 m3) (HB.out.2.trans o3 HB.out.1.size))
    clear h3 m3 o3
    go_wp2_with fail
    go_roundw
    case rel => exact ⟨k + 1, s3, by omega, by go_num, by rw [NT.out, ← List.append_assoc]; exact H3, B3⟩
    case measure => simp [intOf]; omega
end Ib
end Go.Proofs.Ytmlbmiegfeadjaa
