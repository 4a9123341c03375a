import Derived.Test.YtbnicnhkakbglaaGreatDoorG06
import Derived.Lib.ParseIntBCases
import Derived.Test.YtbnicnhkakbglaaGreatDoorRows
import Derived.WalkKit
import Derived.ProofKit
import Derived.OpenShut
import Derived.Handy
import Derived.BigQuiet
import Derived.Deep.QuietTactic
import Derived.WalkLawsBesides
import Derived.Lib.Hide
import Derived.LoopTactic
import Derived.IntWalk
import Derived.Laws.BitsAllLaws
import Derived.Deep.DeepCutAuto
import Derived.WalkMore
import Derived.Deep.CutBlock
import Derived.Shelf.Strconv.Itoa0
import Derived.Shelf.LaysM
import Derived.Test.YtbnicnhkakbglaaGreatDoorProg
import Derived.Shelf.Small.Utf8
import Derived.Shelf.Small.Strs
import Derived.Shelf.Strconv.Atoi
import Derived.Shelf.Strconv.Itoa1
import Derived.Shelf.Strconv.Itoa2
import Derived.Shelf.Strconv.Itoa3
import Derived.Shelf.Strconv.Itoa4
import Derived.Shelf.Strings.Search1
import Derived.Shelf.Strings.Search2
import Derived.Shelf.Strings.Cut
import Derived.Shelf.Strings.Shaped
import Derived.Shelf.Strings.Runes
import Derived.Shelf.Strings.AsciiSet
import Derived.Shelf.Bits.Mul64
import Derived.Shelf.Unicode.DecodeSlow

/- Whole numbers in decimal: the library's reading and the document's. -/
namespace Go.Proofs.YtbnicnhkakbglaaGreatDoor
namespace Fm
open Rm Lib

/-- The document's reading: nothing, where the number is above most. -/
def wh (most : Nat) : Nat → List Nat → Option Nat
  | n, [] => some n
  | n, c :: r => if (most - (c - 48)) / 10 < n then none else wh most (10 * n + (c - 48)) r
theorem wh_ge {most : Nat} : ∀ (l : List Nat) (n u : Nat), wh most n l = some u → n ≤ u
  | [], n, u, h => by simp [wh] at h; omega
  | c :: r, n, u, h => by
    unfold wh at h
    split at h
    · cases h
    · have := wh_ge r _ u h; omega
theorem wh_le {most : Nat} (hm : 9 ≤ most) : ∀ (l : List Nat) (n u : Nat), (∀ c ∈ l, Dig c) → n ≤ most → wh most n l = some u → u ≤ most
  | [], n, u, _, hn, h => by simp [wh] at h; omega
  | c :: r, n, u, hd, hn, h => by
    unfold wh at h
    split at h
    · cases h
    · have hc := hd c (List.mem_cons_self ..)
      have h1 := hc.1
      have h2 := hc.2
      exact wh_le hm r _ u (fun x hx => hd x (List.mem_cons_of_mem _ hx)) (by omega) h
theorem pm_ge {M : Nat} : ∀ (l : List UInt8) (n u : Nat), parseUintM M n l = .ok u → n ≤ u
  | [], n, u, h => by simp only [parseUintM] at h; injection h with h; omega
  | c :: r, n, u, h => by
    simp only [parseUintM] at h
    split at h
    · split at h
      · cases h
      · split at h
        · cases h
        · have := pm_ge r _ u h; omega
    · cases h
theorem pm_dig {M : Nat} : ∀ (l : List UInt8) (n : Nat), (∀ c ∈ l.map (·.toNat), Dig c) → parseUintM M n l = .range ∨ ∃ u, parseUintM M n l = .ok u
  | [], n, _ => .inr ⟨n, rfl⟩
  | c :: r, n, hd => by
    have hc : 48 ≤ c.toNat ∧ c.toNat ≤ 57 := hd _ (by simp)
    have ih := fun m => pm_dig (M := M) r m (fun x hx => hd x (by rw [List.map_cons]; exact List.mem_cons_of_mem _ hx))
    simp only [parseUintM, if_pos hc]
    split
    · exact .inl rfl
    · split
      · exact .inl rfl
      · exact ih _
theorem pm_wh {most : Nat} (hm : most ≤ 9223372036854775808) (hm9 : 9 ≤ most) : ∀ (l : List UInt8) (n : Nat), (∀ c ∈ l.map (·.toNat), Dig c) → n ≤ most →
    (∀ u, wh most n (l.map (·.toNat)) = some u → parseUintM 18446744073709551615 n l = .ok u) ∧ (wh most n (l.map (·.toNat)) = none → parseUintM 18446744073709551615 n l = .range ∨ ∃ u, parseUintM 18446744073709551615 n l = .ok u ∧ most < u)
  | [], n, _, hn => ⟨fun u h => by simp [wh] at h; subst h; rfl, fun h => by simp [wh] at h⟩
  | c :: r, n, hd, hn => by
    have hc : 48 ≤ c.toNat ∧ c.toNat ≤ 57 := hd _ (by simp)
    have hr : ∀ x ∈ r.map (·.toNat), Dig x := fun x hx => hd x (by rw [List.map_cons]; exact List.mem_cons_of_mem _ hx)
    have e : n * 10 + (c.toNat - 48) = 10 * n + (c.toNat - 48) := by omega
    simp only [List.map_cons, wh, parseUintM, if_pos hc]
    by_cases h1 : (most - (c.toNat - 48)) / 10 < n
    · rw [if_pos h1]
      refine ⟨fun u h => (by cases h), fun _ => ?_⟩
      split
      · exact .inl rfl
      · split
        · exact .inl rfl
        · rcases pm_dig (M := 18446744073709551615) r (n * 10 + (c.toNat - 48)) hr with h | ⟨u, h⟩
          · exact .inl h
          · have := pm_ge r _ u h
            exact .inr ⟨u, h, by omega⟩
    · rw [if_neg h1, if_neg (by omega), if_neg (by omega), e]
      exact pm_wh hm hm9 r _ hr (by omega)
theorem int_plain (l : List UInt8) (h0 : l ≠ []) (hd : ∀ c ∈ l.map (·.toNat), Dig c) : (∀ u, wh 9223372036854775807 0 (l.map (·.toNat)) = some u → parseIntB 64 l = .ok (u : Int)) ∧ (wh 9223372036854775807 0 (l.map (·.toNat)) = none → parseIntB 64 l = .range) := by
  obtain ⟨c, r, rfl⟩ : ∃ c r, l = c :: r := by
    cases l with
    | nil => exact absurd rfl h0
    | cons c r => exact ⟨c, r, rfl⟩
  have hc : 48 ≤ c.toNat ∧ c.toNat ≤ 57 := hd _ (by simp)
  have hp := pm_wh (most := 9223372036854775807) (by decide) (by decide) (c :: r) 0 hd (Nat.zero_le _)
  rw [parseIntB_plain 64 c r (by omega) (by omega)]
  have e : parseUintB 64 (c :: r) = parseUintM 18446744073709551615 0 (c :: r) := by unfold parseUintB; rw [if_neg h0]
  rw [e]
  refine ⟨fun u h => ?_, fun h => ?_⟩
  · have hu := wh_le (by decide) _ _ u hd (Nat.zero_le _) h
    rw [hp.1 u h]
    show (if 2 ^ (64 - 1) ≤ u then NumEnd.range else .ok (u : Int)) = _
    rw [if_neg (by simp; omega)]
  · rcases hp.2 h with h | ⟨u, h, hu⟩
    · rw [h]; rfl
    · rw [h]
      show (if 2 ^ (64 - 1) ≤ u then NumEnd.range else .ok (u : Int)) = _
      rw [if_pos (by simp; omega)]
theorem int_minus (l : List UInt8) (h0 : l ≠ []) (hd : ∀ c ∈ l.map (·.toNat), Dig c) : (∀ u, wh 9223372036854775808 0 (l.map (·.toNat)) = some u → parseIntB 64 (45 :: l) = .ok (-(u : Int))) ∧ (wh 9223372036854775808 0 (l.map (·.toNat)) = none → parseIntB 64 (45 :: l) = .range) := by
  have hp := pm_wh (most := 9223372036854775808) (by decide) (by decide) l 0 hd (Nat.zero_le _)
  rw [parseIntB_minus]
  have e : parseUintB 64 l = parseUintM 18446744073709551615 0 l := by unfold parseUintB; rw [if_neg h0]
  rw [e]
  refine ⟨fun u h => ?_, fun h => ?_⟩
  · have hu := wh_le (by decide) _ _ u hd (Nat.zero_le _) h
    rw [hp.1 u h]
    show (if 2 ^ (64 - 1) < u then NumEnd.range else .ok (-(u : Int))) = _
    rw [if_neg (by simp; omega)]
  · rcases hp.2 h with h | ⟨u, h, hu⟩
    · rw [h]; rfl
    · rw [h]
      show (if 2 ^ (64 - 1) < u then NumEnd.range else .ok (-(u : Int))) = _
      rw [if_pos (by simp; omega)]
end Fm
end Go.Proofs.YtbnicnhkakbglaaGreatDoor

/- readFloat. -/
namespace Go.Proofs.YtbnicnhkakbglaaGreatDoor
open Go.RowKit
namespace Rf
open Rm

set_option maxRecDepth 100000 in
theorem lower104 (w : World) (c : Nat) (hc : c < 256) : Calls Tryz.prog 198 #[.int .u8 (c : Nat)] w fun e w' => e = .returned (.int .u8 ((c ||| 32 : Nat) : Int)) ∧ w' = w := by
  have h : bits .or .u8 (c : Int) 32 = ((c ||| 32 : Nat) : Int) := u8_or_nat c 32 hc (by decide)
  go_enter Tryz.func198, Tryz.ntmps198
  go_wp2_with fail
  go_ret
  exact ⟨rfl, rfl⟩

theorem results_tmp7 {fn : Func} {t1 t2 t3 t4 t5 t6 t7 : Tmp} (h : fn.results = #[.tmp t1, .tmp t2, .tmp t3, .tmp t4, .tmp t5, .tmp t6, .tmp t7]) (tmps : Array Value) (P : Program) (w : World) :
    (results fn tmps).run P w = .ok (.tuple #[tmps.getD t1 undef, tmps.getD t2 undef, tmps.getD t3 undef, tmps.getD t4 undef, tmps.getD t5 undef, tmps.getD t6 undef, tmps.getD t7 undef]) w := by
  simp [results, h]

theorem exp_plain (c : Nat) {d : List Nat} (hd : Digits d) : expOf (c :: d) = ((est d : Nat) : Int) := by
  cases d with
  | nil => exact absurd rfl hd.1
  | cons x r =>
    have hx := hd.2 x (List.mem_cons_self ..)
    have h1 := hx.1
    unfold expOf
    split
    · rename_i h; cases h
    · rename_i h; simp at h; omega
    · rename_i h; simp at h; omega
    · rename_i h; simp at h; rw [← h.2]

theorem mant_pos {l : List Nat} (h : Mantissa l) : 0 < l.length := by
  rcases h with h | ⟨a, b, rfl, _, _⟩
  · exact List.length_pos_iff.2 h.1
  · simp only [List.length_append, List.length_cons]; omega
theorem mant_first {l : List Nat} (h : Mantissa l) : 48 ≤ l.getD 0 0 ∧ l.getD 0 0 ≤ 57 := by
  rcases h with h | ⟨a, b, rfl, ha, _⟩
  · exact h.2 _ (mem_get (List.length_pos_iff.2 h.1))
  · have hp := List.length_pos_iff.2 ha.1
    rw [List.getD_eq_getElem?_getD, List.getElem?_append_left hp, ← List.getD_eq_getElem?_getD]
    exact ha.2 _ (mem_get hp)
theorem or_plain {c : Nat} (h : (48 ≤ c ∧ c ≤ 57) ∨ c = 46 ∨ c = 69 ∨ c = 101) : c ||| 32 ≠ 120 := by
  have : ∀ c : Fin 128, ((48 ≤ c.1 ∧ c.1 ≤ 57) ∨ c.1 = 46 ∨ c.1 = 69 ∨ c.1 = 101) → c.1 ||| 32 ≠ 120 := by decide
  exact this ⟨c, by omega⟩ h
theorem second_char {bs mn ex : List Nat} (hM : Mantissa mn) (hE : Expo ex) (hb : bs = mn ++ ex) (h1 : 1 < bs.length) : bs.getD 1 0 ||| 32 ≠ 120 := by
  refine or_plain ?_
  by_cases h : 1 < mn.length
  · have e : bs.getD 1 0 = mn.getD 1 0 := by rw [hb, List.getD_eq_getElem?_getD, List.getElem?_append_left h, ← List.getD_eq_getElem?_getD]
    rw [e]
    rcases mant_char hM 1 h with h | h
    · exact .inl h
    · exact .inr (.inl h)
  · have hp := mant_pos hM
    have e : bs.getD 1 0 = ex.getD 0 0 := by
      rw [hb, List.getD_eq_getElem?_getD, List.getElem?_append_right (by omega), show 1 - mn.length = 0 from by omega, ← List.getD_eq_getElem?_getD]
    rw [e]
    rcases hE with rfl | ⟨c, s, d, rfl, hc, _⟩
    · rw [hb, List.length_append] at h1; simp at h1; omega
    · rcases hc with rfl | rfl
      · exact .inr (.inr (.inl rfl))
      · exact .inr (.inr (.inr rfl))

/-- The string's bytes. -/
def Sb (S : ByteArray) (bs : List Nat) : Prop := S.size = bs.length ∧ ∀ (i : Nat) (hi : i < S.size), S[i].toNat = bs.getD i 0

theorem at_mn {bs sg mn ex : List Nat} (hb : bs = sg ++ (mn ++ ex)) {k : Nat} (hk : k < mn.length) : bs.getD (sg.length + k) 0 = mn.getD k 0 := by
  rw [hb, List.getD_eq_getElem?_getD, List.getElem?_append_right (by omega), Nat.add_sub_cancel_left, List.getElem?_append_left hk, ← List.getD_eq_getElem?_getD]
theorem at_ex {bs sg mn ex : List Nat} (hb : bs = sg ++ (mn ++ ex)) (q : Nat) : bs.getD (sg.length + mn.length + q) 0 = ex.getD q 0 := by
  rw [hb, List.getD_eq_getElem?_getD, List.getElem?_append_right (by omega), show sg.length + mn.length + q - sg.length = mn.length + q from by omega, List.getElem?_append_right (by omega), Nat.add_sub_cancel_left, ← List.getD_eq_getElem?_getD]

end Rf
end Go.Proofs.YtbnicnhkakbglaaGreatDoor

/- The library's contracts that are used. -/
namespace Go.Proofs
open Go.Shelf
def Tryz.lays129_ren : Go.Shelf.Ren := ⟨fun | 129 => 161 | n => n, fun | 53 => 23 | 3 => 3 | 4 => 4 | 46 => 59 | 5 => 5 | 9 => 9 | n => n, fun | n => n⟩
theorem Tryz.lays129 : Go.Proofs.Lays.n129 Tryz.prog Tryz.lays129_ren := {
  mixed := by kernel_rfl
  f129 := Tryz.func161.trans (congrArg some (by kernel_rfl))
  t3 := Tryz.underlying3
  a3 := Tryz.isAgg3
  z3 := Tryz.sizeOf3
  v3 := Tryz.zeroValue3
  t4 := Tryz.underlying4
  a4 := Tryz.isAgg4
  z4 := Tryz.sizeOf4
  v4 := Tryz.zeroValue4
  t5 := Tryz.underlying5
  a5 := Tryz.isAgg5
  z5 := Tryz.sizeOf5
  v5 := Tryz.zeroValue5
  t9 := Tryz.underlying9
  a9 := Tryz.isAgg9
  z9 := Tryz.sizeOf9
  v9 := Tryz.zeroValue9
  t46 := Tryz.underlying59
  a46 := Tryz.isAgg59
  z46 := Tryz.sizeOf59
  v46 := Tryz.zeroValue59
  t53 := Tryz.underlying23
  a53 := Tryz.isAgg23
  z53 := Tryz.sizeOf23
  v53 := Tryz.zeroValue23 }
theorem Tryz.bits_Len64 (x : Int) (w : World) (h0 : 0 ≤ x) (h1 : x ≤ 18446744073709551615) :
    Calls Tryz.prog 161 #[.int .u64 x] w fun e w' => e = .returned (.int .i64 (Lib.bitLen x.toNat)) ∧ w' = w := Any.bits_Len64 Tryz.lays129 x w h0 h1
end Go.Proofs

/- Contracts of library functions at this translation, each an application of the library's own theorem. -/
namespace Go.Proofs
open Go.Shelf
def Tryz.lays172_ren : Go.Shelf.Ren := ⟨fun | 172 => 96 | 244 => 138 | 245 => 62 | 247 => 107 | 279 => 100 | 280 => 101 | 281 => 102 | 282 => 103 | 287 => 149 | 316 => 142 | 171 => 97 | 205 => 143 | 321 => 198 | 322 => 199 | 243 => 139 | 246 => 83 | 283 => 124 | 284 => 125 | 285 => 126 | 286 => 127 | 129 => 161 | 317 => 173 | 318 => 174 | 319 => 175 | 320 => 176 | 337 => 209 | 338 => 210 | n => n, fun | 9 => 9 | 3 => 3 | 75 => 71 | 76 => 126 | 4 => 4 | 5 => 5 | 167 => 137 | 37 => 58 | 0 => 0 | 85 => 109 | 2 => 2 | 168 => 138 | 53 => 23 | 175 => 171 | 46 => 59 | 210 => 162 | 127 => 150 | 145 => 225 | 143 => 223 | 21 => 21 | 171 => 151 | 173 => 154 | 212 => 194 | 51 => 183 | 20 => 20 | 213 => 195 | 232 => 244 | 233 => 272 | 80 => 124 | n => n, fun | 15 => 1 | 16 => 2 | 17 => 4 | 18 => 11 | 19 => 12 | n => n⟩
theorem Tryz.lays172 : Go.Proofs.Lays.n172 Tryz.prog Tryz.lays172_ren := {
  mixed := by kernel_rfl
  f129 := Tryz.func161.trans (congrArg some (by kernel_rfl))
  f171 := Tryz.func97.trans (congrArg some (by kernel_rfl))
  f172 := Tryz.func96.trans (congrArg some (by kernel_rfl))
  f205 := Tryz.func143.trans (congrArg some (by kernel_rfl))
  f243 := Tryz.func139.trans (congrArg some (by kernel_rfl))
  f244 := Tryz.func138.trans (congrArg some (by kernel_rfl))
  f245 := Tryz.func62.trans (congrArg some (by kernel_rfl))
  f246 := Tryz.func83.trans (congrArg some (by kernel_rfl))
  f247 := Tryz.func107.trans (congrArg some (by kernel_rfl))
  f279 := Tryz.func100.trans (congrArg some (by kernel_rfl))
  f280 := Tryz.func101.trans (congrArg some (by kernel_rfl))
  f281 := Tryz.func102.trans (congrArg some (by kernel_rfl))
  f282 := Tryz.func103.trans (congrArg some (by kernel_rfl))
  f283 := Tryz.func124.trans (congrArg some (by kernel_rfl))
  f284 := Tryz.func125.trans (congrArg some (by kernel_rfl))
  f285 := Tryz.func126.trans (congrArg some (by kernel_rfl))
  f286 := Tryz.func127.trans (congrArg some (by kernel_rfl))
  f287 := Tryz.func149.trans (congrArg some (by kernel_rfl))
  f316 := Tryz.func142.trans (congrArg some (by kernel_rfl))
  f317 := Tryz.func173.trans (congrArg some (by kernel_rfl))
  f318 := Tryz.func174.trans (congrArg some (by kernel_rfl))
  f319 := Tryz.func175.trans (congrArg some (by kernel_rfl))
  f320 := Tryz.func176.trans (congrArg some (by kernel_rfl))
  f321 := Tryz.func198.trans (congrArg some (by kernel_rfl))
  f322 := Tryz.func199.trans (congrArg some (by kernel_rfl))
  f337 := Tryz.func209.trans (congrArg some (by kernel_rfl))
  f338 := Tryz.func210.trans (congrArg some (by kernel_rfl))
  t0 := Tryz.underlying0
  a0 := Tryz.isAgg0
  z0 := Tryz.sizeOf0
  v0 := Tryz.zeroValue0
  t2 := Tryz.underlying2
  a2 := Tryz.isAgg2
  z2 := Tryz.sizeOf2
  v2 := Tryz.zeroValue2
  t3 := Tryz.underlying3
  a3 := Tryz.isAgg3
  z3 := Tryz.sizeOf3
  v3 := Tryz.zeroValue3
  t4 := Tryz.underlying4
  a4 := Tryz.isAgg4
  z4 := Tryz.sizeOf4
  v4 := Tryz.zeroValue4
  t5 := Tryz.underlying5
  a5 := Tryz.isAgg5
  z5 := Tryz.sizeOf5
  v5 := Tryz.zeroValue5
  t9 := Tryz.underlying9
  a9 := Tryz.isAgg9
  z9 := Tryz.sizeOf9
  v9 := Tryz.zeroValue9
  t20 := Tryz.underlying20
  a20 := Tryz.isAgg20
  z20 := Tryz.sizeOf20
  v20 := Tryz.zeroValue20
  t21 := Tryz.underlying21
  a21 := Tryz.isAgg21
  z21 := Tryz.sizeOf21
  v21 := Tryz.zeroValue21
  t37 := Tryz.underlying58
  a37 := Tryz.isAgg58
  z37 := Tryz.sizeOf58
  v37 := Tryz.zeroValue58
  t46 := Tryz.underlying59
  a46 := Tryz.isAgg59
  z46 := Tryz.sizeOf59
  v46 := Tryz.zeroValue59
  t51 := Tryz.underlying183
  a51 := Tryz.isAgg183
  z51 := Tryz.sizeOf183
  v51 := Tryz.zeroValue183
  t53 := Tryz.underlying23
  a53 := Tryz.isAgg23
  z53 := Tryz.sizeOf23
  v53 := Tryz.zeroValue23
  t75 := Tryz.underlying71
  a75 := Tryz.isAgg71
  z75 := Tryz.sizeOf71
  v75 := Tryz.zeroValue71
  t76 := Tryz.underlying126
  a76 := Tryz.isAgg126
  z76 := Tryz.sizeOf126
  v76 := Tryz.zeroValue126
  t85 := Tryz.underlying109
  a85 := Tryz.isAgg109
  z85 := Tryz.sizeOf109
  v85 := Tryz.zeroValue109
  t127 := Tryz.underlying150
  a127 := Tryz.isAgg150
  z127 := Tryz.sizeOf150
  v127 := Tryz.zeroValue150
  t143 := Tryz.underlying223
  a143 := Tryz.isAgg223
  z143 := Tryz.sizeOf223
  v143 := Tryz.zeroValue223
  t145 := Tryz.underlying225
  a145 := Tryz.isAgg225
  z145 := Tryz.sizeOf225
  v145 := Tryz.zeroValue225
  t167 := Tryz.underlying137
  a167 := Tryz.isAgg137
  z167 := Tryz.sizeOf137
  v167 := Tryz.zeroValue137
  t168 := Tryz.underlying138
  a168 := Tryz.isAgg138
  z168 := Tryz.sizeOf138
  v168 := Tryz.zeroValue138
  t171 := Tryz.underlying151
  a171 := Tryz.isAgg151
  z171 := Tryz.sizeOf151
  v171 := Tryz.zeroValue151
  t173 := Tryz.underlying154
  a173 := Tryz.isAgg154
  z173 := Tryz.sizeOf154
  v173 := Tryz.zeroValue154
  t175 := Tryz.underlying171
  a175 := Tryz.isAgg171
  z175 := Tryz.sizeOf171
  v175 := Tryz.zeroValue171
  t210 := Tryz.underlying162
  a210 := Tryz.isAgg162
  z210 := Tryz.sizeOf162
  v210 := Tryz.zeroValue162
  t212 := Tryz.underlying194
  a212 := Tryz.isAgg194
  z212 := Tryz.sizeOf194
  v212 := Tryz.zeroValue194
  t213 := Tryz.underlying195
  a213 := Tryz.isAgg195
  z213 := Tryz.sizeOf195
  t232 := Tryz.underlying244
  a232 := Tryz.isAgg244
  z232 := Tryz.sizeOf244
  v232 := Tryz.zeroValue244
  t233 := Tryz.underlying272
  a233 := Tryz.isAgg272
  z233 := Tryz.sizeOf272
  v233 := Tryz.zeroValue272
  g15 := by kernel_rfl
  g16 := by kernel_rfl
  g17 := by kernel_rfl
  g18 := by kernel_rfl
  g19 := by kernel_rfl }
open Go.RowKit in
theorem Tryz.strconv_Atoi (s : ByteArray) (n : Int) (hl : s.size ≤ 18) (h : Lib.atoi s.data.toList = some n) (w : World) :
    Calls Tryz.prog 96 #[.string s] w fun e w' => e = .returned (.tuple #[.int .i64 n, .nilIface]) ∧ ∃ t, w' = Lib.bytesWorld w 5 t := Any.strconv_Atoi Tryz.lays172 s n hl h w
def Tryz.laysM284_ren : Go.Shelf.Ren := ⟨fun | 284 => 125 | 129 => 161 | 317 => 173 | 318 => 174 | n => n, fun | 53 => 23 | 3 => 3 | 212 => 194 | 0 => 0 | 4 => 4 | 46 => 59 | 5 => 5 | 9 => 9 | n => n, fun | 17 => 4 | n => n⟩
theorem Tryz.laysM284 : Go.Proofs.LaysM.n284 Tryz.prog Tryz.laysM284_ren := {
  mixed := by kernel_rfl
  f129 := Tryz.func161.trans (congrArg some (by kernel_rfl))
  f284 := Tryz.func125.trans (congrArg some (by kernel_rfl))
  f317 := Tryz.func173.trans (congrArg some (by kernel_rfl))
  f318 := Tryz.func174.trans (congrArg some (by kernel_rfl))
  t0 := Tryz.underlying0
  a0 := Tryz.isAgg0
  z0 := Tryz.sizeOf0
  v0 := Tryz.zeroValue0
  t3 := Tryz.underlying3
  a3 := Tryz.isAgg3
  z3 := Tryz.sizeOf3
  v3 := Tryz.zeroValue3
  t4 := Tryz.underlying4
  a4 := Tryz.isAgg4
  z4 := Tryz.sizeOf4
  v4 := Tryz.zeroValue4
  t5 := Tryz.underlying5
  a5 := Tryz.isAgg5
  z5 := Tryz.sizeOf5
  v5 := Tryz.zeroValue5
  t9 := Tryz.underlying9
  a9 := Tryz.isAgg9
  z9 := Tryz.sizeOf9
  v9 := Tryz.zeroValue9
  t46 := Tryz.underlying59
  a46 := Tryz.isAgg59
  z46 := Tryz.sizeOf59
  v46 := Tryz.zeroValue59
  t53 := Tryz.underlying23
  a53 := Tryz.isAgg23
  z53 := Tryz.sizeOf23
  v53 := Tryz.zeroValue23
  t212 := Tryz.underlying194
  a212 := Tryz.isAgg194
  z212 := Tryz.sizeOf194
  v212 := Tryz.zeroValue194
  g17 := by kernel_rfl
  i0 := by kernel_rfl
  i3 := by kernel_rfl
  i4 := by kernel_rfl
  i5 := by kernel_rfl
  i9 := by kernel_rfl
  i46 := by kernel_rfl
  i53 := by kernel_rfl
  i212 := by kernel_rfl
  m17 := by kernel_rfl }
open Go.Lib in
theorem Tryz.internal_strconv_numDigits (u : Nat) (h1 : 1 ≤ u) (h2 : u < 18446744073709551616) (w : World) (htab : Lib.TabIs Tryz.prog w "internal/strconv.uint64pow10" .u64 Lib.pow10Tab) :
    Calls Tryz.prog 125 #[.int .u64 u] w fun e w' => e = .returned (.int .i64 (Lib.nDigits u)) ∧ w' = w := Any.internal_strconv_numDigits Tryz.laysM284 u h1 h2 w htab
def Tryz.lays285_ren : Go.Shelf.Ren := ⟨fun | 285 => 126 | n => n, fun | 37 => 58 | 53 => 23 | 3 => 3 | 4 => 4 | 51 => 183 | 9 => 9 | 5 => 5 | 0 => 0 | n => n, fun | n => n⟩
theorem Tryz.lays285 : Go.Proofs.Lays.n285 Tryz.prog Tryz.lays285_ren := {
  mixed := by kernel_rfl
  f285 := Tryz.func126.trans (congrArg some (by kernel_rfl))
  t0 := Tryz.underlying0
  a0 := Tryz.isAgg0
  z0 := Tryz.sizeOf0
  v0 := Tryz.zeroValue0
  t3 := Tryz.underlying3
  a3 := Tryz.isAgg3
  z3 := Tryz.sizeOf3
  v3 := Tryz.zeroValue3
  t4 := Tryz.underlying4
  a4 := Tryz.isAgg4
  z4 := Tryz.sizeOf4
  v4 := Tryz.zeroValue4
  t5 := Tryz.underlying5
  a5 := Tryz.isAgg5
  z5 := Tryz.sizeOf5
  v5 := Tryz.zeroValue5
  t9 := Tryz.underlying9
  a9 := Tryz.isAgg9
  z9 := Tryz.sizeOf9
  v9 := Tryz.zeroValue9
  t37 := Tryz.underlying58
  a37 := Tryz.isAgg58
  z37 := Tryz.sizeOf58
  v37 := Tryz.zeroValue58
  t51 := Tryz.underlying183
  a51 := Tryz.isAgg183
  z51 := Tryz.sizeOf183
  v51 := Tryz.zeroValue183
  t53 := Tryz.underlying23
  a53 := Tryz.isAgg23
  z53 := Tryz.sizeOf23
  v53 := Tryz.zeroValue23 }
open Go.RowKit Go.Sort Go.Lib in
theorem Tryz.internal_strconv_formatBase10 (blk off cap : Nat) (u : Nat) (d : Array UInt8) (w : World) (hH : Holds (fun (b : UInt8) => Value.int .u8 (b.toNat : Int)) w blk off d) (hu : u < 10 ^ d.size) (hu64 : u < 18446744073709551616) (hsz : d.size < 4611686018427387904) :
    Calls Tryz.prog 126 #[.slice (some ⟨blk, off, none⟩) d.size cap, .int .u64 u] w fun e w' =>
      e = .returned (.tuple #[]) ∧ ∃ (n v' : Nat) (dk : Array UInt8), w' = (putRow (fun (b : UInt8) => Value.int .u8 (b.toNat : Int)) w blk off dk).drewN n ∧ FmtInv d.size u 0 v' dk := Any.internal_strconv_formatBase10 Tryz.lays285 blk off cap u d w hH hu hu64 hsz
def Tryz.lays145_ren : Go.Shelf.Ren := ⟨fun | 145 => 95 | 220 => 137 | 219 => 177 | 217 => 132 | 225 => 211 | 224 => 212 | 267 => 213 | 266 => 178 | 314 => 243 | n => n, fun | 9 => 9 | 4 => 4 | 59 => 132 | 3 => 3 | 5 => 5 | 46 => 59 | 146 => 273 | 51 => 183 | n => n, fun | 1 => 3 | n => n⟩
theorem Tryz.lays145 : Go.Proofs.Lays.n145 Tryz.prog Tryz.lays145_ren := {
  mixed := by kernel_rfl
  f145 := Tryz.func95.trans (congrArg some (by kernel_rfl))
  f217 := Tryz.func132.trans (congrArg some (by kernel_rfl))
  f219 := Tryz.func177.trans (congrArg some (by kernel_rfl))
  f220 := Tryz.func137.trans (congrArg some (by kernel_rfl))
  f224 := Tryz.func212.trans (congrArg some (by kernel_rfl))
  f225 := Tryz.func211.trans (congrArg some (by kernel_rfl))
  f266 := Tryz.func178.trans (congrArg some (by kernel_rfl))
  f267 := Tryz.func213.trans (congrArg some (by kernel_rfl))
  f314 := Tryz.func243.trans (congrArg some (by kernel_rfl))
  t3 := Tryz.underlying3
  a3 := Tryz.isAgg3
  z3 := Tryz.sizeOf3
  v3 := Tryz.zeroValue3
  t4 := Tryz.underlying4
  a4 := Tryz.isAgg4
  z4 := Tryz.sizeOf4
  v4 := Tryz.zeroValue4
  t5 := Tryz.underlying5
  a5 := Tryz.isAgg5
  z5 := Tryz.sizeOf5
  v5 := Tryz.zeroValue5
  t9 := Tryz.underlying9
  a9 := Tryz.isAgg9
  z9 := Tryz.sizeOf9
  v9 := Tryz.zeroValue9
  t46 := Tryz.underlying59
  a46 := Tryz.isAgg59
  z46 := Tryz.sizeOf59
  v46 := Tryz.zeroValue59
  t51 := Tryz.underlying183
  a51 := Tryz.isAgg183
  z51 := Tryz.sizeOf183
  v51 := Tryz.zeroValue183
  t59 := Tryz.underlying132
  a59 := Tryz.isAgg132
  z59 := Tryz.sizeOf132
  v59 := Tryz.zeroValue132
  t146 := Tryz.underlying273
  a146 := Tryz.isAgg273
  z146 := Tryz.sizeOf273
  v146 := Tryz.zeroValue273
  g1 := by kernel_rfl }
open Go.RowKit Go.Lib in
theorem Tryz.strings_Cut (s sep : ByteArray) (m : Int) (w : World) (hs : s.size < 4294967281) (hm : w.cell? ⟨3, 0, none⟩ = some (.int .i64 m)) :
    Calls Tryz.prog 95 #[.string s, .string sep] w fun e w' => e = .returned (.tuple #[.string ⟨(Lib.cut s.data.toList sep.data.toList).1.toArray⟩, .string ⟨(Lib.cut s.data.toList sep.data.toList).2.1.toArray⟩, .bool (Lib.cut s.data.toList sep.data.toList).2.2]) ∧ ∃ n, w' = w.drewN n := Any.strings_Cut Tryz.lays145 s sep m w hs hm
def Tryz.laysM145_ren : Go.Shelf.Ren := ⟨fun | 145 => 95 | 220 => 137 | 219 => 177 | 217 => 132 | 225 => 211 | 224 => 212 | 267 => 213 | 266 => 178 | 314 => 243 | n => n, fun | 9 => 9 | 4 => 4 | 59 => 132 | 3 => 3 | 5 => 5 | 46 => 59 | 146 => 273 | 51 => 183 | n => n, fun | 1 => 3 | n => n⟩
theorem Tryz.laysM145 : Go.Proofs.LaysM.n145 Tryz.prog Tryz.laysM145_ren := {
  mixed := by kernel_rfl
  f145 := Tryz.func95.trans (congrArg some (by kernel_rfl))
  f217 := Tryz.func132.trans (congrArg some (by kernel_rfl))
  f219 := Tryz.func177.trans (congrArg some (by kernel_rfl))
  f220 := Tryz.func137.trans (congrArg some (by kernel_rfl))
  f224 := Tryz.func212.trans (congrArg some (by kernel_rfl))
  f225 := Tryz.func211.trans (congrArg some (by kernel_rfl))
  f266 := Tryz.func178.trans (congrArg some (by kernel_rfl))
  f267 := Tryz.func213.trans (congrArg some (by kernel_rfl))
  f314 := Tryz.func243.trans (congrArg some (by kernel_rfl))
  t3 := Tryz.underlying3
  a3 := Tryz.isAgg3
  z3 := Tryz.sizeOf3
  v3 := Tryz.zeroValue3
  t4 := Tryz.underlying4
  a4 := Tryz.isAgg4
  z4 := Tryz.sizeOf4
  v4 := Tryz.zeroValue4
  t5 := Tryz.underlying5
  a5 := Tryz.isAgg5
  z5 := Tryz.sizeOf5
  v5 := Tryz.zeroValue5
  t9 := Tryz.underlying9
  a9 := Tryz.isAgg9
  z9 := Tryz.sizeOf9
  v9 := Tryz.zeroValue9
  t46 := Tryz.underlying59
  a46 := Tryz.isAgg59
  z46 := Tryz.sizeOf59
  v46 := Tryz.zeroValue59
  t51 := Tryz.underlying183
  a51 := Tryz.isAgg183
  z51 := Tryz.sizeOf183
  v51 := Tryz.zeroValue183
  t59 := Tryz.underlying132
  a59 := Tryz.isAgg132
  z59 := Tryz.sizeOf132
  v59 := Tryz.zeroValue132
  t146 := Tryz.underlying273
  a146 := Tryz.isAgg273
  z146 := Tryz.sizeOf273
  v146 := Tryz.zeroValue273
  g1 := by kernel_rfl
  i3 := by kernel_rfl
  i4 := by kernel_rfl
  i5 := by kernel_rfl
  i9 := by kernel_rfl
  i46 := by kernel_rfl
  i51 := by kernel_rfl
  i59 := by kernel_rfl
  i146 := by kernel_rfl
  m1 := by kernel_rfl
  s1_3 := fun w h => Go.Proofs.cell_of_shapedOpen_int (zero := #[.int .i64 0]) (t := 3) h (of_decide_eq_true (by kernel_rfl)) (by kernel_rfl) rfl (by kernel_rfl) (by kernel_rfl) Tryz.underlying3 }
def Tryz.lays264_ren : Go.Shelf.Ren := ⟨fun | 264 => 257 | n => n, fun | 53 => 23 | 46 => 59 | n => n, fun | n => n⟩
theorem Tryz.lays264 : Go.Proofs.Lays.n264 Tryz.prog Tryz.lays264_ren := {
  mixed := by kernel_rfl
  f264 := Tryz.func257.trans (congrArg some (by kernel_rfl))
  t46 := Tryz.underlying59
  a46 := Tryz.isAgg59
  z46 := Tryz.sizeOf59
  v46 := Tryz.zeroValue59
  t53 := Tryz.underlying23
  a53 := Tryz.isAgg23
  z53 := Tryz.sizeOf23
  v53 := Tryz.zeroValue23 }
open Go.RowKit Go.Lib in
theorem Tryz.bits_Mul64 (x y : Nat) (hx : x < 18446744073709551616) (hy : y < 18446744073709551616) (w : World) :
    Calls Tryz.prog 257 #[.int .u64 x, .int .u64 y] w fun e w' => e = .returned (.tuple #[.int .u64 ((x * y / 18446744073709551616 : Nat) : Int), .int .u64 ((x * y % 18446744073709551616 : Nat) : Int)]) ∧ w' = w := Any.bits_Mul64 Tryz.lays264 x y hx hy w
end Go.Proofs
