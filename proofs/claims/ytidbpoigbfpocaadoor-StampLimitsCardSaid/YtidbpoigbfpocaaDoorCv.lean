/- Bytes as strings; Equal; same; the law's own small example. -/
import Derived.Test.YtidbpoigbfpocaaDoorRe
import Derived.Laws.BytesArg
import Derived.Laws.BytesString
import Derived.Laws.IdiomStrings
namespace Go.Proofs.YtidbpoigbfpocaaDoor
open Go.RowKit
namespace Cv
open Mt Wr Bm Pk Rp

/-- A slice of these bytes, its address plain where there are any. -/
def Pl (w : World) (s : Value) (bs : List Nat) : Prop :=
  (bs = [] ∧ ∃ a c, s = .slice a 0 c) ∨ (0 < bs.length ∧ ∃ b off c, s = .slice (some ⟨b, off, none⟩) bs.length c ∧ bs.length ≤ c ∧ ∀ i, i < bs.length → w.cell? ⟨b, off + i, none⟩ = some (.int .u8 (bs.getD i 0 : Nat)))

theorem Pl.below {w w' : World} {s : Value} {bs : List Nat} (h : Pl w s bs) (b : Below w.heap.size w w') : Pl w' s bs := by
  rcases h with h | ⟨h0, b0, off, c, rfl, hl, hc⟩
  · exact .inl h
  · exact .inr ⟨h0, b0, off, c, rfl, hl, fun i hi => (b.cell (by have := cell_lt (hc i hi); exact this)).trans (hc i hi)⟩
theorem pl_own {w : World} {B : Nat} {v : Value} {bs : List Nat} (h : w.ownsRow B 5 1 v bs.length (u8s bs)) (h0 : 0 < bs.length) : Pl w v bs := by
  obtain ⟨_, ⟨_, e⟩ | ⟨g, c, cur, rfl, hg, hh, hnc, hcm, hsz, htk⟩⟩ := h
  · omega
  · refine .inr ⟨h0, g, 0, c, rfl, hnc, fun i hi => ?_⟩
    have h' : w.ownsRow B 5 1 (.slice (some ⟨g, 0, none⟩) bs.length c) bs.length (u8s bs) := ⟨by rw [u8s_len]; omega, .inr ⟨g, c, cur, rfl, hg, hh, hnc, hcm, hsz, htk⟩⟩
    rw [Nat.zero_add, h'.cellAt i (by omega)]
    exact u8s_get bs i hi
theorem pl_is {w : World} {s : Value} {bs : List Nat} (h : Pl w s bs) (hx : s = .slice none 0 0 ∨ ∃ ad c, s = .slice (some ad) bs.length c) : Is w s bs := by
  rcases h with ⟨rfl, a, c, rfl⟩ | ⟨h0, b, off, c, rfl, hl, hc⟩
  · rcases hx with h | ⟨ad, c', h⟩
    · exact .inl ⟨h, rfl⟩
    · exact .inr ⟨ad, c', h, fun j u hj => by simp [u8s] at hj⟩
  · refine .inr ⟨⟨b, off, none⟩, c, rfl, fun j u hj => ?_⟩
    have hjl : j < bs.length := by
      by_cases hjl : j < bs.length
      · exact hjl
      · rw [List.getElem?_eq_none (by rw [u8s_len]; omega)] at hj; cases hj
    rw [u8s_get bs j hjl] at hj
    cases hj
    rw [show (⟨b, off, none⟩ : Addr).add j = ⟨b, off + j, none⟩ from by unfold Addr.add; split <;> simp_all]
    exact hc j hjl

/-- The string of bytes. -/
def str (bs : List Nat) : ByteArray := strOfNums (bs.map fun b : Nat => (b : Int))
theorem str_inj {cs bs : List Nat} (ha : ∀ x ∈ cs, x < 256) (hb : ∀ x ∈ bs, x < 256) (h : str cs = str bs) : cs = bs := by
  have e : (str cs).data.toList = (str bs).data.toList := by rw [h]
  unfold str at e
  rw [strOfNums_data, strOfNums_data] at e
  simp only [List.map_map] at e
  have hl : cs.length = bs.length := by simpa using congrArg List.length e
  apply List.ext_getElem hl
  intro j h1 h2
  have ej : (UInt8.ofNat cs[j]) = UInt8.ofNat bs[j] := by
    have := congrArg (fun l => l[j]?) e
    simpa [h1, h2] using this
  have l1 := ha _ (List.getElem_mem h1)
  have l2 := hb _ (List.getElem_mem h2)
  have := congrArg UInt8.toNat ej
  simp only [UInt8.toNat_ofNat'] at this
  omega
theorem toList_ne {S T : ByteArray} (h : S ≠ T) : (S.toList == T.toList) = false := by
  rw [ByteArray.toList_eq, ByteArray.toList_eq, beq_eq_false_iff_ne]
  intro e
  apply h
  cases S; cases T
  congr 1
  exact Array.toList_inj.1 e
theorem conv_cells (w : World) (src : TypeId) (hs : Tryd.prog.underlying src = some (.slice 5)) (b off c : Nat) (bs : List Nat) (h : ∀ i, i < bs.length → w.cell? ⟨b, off + i, none⟩ = some (.int .u8 (bs.getD i 0 : Nat))) :
    (convert src 9 (.slice (some ⟨b, off, none⟩) bs.length c)).run Tryd.prog w = .ok (.string (str bs)) w := by
  refine run_convert_bytes_arg w src 5 hs Tryd.underlying5 b off bs.length c _ (by simp) (fun i hi => ?_) 9 Tryd.underlying9
  rw [h i hi]
  simp [List.getD_eq_getElem?_getD, hi]
theorem conv_own {w : World} {B : Nat} {v : Value} {bs : List Nat} (h : w.ownsRow B 5 1 v bs.length (u8s bs)) : (convert 24 9 v).run Tryd.prog w = .ok (.string (str bs)) w := by
  rcases Go.Joins.ownsRow_forms h with ⟨rfl, h0⟩ | ⟨g, c, rfl⟩
  · obtain rfl := List.length_eq_zero_iff.1 h0
    exact run_convert_bytes_nil w 24 5 Tryd.underlying24 Tryd.underlying5 0 0 9 Tryd.underlying9
  · refine conv_cells w 24 Tryd.underlying24 g 0 c bs fun i hi => ?_
    rw [Nat.zero_add, h.cellAt i (by omega)]
    exact u8s_get bs i hi
theorem conv_pl {w : World} {s : Value} {bs : List Nat} (h : Pl w s bs) : (convert 24 9 s).run Tryd.prog w = .ok (.string (str bs)) w := by
  rcases h with ⟨rfl, a, c, rfl⟩ | ⟨h0, b, off, c, rfl, hl, hc⟩
  · cases a with
    | none => exact run_convert_bytes_nil w 24 5 Tryd.underlying24 Tryd.underlying5 0 c 9 Tryd.underlying9
    | some a =>
      rw [run_convert_bytes_string w 24 9 5 _ 0 c Tryd.underlying24 Tryd.underlying5 Tryd.underlying9]
      rw [run_bytesToString w a 0 c [] (by simpa using run_loadCells_list (P := Tryd.prog) w a [] (by simp))]
      rfl
  · exact conv_cells w 24 Tryd.underlying24 b off c bs hc


theorem toList_eq {S T : ByteArray} (h : S = T) : (S.toList == T.toList) = true := by rw [h]; simp

set_option maxRecDepth 100000 in
theorem equal_yes (w : World) (u v : Value) (S : ByteArray) (hu : (convert 24 9 u).run Tryd.prog w = .ok (.string S) w) (hv : (convert 24 9 v).run Tryd.prog w = .ok (.string S) w) :
    Calls Tryd.prog 30 #[u, v] w fun e w' => e = .returned (.bool true) ∧ w' = w := by
  go_enter Tryd.func30, Tryd.ntmps30
  go_wp2_with fail
  go_ret
  exact ⟨rfl, rfl⟩
set_option maxRecDepth 100000 in
theorem equal_no (w : World) (u v : Value) (S T : ByteArray) (hu : (convert 24 9 u).run Tryd.prog w = .ok (.string S) w) (hv : (convert 24 9 v).run Tryd.prog w = .ok (.string T) w) (hne : (S.toList == T.toList) = false) :
    Calls Tryd.prog 30 #[u, v] w fun e w' => e = .returned (.bool false) ∧ w' = w := by
  go_enter Tryd.func30, Tryd.ntmps30
  go_wp2_with fail
  go_ret
  exact ⟨rfl, rfl⟩
end Cv
end Go.Proofs.YtidbpoigbfpocaaDoor
