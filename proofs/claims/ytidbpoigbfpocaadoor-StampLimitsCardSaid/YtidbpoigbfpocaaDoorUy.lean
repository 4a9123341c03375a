/- The document's side: Unpack. -/
import Derived.Test.YtidbpoigbfpocaaDoorRy
import Derived.Test.YtidbpoigbfpocaaDoorUx
namespace Go.Proofs.YtidbpoigbfpocaaDoor
open Go.RowKit
namespace Uy
open Mt Wr Bm Pk Rp Cv Rd Rx Ry Ux

theorem wrong {bs : List Nat} {n : Int} (h : bs.length % 8 ≠ 0 ∨ n < 0 ∨ 60 * (bs.length : Int) < n) : unpacks bs n = none := by
  unfold unpacks
  by_cases h8 : bs.length % 8 = 0 ∧ 0 ≤ n
  · rw [if_pos h8]
    cases hr : reads n.toNat [] (wordsOf bs (bs.length / 8)) with
    | none => rfl
    | some b =>
      have hl := reads_len hr
      rw [wordsOf_len, List.length_nil] at hl
      simp only [Option.bind_some]
      exact if_neg fun h' => by omega
  · exact if_neg h8

set_option maxRecDepth 100000 in
set_option maxHeartbeats 1000000 in
theorem refwrong10 (w : World) (v : Value) (bs : List Nat) (n : Int) (hv : ∃ a c, v = .slice a bs.length c) (hb : bs.length ≤ 140737488353272) (n1 : -9223372036854775808 ≤ n) (n2 : n ≤ 9223372036854775807)
    (h : bs.length % 8 ≠ 0 ∨ n < 0 ∨ 60 * (bs.length : Int) < n) : Calls Tryd.prog 39 #[v, .int .i64 n] w fun e w' => Unpacked w bs n e w' := by
  obtain ⟨a, c, rfl⟩ := hv
  have HU := Lib.hid (wrong h)
  obtain ⟨len, hlen⟩ : ∃ len, len = bs.length := ⟨_, rfl⟩
  rw [← hlen] at h hb ⊢
  clear hlen
  by_cases g1 : len % 8 = 0
  · by_cases g2 : n < 0
    · clear h
      go_enter Tryd.func39, Tryd.ntmps39
      go_wp2_with (go_at_call 31; refine (widths13 _).mono ?_; rintro e w1 ⟨rfl, hT1, b1⟩)
      go_ret2
      exact ⟨.inr ⟨HU.out, rfl⟩, b1⟩
    · have g3 : 60 * (len : Int) < n := by omega
      clear h
      go_enter Tryd.func39, Tryd.ntmps39
      go_wp2_with (go_at_call 31; refine (widths13 _).mono ?_; rintro e w1 ⟨rfl, hT1, b1⟩)
      go_ret2
      exact ⟨.inr ⟨HU.out, rfl⟩, b1⟩
  · clear h
    go_enter Tryd.func39, Tryd.ntmps39
    go_wp2_with (go_at_call 31; refine (widths13 _).mono ?_; rintro e w1 ⟨rfl, hT1, b1⟩)
    go_ret2
    exact ⟨.inr ⟨HU.out, rfl⟩, b1⟩
end Uy
end Go.Proofs.YtidbpoigbfpocaaDoor
