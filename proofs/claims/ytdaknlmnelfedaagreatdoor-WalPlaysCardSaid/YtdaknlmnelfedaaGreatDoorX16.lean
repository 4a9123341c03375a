/- The law's few: a script of a size that is looked at. -/
import Derived.Test.YtdaknlmnelfedaaGreatDoorX14
namespace Go.Proofs.YtdaknlmnelfedaaGreatDoor
open Go.RowKit Go.Maps Go.ChangeMaps Go.MapKept
namespace X16
open Jb Jm Jd Jw Jx Jn Je Jf Jg Jh Jk Jc Jl Jo Jq Jr J1 J2 J3 J4 W1 W2 W3 V1 V2 V3 V4 V5 V6 V7 V8 V9 Va Vb Vc Vd Ve Vf Vg X1 X2 X3 X4 X5 X6 X7 X8 X9 X10 X11 X12 X13 X14

/-- A call of a script, three cells. -/
def OAt (w : World) (b o : Nat) (K N : Int) (sv : Value) : Prop := w.cell? ⟨b, o, none⟩ = some (.int .i64 K) ∧ w.cell? ⟨b, o + 1, none⟩ = some (.int .i64 N) ∧ w.cell? ⟨b, o + 2, none⟩ = some sv
/-- A script that came in. -/
def BO (w : World) (v : Value) (xs : List (Int × Int × List Nat)) : Prop :=
  (xs = [] ∧ ∃ a c, v = .slice a 0 c) ∨ ∃ b off c, v = .slice (some ⟨b, off, none⟩) xs.length c ∧ 0 < xs.length ∧ b < w.heap.size ∧ ∀ i (h : i < xs.length), ∃ a cc, OAt w b (off + i * 3) xs[i].1 xs[i].2.1 (.slice a xs[i].2.2.length cc) ∧ Src w (fun k => k < w.heap.size) (.slice a xs[i].2.2.length cc) xs[i].2.2 ∧ (a = none → cc = 0)
/-- The script, in whatever world behind W. -/
def AtS (W : World) (B : Nat) (a0 : Option Addr) (xs : List (Int × Int × List Nat)) (k : Nat) : Prop :=
  ∃ b off K N a cc bs, a0 = some ⟨b, off, none⟩ ∧ xs[k]? = some (K, N, bs) ∧ (∀ w, Below B W w → OAt w b (off + k * 3) K N (.slice a bs.length cc)) ∧ (∀ w, Below B W w → Src w (fun k => k < B) (.slice a bs.length cc) bs) ∧ (a = none → cc = 0)
set_option maxRecDepth 100000 in
set_option maxHeartbeats 2000000 in
theorem few6 (W w1 : World) (B n : Nat) (a0 : Option Addr) (c0 : Nat) (xs : List (Int × Int × List Nat)) (AR : ∀ k, k < n → AtS W B a0 xs k) (hb : Below B W w1) (hl : ∀ x ∈ xs, x.2.2.length ≤ 140737488355328) (hn : n ≤ 140737488355328) :
    Calls Tryz.prog 6 #[.slice a0 n c0] w1 fun e w' => ∃ x : Bool, e = .returned (.bool x) ∧ (x = true → n ≤ 201) ∧ w' = w1 := by
  have A := Lib.hid AR
  have HB := Lib.hid hb
  have HL := Lib.hid hl
  clear AR hb hl
  go_enter Tryz.func6, Tryz.ntmps6
  go_wp2_with fail
  go_loopw [3, 4, 7] (fun nv _ i wr => ∃ k s : Nat, k ≤ n ∧ k ≤ 201 ∧ i = .int .i64 (k : Nat) ∧ nv = .int .i64 (s : Nat) ∧ s ≤ 1048576 ∧ wr = w1) (fun _ _ i _ => n - (intOf i).toNat)
  case atStart => exact ⟨0, 0, Nat.zero_le _, by omega, rfl, rfl, by omega, by first | rfl | trivial⟩
  case round =>
    obtain ⟨k, s, hk, hk2, rfl, rfl, hs, rfl⟩ := hrel
    by_cases hkn : k < n
    · obtain ⟨b, off, K, N, a, cc, bs, hv, hx, hc, _, _⟩ := A.out k hkn
      have hkn' : (k : Int) < (n : Int) := by omega
      subst hv
      have hlb := HL.out _ (List.mem_of_getElem? hx)
      simp only at hlb
      obtain ⟨l, hl⟩ : ∃ l, l = bs.length := ⟨_, rfl⟩
      rw [← hl] at hc hlb
      obtain ⟨h1, h2, h3⟩ := hc wr HB.out
      have HKN := Lib.hid hkn
      obtain ⟨mm, hmm⟩ : ∃ mm, mm = min l 1048576 := ⟨_, rfl⟩
      obtain ⟨t, ht⟩ : ∃ t, t = s + mm := ⟨_, rfl⟩
      have qm : min (l : Int) 1048576 = (mm : Int) := by rw [hmm]; omega
      have q1 : wrap64 ((s : Int) + (mm : Int)) = (t : Int) := by unfold wrap64; omega
      have q2 : decide ((t : Int) > 1048576) = true ∨ (decide ((t : Int) > 1048576) = false ∧ decide ((k : Int) > 200) = true) ∨ (decide ((t : Int) > 1048576) = false ∧ decide ((k : Int) > 200) = false ∧ Hid (t ≤ 1048576 ∧ k ≤ 200)) := by
        by_cases h : 1048576 < t
        · exact .inl (decide_eq_true (by omega))
        · by_cases h' : 200 < k
          · exact .inr (.inl ⟨decide_eq_false (by omega), decide_eq_true (by omega)⟩)
          · exact .inr (.inr ⟨decide_eq_false (by omega), decide_eq_false (by omega), Lib.hid ⟨by omega, by omega⟩⟩)
      clear hc hl hx ht hkn hk hk2 hs hlb hmm
      · rcases q2 with p1 | ⟨p1, p2⟩ | ⟨p1, p2, p3⟩
        · go_wp2_with fail
          go_ret
          exact ⟨false, by simp, by simp, by first | rfl | trivial⟩
        · go_wp2_with fail
          go_ret
          exact ⟨false, by simp, by simp, by first | rfl | trivial⟩
        · go_wp2_with fail
          go_roundw
          case rel => exact ⟨k + 1, t, by have := HKN.out; omega, by have := p3.out; omega, by go_num, by first | rfl | go_num, p3.out.1, by first | rfl | trivial⟩
          case measure => have := HKN.out; simp [intOf]; omega
    · obtain rfl : k = n := by omega
      have hkk : ¬ (k : Int) < (k : Int) := by omega
      have H2 := Lib.hid hk2
      clear hkn hk hk2 hs
      go_wp2_with fail
      go_ret
      first | exact .inr ⟨rfl, H2.out, rfl⟩ | exact ⟨true, by simp, fun _ => H2.out, rfl⟩
end X16
end Go.Proofs.YtdaknlmnelfedaaGreatDoor
