/- The digits of 1.5 laid into the buffer: sixteen, of which the trailing noughts are cut off. -/
import Derived.Test.YtonbjaegjfegpaaGreatDoorSf
import Derived.Deep.RegionWith
import Derived.LoopTactic
namespace Go.Proofs.YtonbjaegjfegpaaGreatDoor
open Go.RowKit Go.Sort
namespace Sf
set_option maxRecDepth 100000

/-- Thirty-two noughts, as the buffer begins. -/
theorem holds16 (w : World) (b : Nat) (h : ∀ j, j < 32 → w.cell? ⟨b, j, none⟩ = some (.int .u8 0) ∧ w.frozen? ⟨b, j, none⟩ = false) :
    Holds (fun (c : UInt8) => Value.int .u8 (c.toNat : Int)) w b 0 (Array.replicate 16 0) := by
  intro j hj
  have hj' : j < 16 := by simpa using hj
  have e : (Array.replicate 16 (0 : UInt8))[j]! = 0 := by
    rw [getElem!_pos _ j (by simpa using hj')]; simp
  rw [e, Nat.zero_add]
  exact h j (by omega)

/-- A row of one block put anew: the blocks below are as they were. -/
theorem below_put {w : World} {b : Nat} (d : Array UInt8) : Below b w (putRow (fun (c : UInt8) => Value.int .u8 (c.toNat : Int)) w b 0 d) := by
  refine ⟨rfl, rfl, rfl, by simp, fun k hk => ?_⟩
  simp only [putRow, mapBlock, Array.getElem?_modify]
  rw [if_neg (by omega)]

theorem base10 (w : World) (b : Nat) (h : ∀ j, j < 32 → w.cell? ⟨b, j, none⟩ = some (.int .u8 0) ∧ w.frozen? ⟨b, j, none⟩ = false) :
    Calls Tryz.prog 70 #[.slice (some ⟨b, 0, none⟩) 16 32, .int .u64 1500000000000000] w fun e w' => e = .returned (.tuple #[]) ∧ Below b w w' ∧ w'.heap.size = w.heap.size ∧
      w'.cell? ⟨b, 0, none⟩ = some (.int .u8 49) ∧ w'.cell? ⟨b, 1, none⟩ = some (.int .u8 53) ∧ ∀ t, 2 ≤ t → t < 16 → w'.cell? ⟨b, t, none⟩ = some (.int .u8 48) := by
  have hH := holds16 w b h
  have hf := Tryz.internal_strconv_formatBase10 b 0 32 1500000000000000 (Array.replicate 16 0) w hH (by simp) (by decide) (by simp)
  rw [show (Array.replicate 16 (0 : UInt8)).size = 16 by simp] at hf
  refine hf.mono ?_
  rintro e w' ⟨rfl, n, v', dk, rfl, hi⟩
  have hz := hi.size
  have hc : ∀ t, t < 16 → ((putRow (fun (c : UInt8) => Value.int .u8 (c.toNat : Int)) w b 0 dk).drewN n).cell? ⟨b, t, none⟩ = some (.int .u8 ((Lib.dg 1500000000000000 (15 - t)).toNat : Int)) := by
    intro t ht
    have := cell?_putRow (fun (c : UInt8) => Value.int .u8 (c.toNat : Int)) w b 0 _ dk hH (by simp [hz]) t (by omega)
    rw [Nat.zero_add, hi.done t (Nat.zero_le _) (by omega)] at this
    exact this
  have hb : Below b w ((putRow (fun (c : UInt8) => Value.int .u8 (c.toNat : Int)) w b 0 dk).drewN n) := (below_put dk).trans ⟨rfl, rfl, rfl, Nat.le_refl _, fun _ _ => rfl⟩
  refine ⟨rfl, hb, ?_, hc 0 (by decide), hc 1 (by decide), fun t h2 ht => ?_⟩
  · show (putRow _ w b 0 dk).heap.size = _
    simp
  · rw [hc t ht]
    have hd : ∀ k, k < 14 → (Lib.dg 1500000000000000 k).toNat = 48 := by decide
    rw [hd (15 - t) (by omega)]
    rfl

set_option maxHeartbeats 1000000 in
theorem setd (w : World) (b : Nat) (h : ∀ j, j < 32 → w.cell? ⟨b, j, none⟩ = some (.int .u8 0) ∧ w.frozen? ⟨b, j, none⟩ = false) :
    Calls Tryz.prog 118 #[.slice (some ⟨b, 0, none⟩) 32 32, .int .u64 1500000000000000, .int .i64 (-15), .int .i64 16] w fun e w' => e = .returned (.tuple #[.int .i64 1, .int .i64 2]) ∧ Below b w w' ∧ w'.heap.size = w.heap.size ∧
      w'.cell? ⟨b, 0, none⟩ = some (.int .u8 49) ∧ w'.cell? ⟨b, 1, none⟩ = some (.int .u8 53) := by
  have HH := Lib.hid h
  clear h
  go_enter Tryz.func118, Tryz.ntmps118
  go_wp2_with fail
  refine (base10 w b HH.out).mono ?_
  rintro e w1 ⟨rfl, hbel, hsz, c0, c1, cn⟩
  have HC := Lib.hid cn
  have HZ := Lib.hid hsz
  clear cn hsz
  go_wp2_with fail
  go_loop [3] (fun i => ∃ k : Nat, 2 ≤ k ∧ k ≤ 16 ∧ i = .int .i64 k) (fun i => (intOf i).toNat)
  case atStart => exact ⟨16, by omega, by omega, rfl⟩
  case round =>
    obtain ⟨k, hk2, hk, rfl⟩ := hrel
    by_cases hlt : 2 < k
    · have hc := HC.out (k - 1) (by omega) (by omega)
      go_wp2
      exact ⟨⟨k - 1, by omega, by omega, by rw [Int.ofNat_sub (by omega)]; rfl⟩, by simp [intOf]; omega⟩
    · obtain rfl : k = 2 := by omega
      go_wp2
      go_ret2
      exact ⟨rfl, hbel, HZ.out, c0, c1⟩
end Sf
end Go.Proofs.YtonbjaegjfegpaaGreatDoor
