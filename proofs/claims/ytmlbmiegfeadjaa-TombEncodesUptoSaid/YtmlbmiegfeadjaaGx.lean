/- awake; tombs compared. -/
import Derived.Test.YtmlbmiegfeadjaaGw
import Derived.Laws.StructEq
namespace Go.Proofs.Ytmlbmiegfeadjaa
open Go.RowKit
namespace Gx
open Jb Ca Cz Ga Gm Gn Gt Gw

set_option maxRecDepth 100000
set_option maxHeartbeats 4000000
theorem awake9 (w : World) : Calls Try.prog 9 #[] w fun e w' => e = .returned (.bool true) ∧ Below w.heap.size w w' := by
  obtain ⟨S, hS⟩ : ∃ S : ByteArray, S = ⟨#[115]⟩ := ⟨_, rfl⟩
  have ha := heap_alloc_new w (.cells #[.string ⟨#[115]⟩, .string ⟨#[]⟩, .int .i64 0, .int .i64 9] 57)
  have hT : Ti (w.alloc (.cells #[.string ⟨#[115]⟩, .string ⟨#[]⟩, .int .i64 0, .int .i64 9] 57)) (.slice (some ⟨w.heap.size, 0, none⟩) 1 1) [(⟨#[115]⟩, ⟨#[]⟩, 0, 9)] := by
    refine ⟨fun x hx => by obtain rfl : x = _ := by simpa using hx
                           unfold Wt; decide, .inr ⟨_, 0, 1, rfl, Nat.le_refl _, by simp, fun i hi => ?_⟩⟩
    obtain rfl : i = 0 := by simpa using hi
    exact ⟨cell_at ha 0, cell_at ha 1, cell_at ha 2, cell_at ha 3⟩
  have F := covers20 _ _ _ hT (⟨#[115]⟩, ⟨#[102]⟩) 9 (by simp)
  have e : cov [(⟨#[115]⟩, ⟨#[]⟩, 0, 9)] (⟨#[115]⟩, ⟨#[102]⟩) 9 = true := by decide +kernel
  rw [e] at F
  have bA := (Below.refl w.heap.size w).alloc (Nat.le_refl _) (.cells #[.string ⟨#[115]⟩, .string ⟨#[]⟩, .int .i64 0, .int .i64 9] 57)
  have FF := Lib.hid F
  have BA := Lib.hid bA
  clear F ha hT e bA hS S
  go_enter Try.func9, Try.ntmps9
  go_wp2_with fail
  refine FF.out.mono ?_
  rintro e w2 ⟨rfl, b2⟩
  have B2 := Lib.hid (BA.out.trans (b2.mono (by simp)))
  clear b2
  go_wp2_with fail
  go_ret
  exact ⟨rfl, B2.out⟩
theorem neqT (w : World) (x : Tmb) :
    (binOp .neq 44 (.agg #[.string x.1, .string x.2.1, .int .i64 x.2.2.1, .int .i64 x.2.2.2]) (.agg #[.string x.1, .string x.2.1, .int .i64 x.2.2.1, .int .i64 x.2.2.2])).run Try.prog w = .ok (.bool false) w := by
  rw [run_neq_struct, run_equalIn_agg _ _ _ _ _ (by kernel_rfl) Try.stoodInHeld44]
  obtain ⟨s, f, a, b⟩ := x
  simp [go_sem, Program.fieldsOf, Try.underlying44]
theorem same15 (w : World) (v u : Value) (L : List Tmb) (h : Ti w v L) (g : Ti w u L) (hn : L.length * 48 ≤ 140737488355328) :
    Calls Try.prog 15 #[v, u] w fun e w' => e = .returned (.bool true) ∧ Below w.heap.size w w' := by
  obtain ⟨a, c, rfl, hg⟩ := h.get
  obtain ⟨a', c', rfl, hg'⟩ := g.get
  obtain ⟨n, hN⟩ : ∃ n, n = L.length := ⟨_, rfl⟩
  have HG := Lib.hid hg
  have HG' := Lib.hid hg'
  rw [← hN] at hn HG HG' ⊢
  clear h g hg hg' hN
  go_enter Try.func15, Try.ntmps15
  go_wp2_with fail
  go_loopw [13] (fun i wr => ∃ q, q ≤ n ∧ i = .int .i64 (q : Nat) ∧ Hid (Below w.heap.size w wr)) (fun i _ => n - (intOf i).toNat)
  case atStart => exact ⟨0, Nat.zero_le _, rfl, Lib.hid (Below.refl _ _)⟩
  case round =>
    obtain ⟨q, hq, rfl, HB⟩ := hrel
    by_cases hqn : q < n
    case neg =>
      obtain rfl : q = n := by omega
      go_wp2_with fail
      go_ret
      exact ⟨rfl, HB.out⟩
    obtain ⟨b, off, rfl, hnc, hb, hT⟩ := HG.out q hqn
    obtain ⟨b', off', rfl, hnc', hb', hT'⟩ := HG'.out q hqn
    obtain ⟨wa, rfl⟩ : ∃ wa, wa = wr := ⟨_, rfl⟩
    obtain ⟨x0, x1, x2, x3⟩ := hT wa HB.out
    obtain ⟨y0, y1, y2, y3⟩ := hT' wa HB.out
    have zb := HB.out.size
    have hbz : b < wa.heap.size := by omega
    have hbz' : b' < wa.heap.size := by omega
    have qN := fun (y : World) => neqT y (L.getD q t0)
    generalize L.getD q t0 = x at x0 x1 x2 x3 y0 y1 y2 y3 qN hT hT'
    clear hT hT' HG HG'
    obtain ⟨s, f, lo, hi⟩ := x
    simp only at x0 x1 x2 x3 y0 y1 y2 y3 qN
    go_wp2_with fail
    go_quiet (fail)
    all_goals
      go_wp2_with fail
      go_roundw
    case rel => exact ⟨q + 1, by omega, by go_num, Lib.hid (bdn HB.out _)⟩
    case measure => simp [intOf]; omega
end Gx
end Go.Proofs.Ytmlbmiegfeadjaa
