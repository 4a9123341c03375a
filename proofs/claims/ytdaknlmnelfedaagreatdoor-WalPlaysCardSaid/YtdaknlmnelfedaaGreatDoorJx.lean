/- The disk's calls that look at its numbers alone. -/
import Derived.Test.YtdaknlmnelfedaaGreatDoorJw
namespace Go.Proofs.YtdaknlmnelfedaaGreatDoor
open Go.RowKit Go.Maps Go.ChangeMaps Go.MapKept
namespace Jx
open Jb Jm Jd Jw

set_option maxRecDepth 100000
theorem down24 (w : World) (g : Nat) (d : St) (h : Cs w g d) : Calls Tryz.prog 12 #[.pointer (some ⟨g, 0, none⟩)] w fun e w' => e = .returned (.bool d.down) ∧ w' = w := by
  have c5 := h.c5
  clear h
  go_enter Tryz.func12, Tryz.ntmps12
  go_wp2_with fail
  go_ret
  trivial
theorem down24_nil (w : World) : Calls Tryz.prog 12 #[.pointer none] w fun e w' => e = .returned (.bool true) ∧ w' = w := by
  go_enter Tryz.func12, Tryz.ntmps12
  go_wp2_with fail
  go_ret
  trivial
theorem used19 (w : World) (g : Nat) (d : St) (h : Cs w g d) : Calls Tryz.prog 14 #[.pointer (some ⟨g, 0, none⟩)] w fun e w' => e = .returned (.int .i64 (d.used : Nat)) ∧ w' = w := by
  have c1 := h.c1
  clear h
  go_enter Tryz.func14, Tryz.ntmps14
  go_wp2_with fail
  go_ret
  trivial
theorem used19_nil (w : World) : Calls Tryz.prog 14 #[.pointer none] w fun e w' => e = .returned (.int .i64 0) ∧ w' = w := by
  go_enter Tryz.func14, Tryz.ntmps14
  go_wp2_with fail
  go_ret
  trivial
def opD (d : St) : St := if d.fused then (if d.fuse = 0 then { d with down := true } else { d with fuse := d.fuse - 1 }) else d
def opE (d : St) : Nat := if d.fused = true ∧ d.fuse = 0 then 8 else 0
theorem opD_fv (d : St) : (opD d).fv = d.fv := by unfold opD; split; split <;> rfl; rfl
theorem opD_F (d : St) : (opD d).F = d.F := by unfold opD; split; split <;> rfl; rfl
theorem operate40 (w : World) (g : Nat) (d : St) (h : Cs w g d) : Calls Tryz.prog 63 #[.pointer (some ⟨g, 0, none⟩)] w fun e w' => e = .returned (.int .i64 (opE d : Nat)) ∧ Cs w' g (opD d) ∧ Chg w w' (fun k => k = g) := by
  have c3 := h.c3
  have c4 := h.c4
  have c5 := h.c5
  have z4 := h.z 4
  have z5 := h.z 5
  have bf := h.bf
  have H := Lib.hid h
  clear h
  by_cases hf : d.fused = true
  · rw [hf] at c3
    by_cases h0 : d.fuse = 0
    · have e1 : opE d = 8 := if_pos ⟨hf, h0⟩
      have e2 : opD d = { d with down := true } := by unfold opD; rw [if_pos hf, if_pos h0]
      rw [e1, e2]
      replace c4 : w.cell? ⟨g, 4, none⟩ = some (.int .i64 0) := by rw [c4, h0]; rfl
      clear hf h0 e1 e2 bf
      go_enter Tryz.func63, Tryz.ntmps63
      go_wp2_with fail
      go_ret
      exact ⟨rfl, H.out.set5 true, (Chg.refl w (fun k => k = g)).setCell rfl _⟩
    · have e1 : opE d = 0 := if_neg (fun x => h0 x.2)
      obtain ⟨k, hk⟩ : ∃ k, d.fuse = k + 1 := ⟨d.fuse - 1, by omega⟩
      have e2 : opD d = { d with fuse := k } := by unfold opD; rw [if_pos hf, if_neg h0, hk]; rfl
      rw [e1, e2]
      rw [hk] at c4 bf
      have q : (((k + 1 : Nat) : Int) == 0) = false := by simp; omega
      have q2 : IntKind.i64.wrap (((k + 1 : Nat) : Int) - 1) = (k : Nat) := by rw [IntKind.wrap_i64]; omega
      clear hf h0 e1 e2 hk
      go_enter Tryz.func63, Tryz.ntmps63
      go_wp2_with fail
      go_ret
      exact ⟨rfl, H.out.set4 k (by omega), (Chg.refl w (fun k => k = g)).setCell rfl _⟩
  · have hf' : d.fused = false := by simpa using hf
    have e1 : opE d = 0 := if_neg (fun x => hf x.1)
    have e2 : opD d = d := if_neg hf
    rw [e1, e2]
    rw [hf'] at c3
    clear hf hf' e1 e2
    go_enter Tryz.func63, Tryz.ntmps63
    go_wp2_with fail
    go_ret
    exact ⟨rfl, H.out, Chg.refl w _⟩
theorem setRoom20 (w : World) (g : Nat) (d : St) (n : Int) (hn : -9223372036854775808 ≤ n ∧ n ≤ 9223372036854775807) (h : Cs w g d) :
    Calls Tryz.prog 13 #[.pointer (some ⟨g, 0, none⟩), .int .i64 n] w fun e w' => e = .returned (.tuple #[]) ∧ Cs w' g { d with room := n.toNat } ∧ Chg w w' (fun k => k = g) := by
  have c2 := h.c2
  have z2 := h.z 2
  have H := Lib.hid h
  clear h
  obtain ⟨m, hme⟩ : ∃ m, m = n.toNat := ⟨_, rfl⟩
  have hm : ∀ (ty : TypeId) (y : World), (Builtin.max_ #[3, 3] ty #[.int .i64 n, .int .i64 0]).run Tryz.prog y = .ok (.int .i64 (m : Nat)) y := by
    intro ty y
    rw [run_max_int2]
    have e : (if (0 : Int) > n then 0 else n) = (m : Nat) := by split <;> omega
    rw [e]
  rw [← hme]
  have hmb : m ≤ 9223372036854775807 := by omega
  have HMB := Lib.hid hmb
  clear hme hmb
  go_enter Tryz.func13, Tryz.ntmps13
  go_wp2_with fail
  refine bodyPost_end (v := .tuple #[]) (by simp [results, Tryz.results13, go_sem]) rfl ⟨rfl, H.out.set2 _ HMB.out, (Chg.refl w (fun k => k = g)).setCell rfl _⟩
theorem setRoom20_nil (w : World) (n : Int) : Calls Tryz.prog 13 #[.pointer none, .int .i64 n] w fun e w' => e = .returned (.tuple #[]) ∧ w' = w := by
  go_enter Tryz.func13, Tryz.ntmps13
  go_wp2_with fail
  refine bodyPost_ret (v := .tuple #[]) (by simp [results, Tryz.results13, go_sem]) rfl ⟨rfl, rfl⟩
theorem setFuse21 (w : World) (g : Nat) (d : St) (n : Int) (hn : -9223372036854775808 ≤ n ∧ n ≤ 9223372036854775807) (h : Cs w g d) :
    Calls Tryz.prog 10 #[.pointer (some ⟨g, 0, none⟩), .int .i64 n] w fun e w' => e = .returned (.tuple #[]) ∧ Cs w' g { d with fused := decide (0 ≤ n), fuse := n.toNat } ∧ Chg w w' (fun k => k = g) := by
  have c3 := h.c3
  have z3 := h.z 3
  have c4 := h.c4
  have z4 := h.z 4
  have H := Lib.hid h
  clear h
  obtain ⟨m, hme⟩ : ∃ m, m = n.toNat := ⟨_, rfl⟩
  have hm : ∀ (ty : TypeId) (y : World), (Builtin.max_ #[3, 3] ty #[.int .i64 n, .int .i64 0]).run Tryz.prog y = .ok (.int .i64 (m : Nat)) y := by
    intro ty y
    rw [run_max_int2]
    have e : (if (0 : Int) > n then 0 else n) = (m : Nat) := by split <;> omega
    rw [e]
  rw [← hme]
  have hmb : m ≤ 9223372036854775807 := by omega
  have HMB := Lib.hid hmb
  clear hme hmb
  go_enter Tryz.func10, Tryz.ntmps10
  go_wp2_with fail
  refine bodyPost_end (v := .tuple #[]) (by simp [results, Tryz.results10, go_sem]) rfl ⟨rfl, (H.out.set3 _).set4 _ HMB.out, ((Chg.refl w (fun k => k = g)).setCell rfl _).setCell rfl _⟩
theorem setFuse21_nil (w : World) (n : Int) : Calls Tryz.prog 10 #[.pointer none, .int .i64 n] w fun e w' => e = .returned (.tuple #[]) ∧ w' = w := by
  go_enter Tryz.func10, Tryz.ntmps10
  go_wp2_with fail
  refine bodyPost_ret (v := .tuple #[]) (by simp [results, Tryz.results10, go_sem]) rfl ⟨rfl, rfl⟩
/-- A disk without files. -/
def st0 (room : Nat) : St := ⟨.map none, fun _ => none, 0, room, false, 0, false⟩
theorem new_cell (w : World) (vs : Array Value) (t : TypeId) (i : Nat) (v : Value) (h : vs[i]? = some v) : (w.alloc (.cells vs t)).cell? ⟨w.heap.size, i, none⟩ = some v := by
  rw [cell_of_row _ _ _ _ _ _ (heap_alloc_new _ _)]; exact h
theorem new9 (w : World) (n : Int) (hn : -9223372036854775808 ≤ n ∧ n ≤ 9223372036854775807) :
    Calls Tryz.prog 7 #[.int .i64 n] w fun e w' => e = .returned (.pointer (some ⟨w.heap.size, 0, none⟩)) ∧ Dk w' (fun k => w.heap.size ≤ k ∧ k < w'.heap.size) w.heap.size 0 (st0 n.toNat) ∧ Below w.heap.size w w' := by
  go_enter Tryz.func7, Tryz.ntmps7
  have C0 : ∀ (w : World), Cs (w.alloc (.cells #[.map none, .int .i64 0, .int .i64 0, .bool false, .int .i64 0, .bool false] 53)) w.heap.size (st0 0) := fun w =>
    ⟨new_cell _ _ _ 0 _ rfl, new_cell _ _ _ 1 _ rfl, new_cell _ _ _ 2 _ rfl, new_cell _ _ _ 3 _ rfl, new_cell _ _ _ 4 _ rfl, new_cell _ _ _ 5 _ rfl, fun i => frozen_of_row _ _ _ _ _ (heap_alloc_new _ _), by simp [st0], by simp [st0], by simp [st0]⟩
  go_wp2_with (go_at_call 13; refine (setRoom20 _ _ (st0 0) n hn (C0 w)).mono ?_; rintro e w' ⟨rfl, k1, k2⟩)
  go_ret
  have hs := k2.size
  simp at hs
  refine ⟨rfl, ⟨k1, ⟨by omega, by omega⟩, fun k hk => hk.2, .inl ⟨rfl, fun s => rfl⟩, ?_, ?_, ?_⟩, ?_⟩
  · intro m e; simp [st0] at e
  · intro s f e; simp [st0] at e
  · intro s s' f f' _ e; simp [st0] at e
  exact ((Below.refl _ w).alloc (Nat.le_refl _) _).trans (k2.below (fun k hk _ => by omega) (by simp))
theorem find42_nil (w : World) (s : ByteArray) : Calls Tryz.prog 58 #[.pointer none, .string s] w fun e w' => e = .returned (.tuple #[.pointer none, .int .i64 8]) ∧ w' = w := by
  go_enter Tryz.func58, Tryz.ntmps58
  go_wp2_with (go_at_call 12; refine (down24_nil _).mono ?_; rintro e w' ⟨rfl, rfl⟩)
  refine bodyPost_ret (v := .tuple #[.pointer none, .int .i64 8]) (by simp [results, Tryz.results58, go_sem]) rfl ⟨rfl, rfl⟩
theorem find42_down (w : World) (g : Nat) (s : ByteArray) (d : St) (h : Cs w g d) (hd : d.down = true) : Calls Tryz.prog 58 #[.pointer (some ⟨g, 0, none⟩), .string s] w fun e w' => e = .returned (.tuple #[.pointer none, .int .i64 8]) ∧ w' = w := by
  have D := down24 w g d h
  rw [hd] at D
  have DD := Lib.hid D
  clear D h hd
  go_enter Tryz.func58, Tryz.ntmps58
  go_wp2_with (go_at_call 12; refine (DD.out).mono ?_; rintro e w' ⟨rfl, rfl⟩)
  refine bodyPost_ret (v := .tuple #[.pointer none, .int .i64 8]) (by simp [results, Tryz.results58, go_sem]) rfl ⟨rfl, rfl⟩
theorem find42_none (w : World) (S : Nat → Prop) (g N : Nat) (s : ByteArray) (hs : s.size ≤ maxLen) (d : St) (h : Dk w S g N d) (hd : d.down = false) (hF : d.F s = none) :
    Calls Tryz.prog 58 #[.pointer (some ⟨g, 0, none⟩), .string s] w fun e w' => e = .returned (.tuple #[.pointer none, .int .i64 6]) ∧ w' = w := by
  have D := down24 w g d h.cs
  rw [hd] at D
  have DD := Lib.hid D
  have c0 := h.cs.c0
  have hl := h.look hs
  rw [hF] at hl
  simp only [pt, Option.map_none] at hl
  clear D h hd
  go_enter Tryz.func58, Tryz.ntmps58
  go_wp2_with (go_at_call 12; refine (DD.out).mono ?_; rintro e w' ⟨rfl, rfl⟩)
  refine bodyPost_ret (v := .tuple #[.pointer none, .int .i64 6]) (by simp [results, Tryz.results58, go_sem]) rfl ⟨rfl, rfl⟩
theorem find42_some (w : World) (S : Nat → Prop) (g N : Nat) (s : ByteArray) (hs : s.size ≤ maxLen) (d : St) (h : Dk w S g N d) (hd : d.down = false) (f : Fi) (hF : d.F s = some f) :
    Calls Tryz.prog 58 #[.pointer (some ⟨g, 0, none⟩), .string s] w fun e w' => e = .returned (.tuple #[.pointer (some ⟨f.blk, 0, none⟩), .int .i64 0]) ∧ w' = w := by
  have D := down24 w g d h.cs
  rw [hd] at D
  have DD := Lib.hid D
  have c0 := h.cs.c0
  have hl := h.look hs
  rw [hF] at hl
  simp only [pt, Option.map_some] at hl
  clear D h hd
  go_enter Tryz.func58, Tryz.ntmps58
  go_wp2_with (go_at_call 12; refine (DD.out).mono ?_; rintro e w' ⟨rfl, rfl⟩)
  refine bodyPost_ret (v := .tuple #[.pointer (some ⟨f.blk, 0, none⟩), .int .i64 0]) (by simp [results, Tryz.results58, go_sem]) rfl ⟨rfl, rfl⟩
end Jx
end Go.Proofs.YtdaknlmnelfedaaGreatDoor
