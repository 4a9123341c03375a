/- The cache's calls that look at its numbers alone, and find. -/
import Derived.Test.YtloiclmngmnbdaaLp
import Derived.Test.YtloiclmngmnbdaaShelf
import Derived.WalkSpells
namespace Go.Proofs.Ytloiclmngmnbdaa
open Go.RowKit Go.Maps Go.ChangeMaps Go.MapKept
namespace Cq
open Jb Ca Ck Ct Cd Ls Lb Lc Ld Li Lj Lk Lm Ln Lo Lp

set_option maxRecDepth 100000
theorem put35 (w : World) (f : Co) (h : Cm w f) (p : Pnt) (hp : Wp p) (hl : f.L.length ≤ 511) :
    Calls Try.prog 35 #[.pointer (some ⟨f.blk, 0, none⟩), pa p] w fun e w' => e = .returned (.tuple #[]) ∧ Put w f.blk (foot f) (ins p f.L) w' := by
  have hc := cnt_le p.1 f.L
  by_cases h1 : cnt p.1 f.L < f.L.length
  · by_cases h2 : has p.1 f.L = true
    · exact put35_old w f h p hp hl h1 h2
    · exact put35_new w f h p hp hl h1 (by simpa using h2)
  · refine put35_end w f h p hp hl (by omega) ?_
    cases hh : has p.1 f.L
    · rfl
    · exact absurd ((has_iff h.rise p.1).1 hh).1 h1
theorem clone34 (w : World) (s : ByteArray) (hs : s.size ≤ 281474976710656) : Calls Try.prog 34 #[.string s] w fun e w' => e = .returned (.string s) ∧ Below w.heap.size w w' := by
  have HC := Lib.hid (Try.stringslite_Clone s w hs)
  clear hs
  go_enter Try.func34, Try.ntmps34
  go_wp2_with (go_at_call 53; refine (HC.out).mono ?_; rintro e w' ⟨rfl, hb⟩)
  go_ret
  exact ⟨rfl, hb⟩
theorem size12 (w : World) (g : Nat) (d : St) (h : Cs w g d) : Calls Try.prog 12 #[.pointer (some ⟨g, 0, none⟩)] w fun e w' => e = .returned (.int .i64 (d.size : Nat)) ∧ w' = w := by
  have c1 := h.c1
  clear h
  go_enter Try.func12, Try.ntmps12
  go_wp2_with fail
  go_ret
  simp
theorem size12_nil (w : World) : Calls Try.prog 12 #[.pointer none] w fun e w' => e = .returned (.int .i64 0) ∧ w' = w := by
  go_enter Try.func12, Try.ntmps12
  go_wp2_with fail
  go_ret
  simp
/-- A cache without columns. -/
def st0 (most : Nat) : St := ⟨most, 0, .map none, fun _ => none⟩
theorem new_cell (w : World) (vs : Array Value) (t : TypeId) (i : Nat) (v : Value) (h : vs[i]? = some v) : (w.alloc (.cells vs t)).cell? ⟨w.heap.size, i, none⟩ = some v := by
  rw [cell_of_row _ _ _ _ _ _ (heap_alloc_new _ _)]; exact h
theorem new9 (w : World) (n : Int) (hn : -9223372036854775808 ≤ n ∧ n ≤ 9223372036854775807) :
    Calls Try.prog 9 #[.int .i64 n] w fun e w' => e = .returned (.pointer (some ⟨w.heap.size, 0, none⟩)) ∧ Dk w' (fun k => w.heap.size ≤ k ∧ k < w'.heap.size) w.heap.size 0 (st0 n.toNat) ∧ Below w.heap.size w w' := by
  obtain ⟨m, hme⟩ : ∃ m, m = n.toNat := ⟨_, rfl⟩
  have hm : ∀ (ty : TypeId) (y : World), (Builtin.max_ #[3, 3] ty #[.int .i64 n, .int .i64 0]).run Try.prog y = .ok (.int .i64 (m : Nat)) y := by
    intro ty y
    rw [run_max_int2]
    have e : (if (0 : Int) > n then 0 else n) = (m : Nat) := by split <;> omega
    rw [e]
  rw [← hme]
  have HMB := Lib.hid (show m ≤ 9223372036854775807 by omega)
  clear hme hn
  go_enter Try.func9, Try.ntmps9
  go_wp2_with fail
  go_ret
  have b : Below w.heap.size w (w.alloc (.cells #[.int .i64 (m : Nat), .int .i64 0, .map none] 60)) := (Below.refl _ w).alloc (Nat.le_refl _) _
  refine ⟨rfl, ⟨⟨new_cell _ _ _ 0 _ rfl, new_cell _ _ _ 1 _ rfl, new_cell _ _ _ 2 _ rfl, fun i => frozen_of_row _ _ _ _ _ (heap_alloc_new _ _), HMB.out, by simp [st0]⟩, ⟨Nat.le_refl _, by simp⟩, fun k hk => hk.2, .inl ⟨rfl, fun s => rfl⟩, ?_, ?_, ?_⟩, b⟩
  · intro m e; simp [st0] at e
  · intro s f e; simp [st0] at e
  · intro s s' f f' _ e; simp [st0] at e
theorem clear20_nil (w : World) : Calls Try.prog 20 #[.pointer none] w fun e w' => e = .returned (.tuple #[]) ∧ w' = w := by
  go_enter Try.func20, Try.ntmps20
  go_wp2_with fail
  refine bodyPost_ret (v := .tuple #[]) (by simp [results, Try.results20, go_sem]) rfl ⟨rfl, rfl⟩
theorem clear20 (w : World) (S : Nat → Prop) (g N : Nat) (d : St) (h : Dk w S g N d) : Calls Try.prog 20 #[.pointer (some ⟨g, 0, none⟩)] w fun e w' => e = .returned (.tuple #[]) ∧ Dk w' S g 0 { d with size := 0, fv := .map none, F := fun _ => none } ∧ Chg w w' S := by
  have c1 := h.cs.c1
  have c2 := h.cs.c2
  have z1 := h.cs.z 1
  have z2 := h.cs.z 2
  have H := Lib.hid h
  clear h
  go_enter Try.func20, Try.ntmps20
  go_wp2_with fail
  have hm := H.out
  have k1 := (hm.cs.set1 0 (by decide)).set2 (.map none)
  refine bodyPost_end (v := .tuple #[]) (by simp [results, Try.results20, go_sem]) rfl ⟨rfl, ⟨⟨k1.c0, k1.c1, k1.c2, k1.z, k1.bm, k1.bs⟩, hm.sg, fun k hk => by simpa using hm.lt k hk, .inl ⟨rfl, fun s => rfl⟩, ?_, ?_, ?_⟩, ((Chg.refl w S).setCell hm.sg _).setCell hm.sg _⟩
  · intro m e; simp at e
  · intro s f e; simp at e
  · intro s s' f f' _ e; simp at e
theorem find25_nil (w : World) (s : Ky) : Calls Try.prog 25 #[.pointer none, kv s] w fun e w' => ∃ b, e = .returned (.pointer (some ⟨b, 0, none⟩)) ∧ w.heap.size ≤ b ∧ w'.cell? ⟨b, 0, none⟩ = some (.slice none 0 0) ∧ w'.frozen? ⟨b, 0, none⟩ = false ∧ Below w.heap.size w w' := by
  unfold kv
  go_enter Try.func25, Try.ntmps25
  go_wp2_with fail
  go_quiet (fail)
  go_wp2_with fail
  go_ret
  refine ⟨w.heap.size + 1, rfl, by omega, ?_, ?_, ?_⟩
  · have := cell_new_l ((w.alloc (.cells #[.string s.1, .string s.2] 65)).drewN nq) (.slice none 0 0) 87
    simpa using this
  · have e := heap_alloc_new ((w.alloc (.cells #[.string s.1, .string s.2] 65)).drewN nq) (.cells #[.slice none 0 0] 87)
    have : (((w.alloc (.cells #[.string s.1, .string s.2] 65)).drewN nq).alloc (.cells #[.slice none 0 0] 87)).frozen? ⟨w.heap.size + 1, 0, none⟩ = false := frozen_of_row _ _ _ _ _ (by simpa using e)
    exact this
  · exact (bdn ((Below.refl _ w).alloc (Nat.le_refl _) _) nq).alloc (by simp) _
theorem find25_none (w : World) (S : Nat → Prop) (g N : Nat) (d : St) (h : Dk w S g N d) (s : Ky) (hs : ok s) (hF : d.F s = none) : Calls Try.prog 25 #[.pointer (some ⟨g, 0, none⟩), kv s] w fun e w' => ∃ b, e = .returned (.pointer (some ⟨b, 0, none⟩)) ∧ w.heap.size ≤ b ∧ w'.cell? ⟨b, 0, none⟩ = some (.slice none 0 0) ∧ w'.frozen? ⟨b, 0, none⟩ = false ∧ Below w.heap.size w w' := by
  have c2 := alloc_cell (.cells #[.string s.1, .string s.2] 65) h.cs.c2
  have hl : ∀ n, (Instr.lookup 58 d.fv (kv s) false).run Try.prog ((w.alloc (.cells #[.string s.1, .string s.2] 65)).drewN n) = .ok (.pointer none) ((w.alloc (.cells #[.string s.1, .string s.2] 65)).drewN n) := fun n => by
    have := (h.move (w' := (w.alloc (.cells #[.string s.1, .string s.2] 65)).drewN n) (by simp) (fun k hk => Below.heap_alloc w _ k (h.lt k hk))).look hs
    rw [hF] at this
    exact this
  have FV := Lib.hid h.fv
  clear h hF hs
  unfold kv at hl ⊢
  go_enter Try.func25, Try.ntmps25
  go_wp2_with fail
  go_quiet (fail)
  go_wp2_with fail
  go_ret
  refine ⟨w.heap.size + 1, rfl, by omega, ?_, ?_, ?_⟩
  · have := cell_new_l ((w.alloc (.cells #[.string s.1, .string s.2] 65)).drewN nq) (.slice none 0 0) 87
    simpa using this
  · have e := heap_alloc_new ((w.alloc (.cells #[.string s.1, .string s.2] 65)).drewN nq) (.cells #[.slice none 0 0] 87)
    have : (((w.alloc (.cells #[.string s.1, .string s.2] 65)).drewN nq).alloc (.cells #[.slice none 0 0] 87)).frozen? ⟨w.heap.size + 1, 0, none⟩ = false := frozen_of_row _ _ _ _ _ (by simpa using e)
    exact this
  · exact (bdn ((Below.refl _ w).alloc (Nat.le_refl _) _) nq).alloc (by simp) _
theorem find25_some (w : World) (S : Nat → Prop) (g N : Nat) (d : St) (h : Dk w S g N d) (s : Ky) (hs : ok s) (f : Co) (hF : d.F s = some f) : Calls Try.prog 25 #[.pointer (some ⟨g, 0, none⟩), kv s] w fun e w' => e = .returned (.pointer (some ⟨f.blk, 0, none⟩)) ∧ Below w.heap.size w w' := by
  have c2 := alloc_cell (.cells #[.string s.1, .string s.2] 65) h.cs.c2
  have hl : ∀ n, (Instr.lookup 58 d.fv (kv s) false).run Try.prog ((w.alloc (.cells #[.string s.1, .string s.2] 65)).drewN n) = .ok (.pointer (some ⟨f.blk, 0, none⟩)) ((w.alloc (.cells #[.string s.1, .string s.2] 65)).drewN n) := fun n => by
    have := (h.move (w' := (w.alloc (.cells #[.string s.1, .string s.2] 65)).drewN n) (by simp) (fun k hk => Below.heap_alloc w _ k (h.lt k hk))).look hs
    rw [hF] at this
    exact this
  clear h hF hs
  unfold kv at hl ⊢
  go_enter Try.func25, Try.ntmps25
  go_wp2_with fail
  go_quiet (fail)
  go_wp2_with fail
  go_quiet (fail)
  go_wp2_with fail
  go_ret
  exact ⟨rfl, bdn (bdn ((Below.refl _ w).alloc (Nat.le_refl _) _) _) _⟩
end Cq
end Go.Proofs.Ytloiclmngmnbdaa
