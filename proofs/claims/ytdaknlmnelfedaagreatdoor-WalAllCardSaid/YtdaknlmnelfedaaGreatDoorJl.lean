/- The disk's Read, Sync, Cut, Remove. -/
import Derived.Test.YtdaknlmnelfedaaGreatDoorJk
namespace Go.Proofs.YtdaknlmnelfedaaGreatDoor
open Go.RowKit Go.Maps Go.ChangeMaps Go.MapKept
namespace Jl
open Jb Jm Jd Jw Jx Jn Je Jf Jg Jh Jk Jc

def finE (v : Vw) (s : ByteArray) : Nat := if v.down then 8 else if (v.F s).isNone then 6 else 0
theorem finE_cases (v : Vw) (s : ByteArray) : finE v s = 8 ∨ finE v s = 6 ∨ finE v s = 0 := by unfold finE; split; exact .inl rfl; split; exact .inr (.inl rfl); exact .inr (.inr rfl)
theorem finE_some {d : St} {s : ByteArray} (h : finE (vw d) s = 0) : d.down = false ∧ ∃ f, d.F s = some f := by
  unfold finE at h
  split at h
  · cases h
  · split at h
    · cases h
    · rename_i h1 h2
      refine ⟨by simpa [vw] using h1, ?_⟩
      cases hf : d.F s with
      | none => exact absurd (by simp [vw, hf]) h2
      | some f => exact ⟨f, rfl⟩
theorem finE_zero {d : St} {s : ByteArray} {f : Fi} (hd : d.down = false) (h : d.F s = some f) : finE (vw d) s = 0 := by
  unfold finE; rw [if_neg (by simp [vw, hd]), if_neg (by simp [vw, h])]
theorem find_bad (w : World) (S : Nat → Prop) (g N : Nat) (d : St) (h : Dk w S g N d) (s : ByteArray) (hs : s.size ≤ 140737488355328) (hE : finE (vw d) s ≠ 0) :
    Calls Tryz.prog 58 #[.pointer (some ⟨g, 0, none⟩), .string s] w fun e w' => e = .returned (.tuple #[.pointer none, .int .i64 (finE (vw d) s : Nat)]) ∧ w' = w := by
  by_cases hd : d.down = true
  · have e : finE (vw d) s = 8 := if_pos hd
    rw [e]
    exact find42_down w g s d h.cs hd
  · have hd' : d.down = false := by simpa using hd
    cases hF : d.F s with
    | none =>
      have e : finE (vw d) s = 6 := by unfold finE; rw [if_neg (by simp [vw, hd']), if_pos (by simp [vw, hF])]
      rw [e]
      exact find42_none w S g N s (by unfold maxLen; omega) d h hd' hF
    | some f => exact absurd (finE_zero hd' hF) hE
/-- The operation's part: done. -/
theorem op_on (w : World) (S : Nat → Prop) (g N : Nat) (d : St) (h : Dk w S g N d) (hl : (vw d).lost = false) :
    Calls Tryz.prog 63 #[.pointer (some ⟨g, 0, none⟩)] w fun e w' => e = .returned (.int .i64 0) ∧ Dk w' S g N (opD d) ∧ Chg w w' S := by
  have O := operate40 w g d h.cs
  rw [opE_eq, hl, if_neg (by simp)] at O
  refine O.mono ?_
  rintro e w' ⟨rfl, k1, k2⟩
  exact ⟨rfl, h.nums k2 k1 (opD_fv d) (opD_F d), k2.imp fun k hk _ => hk ▸ h.sg⟩
theorem op_off (w : World) (S : Nat → Prop) (g N : Nat) (d : St) (h : Dk w S g N d) (hl : (vw d).lost = true) :
    Calls Tryz.prog 63 #[.pointer (some ⟨g, 0, none⟩)] w fun e w' => e = .returned (.int .i64 8) ∧ Dk w' S g N (opD d) ∧ Chg w w' S := by
  have O := operate40 w g d h.cs
  rw [opE_eq, hl, if_pos rfl] at O
  refine O.mono ?_
  rintro e w' ⟨rfl, k1, k2⟩
  exact ⟨rfl, h.nums k2 k1 (opD_fv d) (opD_F d), k2.imp fun k hk _ => hk ▸ h.sg⟩
theorem read_nil (w : World) (s : ByteArray) : Calls Tryz.prog 43 #[.pointer none, .string s] w fun e w' => e = .returned (.tuple #[.slice none 0 0, .int .i64 8]) ∧ w' = w := by
  go_enter Tryz.func43, Tryz.ntmps43
  go_wp2_with (go_at_call 58; refine (find42_nil _ _).mono ?_; rintro e w' ⟨rfl, rfl⟩)
  refine bodyPost_ret (v := .tuple #[.slice none 0 0, .int .i64 8]) (by simp [results, Tryz.results43, go_sem]) rfl ⟨rfl, rfl⟩
theorem read_bad (w : World) (S : Nat → Prop) (g N : Nat) (d : St) (h : Dk w S g N d) (s : ByteArray) (hs : s.size ≤ 140737488355328) (hE : finE (vw d) s ≠ 0) :
    Calls Tryz.prog 43 #[.pointer (some ⟨g, 0, none⟩), .string s] w fun e w' => e = .returned (.tuple #[.slice none 0 0, .int .i64 (finE (vw d) s : Nat)]) ∧ w' = w := by
  have B := Lib.hid (find_bad w S g N d h s hs hE)
  rcases finE_cases (vw d) s with e | e | e
  · rw [e] at B ⊢
    clear h hs hE e
    go_enter Tryz.func43, Tryz.ntmps43
    go_wp2_with (go_at_call 58; refine (B.out).mono ?_; rintro e w' ⟨rfl, rfl⟩)
    refine bodyPost_ret (v := .tuple #[.slice none 0 0, .int .i64 8]) (by simp [results, Tryz.results43, go_sem]) rfl ⟨rfl, rfl⟩
  · rw [e] at B ⊢
    clear h hs hE e
    go_enter Tryz.func43, Tryz.ntmps43
    go_wp2_with (go_at_call 58; refine (B.out).mono ?_; rintro e w' ⟨rfl, rfl⟩)
    refine bodyPost_ret (v := .tuple #[.slice none 0 0, .int .i64 6]) (by simp [results, Tryz.results43, go_sem]) rfl ⟨rfl, rfl⟩
  · exact absurd e hE
theorem sync_nil (w : World) (s : ByteArray) : Calls Tryz.prog 50 #[.pointer none, .string s] w fun e w' => e = .returned (.int .i64 8) ∧ w' = w := by
  go_enter Tryz.func50, Tryz.ntmps50
  go_wp2_with (go_at_call 58; refine (find42_nil _ _).mono ?_; rintro e w' ⟨rfl, rfl⟩)
  go_ret
  first | trivial | exact ⟨rfl, rfl⟩
theorem sync_bad (w : World) (S : Nat → Prop) (g N : Nat) (d : St) (h : Dk w S g N d) (s : ByteArray) (hs : s.size ≤ 140737488355328) (hE : finE (vw d) s ≠ 0) :
    Calls Tryz.prog 50 #[.pointer (some ⟨g, 0, none⟩), .string s] w fun e w' => e = .returned (.int .i64 (finE (vw d) s : Nat)) ∧ w' = w := by
  have B := Lib.hid (find_bad w S g N d h s hs hE)
  rcases finE_cases (vw d) s with e | e | e
  · rw [e] at B ⊢
    clear h hs hE e
    go_enter Tryz.func50, Tryz.ntmps50
    go_wp2_with (go_at_call 58; refine (B.out).mono ?_; rintro e w' ⟨rfl, rfl⟩)
    go_ret
    first | trivial | exact ⟨rfl, rfl⟩
  · rw [e] at B ⊢
    clear h hs hE e
    go_enter Tryz.func50, Tryz.ntmps50
    go_wp2_with (go_at_call 58; refine (B.out).mono ?_; rintro e w' ⟨rfl, rfl⟩)
    go_ret
    first | trivial | exact ⟨rfl, rfl⟩
  · exact absurd e hE
theorem remove_nil (w : World) (s : ByteArray) : Calls Tryz.prog 61 #[.pointer none, .string s] w fun e w' => e = .returned (.int .i64 8) ∧ w' = w := by
  go_enter Tryz.func61, Tryz.ntmps61
  go_wp2_with (go_at_call 58; refine (find42_nil _ _).mono ?_; rintro e w' ⟨rfl, rfl⟩)
  go_ret
  first | trivial | exact ⟨rfl, rfl⟩
theorem remove_bad (w : World) (S : Nat → Prop) (g N : Nat) (d : St) (h : Dk w S g N d) (s : ByteArray) (hs : s.size ≤ 140737488355328) (hE : finE (vw d) s ≠ 0) :
    Calls Tryz.prog 61 #[.pointer (some ⟨g, 0, none⟩), .string s] w fun e w' => e = .returned (.int .i64 (finE (vw d) s : Nat)) ∧ w' = w := by
  have B := Lib.hid (find_bad w S g N d h s hs hE)
  rcases finE_cases (vw d) s with e | e | e
  · rw [e] at B ⊢
    clear h hs hE e
    go_enter Tryz.func61, Tryz.ntmps61
    go_wp2_with (go_at_call 58; refine (B.out).mono ?_; rintro e w' ⟨rfl, rfl⟩)
    go_ret
    first | trivial | exact ⟨rfl, rfl⟩
  · rw [e] at B ⊢
    clear h hs hE e
    go_enter Tryz.func61, Tryz.ntmps61
    go_wp2_with (go_at_call 58; refine (B.out).mono ?_; rintro e w' ⟨rfl, rfl⟩)
    go_ret
    first | trivial | exact ⟨rfl, rfl⟩
  · exact absurd e hE
theorem rename_nil (w : World) (s : ByteArray) (t : ByteArray) : Calls Tryz.prog 51 #[.pointer none, .string s, .string t] w fun e w' => e = .returned (.int .i64 8) ∧ w' = w := by
  go_enter Tryz.func51, Tryz.ntmps51
  go_wp2_with (go_at_call 58; refine (find42_nil _ _).mono ?_; rintro e w' ⟨rfl, rfl⟩)
  go_ret
  first | trivial | exact ⟨rfl, rfl⟩
theorem rename_bad (w : World) (S : Nat → Prop) (g N : Nat) (d : St) (h : Dk w S g N d) (s : ByteArray) (t : ByteArray) (hs : s.size ≤ 140737488355328) (hE : finE (vw d) s ≠ 0) :
    Calls Tryz.prog 51 #[.pointer (some ⟨g, 0, none⟩), .string s, .string t] w fun e w' => e = .returned (.int .i64 (finE (vw d) s : Nat)) ∧ w' = w := by
  have B := Lib.hid (find_bad w S g N d h s hs hE)
  rcases finE_cases (vw d) s with e | e | e
  · rw [e] at B ⊢
    clear h hs hE e
    go_enter Tryz.func51, Tryz.ntmps51
    go_wp2_with (go_at_call 58; refine (B.out).mono ?_; rintro e w' ⟨rfl, rfl⟩)
    go_ret
    first | trivial | exact ⟨rfl, rfl⟩
  · rw [e] at B ⊢
    clear h hs hE e
    go_enter Tryz.func51, Tryz.ntmps51
    go_wp2_with (go_at_call 58; refine (B.out).mono ?_; rintro e w' ⟨rfl, rfl⟩)
    go_ret
    first | trivial | exact ⟨rfl, rfl⟩
  · exact absurd e hE
theorem sync_lost (w : World) (S : Nat → Prop) (g N : Nat) (d : St) (h : Dk w S g N d) (s : ByteArray) (hs : s.size ≤ 140737488355328) (f : Fi) (hd : d.down = false) (hF : d.F s = some f) (hl : (vw d).lost = true) :
    Calls Tryz.prog 50 #[.pointer (some ⟨g, 0, none⟩), .string s] w fun e w' => e = .returned (.int .i64 8) ∧ Dk w' S g N (opD d) ∧ Chg w w' S := by
  have FS := Lib.hid (find42_some w S g N s (by unfold maxLen; omega) d h hd f hF)
  have O := Lib.hid (op_off w S g N d h hl)
  clear h hs hd hF hl
  go_enter Tryz.func50, Tryz.ntmps50
  go_wp2_with (first | (go_at_call 58; refine (FS.out).mono ?_; rintro e w ⟨rfl, rfl⟩) | (go_at_call 63; refine (O.out).mono ?_; rintro e w' ⟨rfl, k1, k2⟩))
  go_ret
  exact ⟨rfl, k1, k2⟩
theorem remove_lost (w : World) (S : Nat → Prop) (g N : Nat) (d : St) (h : Dk w S g N d) (s : ByteArray) (hs : s.size ≤ 140737488355328) (f : Fi) (hd : d.down = false) (hF : d.F s = some f) (hl : (vw d).lost = true) :
    Calls Tryz.prog 61 #[.pointer (some ⟨g, 0, none⟩), .string s] w fun e w' => e = .returned (.int .i64 8) ∧ Dk w' S g N (opD d) ∧ Chg w w' S := by
  have FS := Lib.hid (find42_some w S g N s (by unfold maxLen; omega) d h hd f hF)
  have O := Lib.hid (op_off w S g N d h hl)
  clear h hs hd hF hl
  go_enter Tryz.func61, Tryz.ntmps61
  go_wp2_with (first | (go_at_call 58; refine (FS.out).mono ?_; rintro e w ⟨rfl, rfl⟩) | (go_at_call 63; refine (O.out).mono ?_; rintro e w' ⟨rfl, k1, k2⟩))
  go_ret
  exact ⟨rfl, k1, k2⟩
theorem rename_lost (w : World) (S : Nat → Prop) (g N : Nat) (d : St) (h : Dk w S g N d) (s : ByteArray) (t : ByteArray) (hs : s.size ≤ 140737488355328) (f : Fi) (hd : d.down = false) (hF : d.F s = some f) (ht : isNm t = true) (hts : t.size ≤ 140737488355328) (hl : (vw d).lost = true) :
    Calls Tryz.prog 51 #[.pointer (some ⟨g, 0, none⟩), .string s, .string t] w fun e w' => e = .returned (.int .i64 8) ∧ Dk w' S g N (opD d) ∧ Chg w w' S := by
  have FS := Lib.hid (find42_some w S g N s (by unfold maxLen; omega) d h hd f hF)
  have O := Lib.hid (op_off w S g N d h hl)
  have I := isName39 w t hts
  rw [ht] at I
  replace I := Lib.hid I
  clear h hs hd hF hl ht hts
  go_enter Tryz.func51, Tryz.ntmps51
  go_wp2_with (first | (go_at_call 58; refine (FS.out).mono ?_; rintro e w ⟨rfl, rfl⟩) | (go_at_call 63; refine (O.out).mono ?_; rintro e w' ⟨rfl, k1, k2⟩) | (go_at_call 62; refine (I.out).mono ?_; rintro e w ⟨rfl, rfl⟩))
  go_ret
  exact ⟨rfl, k1, k2⟩
/-- Read. -/
theorem read_on (w : World) (S : Nat → Prop) (g N : Nat) (d : St) (h : Dk w S g N d) (s : ByteArray) (hs : s.size ≤ 140737488355328) (f : Fi) (hd : d.down = false) (hF : d.F s = some f) (hb : f.bs.length ≤ 140737488355328) :
    Calls Tryz.prog 43 #[.pointer (some ⟨g, 0, none⟩), .string s] w fun e w' => ∃ v, e = .returned (.tuple #[v, .int .i64 0]) ∧ w'.ownsRow w.heap.size 5 1 v f.bs.length (u8s f.bs) ∧ Below w.heap.size w w' := by
  have FS := Lib.hid (find42_some w S g N s (by unfold maxLen; omega) d h hd f hF)
  obtain ⟨fm, _, _⟩ := h.fm s f hF
  have f0 := fm.c0
  obtain ⟨va, vc, hva⟩ := own_forms fm.own
  have CL := Lib.hid (clone45 w _ f.v f.bs (src_own fm.own) hb)
  rw [hva] at f0 CL
  obtain ⟨L, hL⟩ : ∃ L, L = f.bs.length := ⟨_, rfl⟩
  obtain ⟨b, hb⟩ : ∃ b, b = f.blk := ⟨_, rfl⟩
  rw [← hL] at f0 CL ⊢
  rw [← hb] at f0 FS
  clear h hs hd hF fm hva hL hb
  go_enter Tryz.func43, Tryz.ntmps43
  go_wp2_with (first | (go_at_call 58; refine (FS.out).mono ?_; rintro e w ⟨rfl, rfl⟩) | (go_at_call 37; refine (CL.out).mono ?_; rintro e w' ⟨v, rfl, hrow, hbl⟩))
  refine bodyPost_ret (v := .tuple #[v, .int .i64 0]) (by simp [results, Tryz.results43, go_sem]) rfl ⟨v, rfl, hrow, hbl⟩
end Jl
end Go.Proofs.YtdaknlmnelfedaaGreatDoor
