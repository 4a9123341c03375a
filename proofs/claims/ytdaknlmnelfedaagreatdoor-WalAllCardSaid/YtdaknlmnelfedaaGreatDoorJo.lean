/- The disk's Sync, Remove, Cut, Rename, List, where they are done. -/
import Derived.Test.YtdaknlmnelfedaaGreatDoorJl
namespace Go.Proofs.YtdaknlmnelfedaaGreatDoor
open Go.RowKit Go.Maps Go.ChangeMaps Go.MapKept
namespace Jo
open Jb Jm Jd Jw Jx Jn Je Jf Jg Jh Jk Jc Jl

theorem new_of {w w1 w' : World} {S : Nat → Prop} (h1 : w.heap.size ≤ w1.heap.size) {k : Nat} (hk : New S w1 w' k) : New S w w' k := hk.imp id fun e => ⟨by omega, e.2⟩
theorem Dk.wide {w w1 w' : World} {S : Nat → Prop} {g N : Nat} {d : St} (h : Dk w' (New S w1 w') g N d) (c : Chg w w1 S) (hlt : ∀ k, S k → k < w.heap.size) (c2 : w1.heap.size ≤ w'.heap.size) : Dk w' (New S w w') g N d :=
  h.set (fun k hk => new_of c.size hk) (fun k hk => hk.elim (fun e => by have := hlt k e; have := c.size; omega) (fun e => e.2))
theorem opF {d : St} {s : ByteArray} {f : Fi} (h : d.F s = some f) : (opD d).F s = some f := by rw [opD_F]; exact h
set_option maxRecDepth 100000 in
theorem sync_on (w : World) (S : Nat → Prop) (g N : Nat) (d : St) (h : Dk w S g N d) (s : ByteArray) (hs : s.size ≤ 140737488355328) (f : Fi) (hd : d.down = false) (hF : d.F s = some f) (hl : (vw d).lost = false) :
    Calls Tryz.prog 50 #[.pointer (some ⟨g, 0, none⟩), .string s] w fun e w' => e = .returned (.int .i64 0) ∧ ∃ d', vw d' = { (vw d).op with F := fun x => if x = s then some (f.bs, f.bs.length) else (vw d).F x } ∧ Dk w' (New S w w') g N d' ∧ Chg w w' S := by
  have FS := Lib.hid (find42_some w S g N s (by unfold maxLen; omega) d h hd f hF)
  have O := Lib.hid (op_on w S g N d h hl)
  obtain ⟨fm, _, _⟩ := h.fm s f hF
  obtain ⟨va, vc, hva⟩ := own_forms fm.own
  obtain ⟨L, hL⟩ : ∃ L, L = f.bs.length := ⟨_, rfl⟩
  obtain ⟨b, hb⟩ : ∃ b, b = f.blk := ⟨_, rfl⟩
  have CE : Hid (∀ w1, Dk w1 S g N (opD d) → w1.cell? ⟨b, 0, none⟩ = some (.slice va L vc) ∧ w1.cell? ⟨b, 1, none⟩ = some (.int .i64 (f.syn : Nat)) ∧ w1.frozen? ⟨b, 1, none⟩ = false) := Lib.hid fun w1 k => by
    obtain ⟨m, _, _⟩ := k.fm s f (opF hF)
    rw [hb, hL, ← hva]
    exact ⟨m.c0, m.c1, m.z1⟩
  have FIN : Hid (∀ w1 w', Dk w1 S g N (opD d) → Chg w w1 S → w' = w1.setCell ⟨b, 1, none⟩ (.int .i64 (L : Nat)) → ∃ d', vw d' = { (vw d).op with F := fun x => if x = s then some (f.bs, f.bs.length) else (vw d).F x } ∧ Dk w' (New S w w') g N d' ∧ Chg w w' S) := Lib.hid fun w1 w' k1 k2 hw => by
    obtain ⟨m, mg, ms⟩ := k1.fm s f (opF hF)
    have c1 : Chg w1 w' (fun k => k = g ∨ foot f k) := by rw [hw]; exact (Chg.refl w1 _).setCell (.inr (.inl hb)) _
    have hf' : Fm w' ⟨f.blk, f.v, f.bs, f.bs.length⟩ := by rw [hw, hb, hL]; exact m.set1 _ (Nat.le_refl _)
    have hc := (k1.cs.off (b := b) (i := 1) (v := .int .i64 (L : Nat)) (fun e => mg (.inl (by rw [← e, hb]))))
    rw [← hw] at hc
    have k3 := k1.file (d' := { opD d with F := fun x => if x = s then some ⟨f.blk, f.v, f.bs, f.bs.length⟩ else (opD d).F x }) (opF hF) c1 ⟨hc.c0, hc.c1, hc.c2, hc.c3, hc.c4, hc.c5, hc.z, hc.bu, hc.br, hc.bf⟩ rfl rfl rfl hf' (fun k hk => .inl hk)
    refine ⟨_, ?_, Dk.wide k3 k2 h.lt c1.size, k2.trans c1 fun k hk _ => ?_⟩
    · have e0 := vw_op d
      rw [← e0]
      refine vw_ext (fun x => ?_) rfl rfl rfl rfl rfl
      show Option.map ab (if x = s then _ else _) = if x = s then _ else (vw d).F x
      by_cases e : x = s
      · rw [if_pos e, if_pos e]; rfl
      · rw [if_neg e, if_neg e, opD_F]; rfl
    · rcases hk with rfl | hk
      · exact h.sg
      · exact ms k hk
  rw [← hb] at FS
  clear h hs hd hF hl fm hva hL hb
  go_enter Tryz.func50, Tryz.ntmps50
  go_wp2_with (first | (go_at_call 58; refine (FS.out).mono ?_; rintro e w ⟨rfl, rfl⟩) | (go_at_call 63; refine (O.out).mono ?_; rintro e w1 ⟨rfl, k1, k2⟩; obtain ⟨r1, r2, r3⟩ := CE.out w1 k1; have K1 := Lib.hid k1; have K2 := Lib.hid k2; clear k1 k2))
  go_ret
  exact ⟨rfl, FIN.out w1 _ K1.out K2.out rfl⟩
theorem remove_on (w : World) (S : Nat → Prop) (g N : Nat) (d : St) (h : Dk w S g N d) (s : ByteArray) (hs : s.size ≤ 140737488355328) (f : Fi) (hd : d.down = false) (hF : d.F s = some f) (hl : (vw d).lost = false) (hu : f.bs.length ≤ d.used) :
    Calls Tryz.prog 61 #[.pointer (some ⟨g, 0, none⟩), .string s] w fun e w' => e = .returned (.int .i64 0) ∧ ∃ d', vw d' = { (vw d).op with F := fun x => if x = s then none else (vw d).F x, used := d.used - f.bs.length } ∧ Dk w' (New S w w') g N d' ∧ Chg w w' S := by
  have FS := Lib.hid (find42_some w S g N s (by unfold maxLen; omega) d h hd f hF)
  have O := Lib.hid (op_on w S g N d h hl)
  have DR := Lib.hid (fun w1 (k : Dk w1 S g N (opD d)) => drop_some w1 S g N (opD d) k s hs f (opF hF) (by rw [opD_used]; exact hu))
  have FIN : Hid (∀ w1 w', Dk w1 S g N (opD d) → Chg w w1 S → Dk w' (New S w1 w') g N { opD d with F := fun x => if x = s then none else (opD d).F x, used := (opD d).used - f.bs.length } → Chg w1 w' S → ∃ d', vw d' = { (vw d).op with F := fun x => if x = s then none else (vw d).F x, used := d.used - f.bs.length } ∧ Dk w' (New S w w') g N d' ∧ Chg w w' S) := Lib.hid fun w1 w' k1 k2 k3 k4 => by
    refine ⟨_, ?_, Dk.wide k3 k2 h.lt k4.size, k2.trans k4 fun k hk _ => hk⟩
    have e0 := vw_op d
    rw [← e0]
    refine vw_ext (fun x => ?_) (by show (opD d).used - _ = _; rw [opD_used]) rfl rfl rfl rfl
    show Option.map ab (if x = s then _ else _) = if x = s then _ else (vw d).F x
    by_cases e : x = s
    · rw [if_pos e, if_pos e]; rfl
    · rw [if_neg e, if_neg e, opD_F]; rfl
  clear h hs hd hF hl hu
  go_enter Tryz.func61, Tryz.ntmps61
  go_wp2_with (first | (go_at_call 58; refine (FS.out).mono ?_; rintro e w ⟨rfl, rfl⟩) | (go_at_call 63; refine (O.out).mono ?_; rintro e w1 ⟨rfl, k1, k2⟩; have K1 := Lib.hid k1; have K2 := Lib.hid k2; clear k1 k2) | (go_at_call 65; refine (DR.out w1 K1.out).mono ?_; rintro e w2 ⟨rfl, k3, k4⟩))
  go_ret
  exact ⟨rfl, FIN.out w1 _ K1.out K2.out k3 k4⟩
end Jo
end Go.Proofs.YtdaknlmnelfedaaGreatDoor
