/- The disk's Rename, where it is done. -/
import Derived.Test.YtdaknlmnelfedaaGreatDoorJq
namespace Go.Proofs.YtdaknlmnelfedaaGreatDoor
open Go.RowKit Go.Maps Go.ChangeMaps Go.MapKept
namespace Jr
open Jb Jm Jd Jw Jx Jn Je Jf Jg Jh Jk Jc Jl Jo Jq

def ol (d : St) (t : ByteArray) : Nat := ((d.F t).map fun f => f.bs.length).getD 0
theorem drop_any (w : World) (S : Nat → Prop) (g N : Nat) (d : St) (h : Dk w S g N d) (t : ByteArray) (ht : t.size ≤ 140737488355328) (hu : ol d t ≤ d.used) :
    Calls Tryz.prog 65 #[.pointer (some ⟨g, 0, none⟩), .string t] w fun e w' => e = .returned (.tuple #[]) ∧ Dk w' (New S w w') g N { d with F := fun x => if x = t then none else d.F x, used := d.used - ol d t } ∧ Chg w w' S := by
  cases hF : d.F t with
  | none =>
    refine (drop_none w S g N d h t ht hF).mono ?_
    rintro e w' ⟨rfl, rfl⟩
    refine ⟨rfl, ?_, Chg.refl _ _⟩
    have e1 : ({ d with F := fun x => if x = t then none else d.F x, used := d.used - ol d t } : St) = d := by
      have a : ol d t = 0 := by unfold ol; rw [hF]; rfl
      rw [a, Nat.sub_zero]
      have b : (fun x => if x = t then none else d.F x) = d.F := by
        funext x
        by_cases e : x = t
        · rw [if_pos e, e, hF]
        · rw [if_neg e]
      rw [b]
    rw [e1]
    exact Dk.new h
  | some f =>
    have e : ol d t = f.bs.length := by unfold ol; rw [hF]; rfl
    rw [e] at hu ⊢
    exact drop_some w S g N d h t ht f hF hu
theorem ol_op (d : St) (t : ByteArray) : ol (opD d) t = ol d t := by unfold ol; rw [opD_F]
theorem nm64 {t : ByteArray} (h : isNm t = true) : t.size ≤ 64 := by unfold isNm at h; exact (of_decide_eq_true h).2.1
theorem beq_no {s t : ByteArray} (h : s ≠ t) : (s.toList == t.toList) = false := by
  cases e : (s.toList == t.toList)
  · rfl
  · exfalso
    have e2 : s.toList = t.toList := by simpa using e
    rw [ByteArray.toList_eq, ByteArray.toList_eq] at e2
    exact h (ByteArray.ext (Array.toList_inj.1 e2))
set_option maxRecDepth 100000 in
theorem rename_on (w : World) (S : Nat → Prop) (g N : Nat) (d : St) (h : Dk w S g N d) (s t : ByteArray) (hs : s.size ≤ 64) (ht : isNm t = true) (f : Fi) (hd : d.down = false) (hF : d.F s = some f) (hl : (vw d).lost = false) (hst : s ≠ t) (hu : ol d t ≤ d.used) (hN : N ≤ 140737488353000) :
    Calls Tryz.prog 51 #[.pointer (some ⟨g, 0, none⟩), .string s, .string t] w fun e w' => e = .returned (.int .i64 0) ∧ ∃ d', vw d' = { (vw d).op with F := fun x => if x = t then some (ab f) else if x = s then none else (vw d).F x, used := d.used - ol d t } ∧ Dk w' (New S w w') g (N + 1) d' ∧ Chg w w' S := by
  have ht64 := nm64 ht
  have FS := Lib.hid (find42_some w S g N s (by unfold maxLen; omega) d h hd f hF)
  have O := Lib.hid (op_on w S g N d h hl)
  have I := isName39 w t (by omega)
  rw [ht] at I
  replace I := Lib.hid I
  have DR := Lib.hid (fun w1 (k : Dk w1 S g N (opD d)) => drop_any w1 S g N (opD d) k t (by omega) (by rw [opD_used, ol_op]; exact hu))
  have HCL := Lib.hid (fun X => clone47 X t (by omega))
  have MID : Hid (∀ w1 w2, Dk w1 S g N (opD d) → Chg w w1 S → Dk w2 (New S w1 w2) g N { opD d with F := fun x => if x = t then none else (opD d).F x, used := (opD d).used - ol (opD d) t } → Chg w1 w2 S →
      ∃ m w3, w2.cell? ⟨g, 0, none⟩ = some (.map (some m)) ∧ (∀ ty, (Builtin.delete_ #[51, 9] ty #[.map (some m), .string s]).run Tryz.prog w2 = .ok (.tuple #[]) w3) ∧ w3.drew.cell? ⟨g, 0, none⟩ = some (.map (some m)) ∧
        ∀ x, Below w3.heap.size w3.drew x → ∃ w9, (Instr.mapUpdate 51 (.map (some m)) (.string t) (.pointer (some ⟨f.blk, 0, none⟩))).run Tryz.prog x = .ok () w9 ∧
          (∃ d', vw d' = { (vw d).op with F := fun x => if x = t then some (ab f) else if x = s then none else (vw d).F x, used := d.used - ol d t } ∧ Dk w9 (New S w w9) g (N + 1) d' ∧ Chg w w9 S) ∧
          x.cell? ⟨g, 0, none⟩ = some (.map (some m)) ∧ w9.cell? ⟨g, 0, none⟩ = some (.map (some m))) := Lib.hid fun w1 w2 k1 c1 k2 c2 => by
    have hz1 := c1.size
    have hz2 := c2.size
    have f2 : ({ opD d with F := fun x => if x = t then none else (opD d).F x, used := (opD d).used - ol (opD d) t } : St).F s = some f := by
      show (if s = t then none else (opD d).F s) = some f
      rw [if_neg hst, opD_F]; exact hF
    generalize hd2 : ({ opD d with F := fun x => if x = t then none else (opD d).F x, used := (opD d).used - ol (opD d) t } : St) = d2 at k2 f2
    rcases k2.fv with ⟨_, b⟩ | ⟨m, hfv, hSm, hmg, hi⟩
    · rw [b s] at f2; cases f2
    obtain ⟨w3, hdel, hi3, ht3⟩ := hi.del (s := s) (by unfold maxLen; omega)
    have g2 : g < w2.heap.size := k2.lt g k2.sg
    have m2 : m < w2.heap.size := k2.lt m hSm
    have s3 := mt_size ht3
    have cg2 : w2.cell? ⟨g, 0, none⟩ = some (.map (some m)) := by rw [← hfv]; exact k2.cs.c0
    have cg3 : w3.cell? ⟨g, 0, none⟩ = some (.map (some m)) := (World.cell?_of_block (mt_block ht3 hmg.symm)).trans cg2
    refine ⟨m, w3, cg2, hdel, cg3, fun x hx => ?_⟩
    have hx' : Below w3.heap.size w3 x := ⟨hx.os, hx.tape, hx.output, hx.size, hx.block⟩
    have sx := hx'.size
    obtain ⟨w9, r9, j9, t9⟩ := (hi3.of_block (hx'.block m (by omega))).put (s := t) (b := f.blk) ht64 (by omega)
    have s9 := mt_size t9
    have old : ∀ k, k < w2.heap.size → k ≠ m → w9.heap[k]? = w2.heap[k]? := fun k hk hm => (mt_block t9 hm).trans ((hx'.block k (by omega)).trans (mt_block ht3 hm))
    have c9 := k2.cs.of_block (old g g2 hmg.symm)
    have K := k2.map (w' := w9) (N' := N + 1) (m := m) (d' := { d2 with F := fun y => if y = t then some f else if y = s then none else d2.F y }) (by omega)
      ⟨c9.c0, c9.c1, c9.c2, c9.c3, c9.c4, c9.c5, c9.z, c9.bu, c9.br, c9.bf⟩ hfv (.inl hfv)
      (j9.ext fun y => by
        dsimp only
        by_cases e : y = t
        · rw [if_pos e, if_pos e]; rfl
        · rw [if_neg e, if_neg e]
          by_cases e' : y = s
          · rw [if_pos e', if_pos e']; rfl
          · rw [if_neg e', if_neg e'])
      (fun k hk hg hm => old k (k2.lt k hk) (fun e => hm (by rw [hfv, e])))
      (fun y z hz => by
        dsimp only at hz
        split at hz
        · cases hz; exact .inl ⟨s, f2⟩
        · split at hz
          · cases hz
          · exact .inl ⟨y, hz⟩)
      (fun y y' z z' hn hz hz' => by
        dsimp only at hz hz'
        split at hz
        · cases hz
          split at hz'
          · exact absurd (by simp_all) hn
          · split at hz'
            · cases hz'
            · rename_i e1 e2
              exact .inl ⟨s, y', fun e => e2 e.symm, f2, hz'⟩
        · split at hz
          · cases hz
          · rename_i e1 e2
            split at hz'
            · cases hz'
              exact .inl ⟨y, s, e2, hz, f2⟩
            · split at hz'
              · cases hz'
              · exact .inl ⟨y, y', hn, hz, hz'⟩)
    have c29 : Chg w2 w9 (New S w1 w2) := by
      have a : Chg w2 w3 (New S w1 w2) := Chg.turned (Chg.refl w2 _) hSm ht3
      have b : Chg w3 x (New S w1 w2) := Chg.of_below hx' (Nat.le_refl _) _
      have c : Chg x w9 (New S w1 w2) := Chg.turned (Chg.refl x _) hSm t9
      exact (a.trans b fun k hk _ => hk).trans c fun k hk _ => hk
    have c19 : Chg w1 w9 S := c2.trans c29 fun k hk hl => hk.elim id fun e => by omega
    refine ⟨w9, r9, ⟨_, ?_, Dk.wide (K.set (S' := New S w1 w9) (fun k hk => ?_) (fun k hk => ?_)) c1 h.lt c19.size, c1.trans c19 fun k hk _ => hk⟩, (World.cell?_of_block (hx'.block g (by omega))).trans cg3, ?_⟩
    · subst hd2
      have e0 := vw_op d
      rw [← e0]
      refine vw_ext (fun y => ?_) ?_ rfl rfl rfl rfl
      · show Option.map ab (if y = t then some f else if y = s then none else if y = t then none else (opD d).F y) = if y = t then some (ab f) else if y = s then none else (vw d).F y
        by_cases e : y = t
        · rw [if_pos e, if_pos e]; rfl
        · simp only [if_neg e]
          by_cases e' : y = s
          · simp only [if_pos e']; rfl
          · simp only [if_neg e', opD_F]; rfl
      · show (opD d).used - ol (opD d) t = d.used - ol d t
        rw [opD_used, ol_op]
    · rcases hk with (hk | hk) | hk
      · exact .inl hk
      · exact .inr ⟨hk.1, by omega⟩
      · exact .inr ⟨by omega, hk.2⟩
    · rcases hk with hk | hk
      · have := k1.lt k hk; omega
      · exact hk.2
    · exact (World.cell?_of_block (old g g2 hmg.symm)).trans cg2
  obtain ⟨b, hb⟩ : ∃ b, b = f.blk := ⟨_, rfl⟩
  rw [← hb] at FS MID
  have hbeq := beq_no hst
  clear h hs hd hF hl hu hN hb hst ht ht64
  go_enter Tryz.func51, Tryz.ntmps51
  go_upto_region 13 with (first | (go_at_call 58; refine (FS.out).mono ?_; rintro e w ⟨rfl, rfl⟩) | (go_at_call 62; refine (I.out).mono ?_; rintro e w ⟨rfl, rfl⟩) | (go_at_call 63; refine (O.out).mono ?_; rintro e w1 ⟨rfl, k1, k2⟩; have K1 := Lib.hid k1; have K2 := Lib.hid k2; clear k1 k2) | (go_at_call 65; refine (DR.out w1 K1.out).mono ?_; rintro e w2 ⟨rfl, k3, k4⟩; obtain ⟨m, w3, r1, r2, r3, r4⟩ := MID.out w1 w2 K1.out K2.out k3 k4; have R4 := Lib.hid r4; clear k3 k4 r4) | (at_delete; refine wpList_del rfl _ _ rfl _ _ rfl rfl r2 ?_))
  clear r1 r2
  go_region_held (fun x => x.cell? ⟨g, 0, none⟩ = some (.map (some m)))
    (first | exact r3 | exact k9 | exact j9)
    (first | (go_at_call 66; refine (HCL.out _).mono ?_; rintro e x9 ⟨rfl, hx9⟩; obtain ⟨w9, r9, p9, j9, k9⟩ := R4.out x9 hx9; have P9 := Lib.hid p9; clear hx9 p9))
  go_wp2_with fail
  go_ret
  exact ⟨rfl, P9.out⟩
end Jr
end Go.Proofs.YtdaknlmnelfedaaGreatDoor
