/- The disk's Append, where it is done. -/
import Derived.Test.YtdaknlmnelfedaaGreatDoorJh
import Derived.Deep.RegionLaw
namespace Go.Proofs.YtdaknlmnelfedaaGreatDoor
open Go.RowKit Go.Maps Go.ChangeMaps Go.MapKept
namespace Jk
open Jb Jm Jd Jw Jx Jn Je Jf Jg Jh

theorem vw_ext {a b : Vw} (h1 : ∀ x, a.F x = b.F x) (h2 : a.used = b.used) (h3 : a.room = b.room) (h4 : a.fused = b.fused) (h5 : a.fuse = b.fuse) (h6 : a.down = b.down) : a = b := by
  obtain ⟨F, u, r, c, f, d⟩ := a
  obtain ⟨F', u', r', c', f', d'⟩ := b
  obtain rfl : F = F' := funext h1
  simp only at h2 h3 h4 h5 h6
  subst h2 h3 h4 h5 h6
  rfl
/-- All that the walk asks behind the append. -/
def After (w2 : World) (g : Nat) (f : Fi) (U : Nat) (cs : List Nat) (v' : Value) (w3 : World) : Prop :=
  w2.grownBy w3 f.v.ownBlock ∧ (v'.ownBlock = f.v.ownBlock ∨ v'.ownBlock = some w2.heap.size) ∧ w3.ownsRow 0 5 1 v' (f.bs.length + cs.length) (u8s (f.bs ++ cs)) ∧
  w3.cell? ⟨f.blk, 0, none⟩ = some f.v ∧ w3.frozen? ⟨f.blk, 0, none⟩ = false ∧ w3.cell? ⟨g, 1, none⟩ = some (.int .i64 (U : Nat)) ∧ w3.frozen? ⟨g, 1, none⟩ = false
set_option maxRecDepth 100000 in
set_option maxHeartbeats 1000000 in
theorem append_on (w : World) (S : Nat → Prop) (g N : Nat) (d : St) (h : Dk w S g N d) (s : ByteArray) (R : Nat → Prop) (hR : ∀ k, R k → ¬ S k) (v : Value) (bs : List Nat) (hv : Src w R v bs) (hcap : ∀ c, v = .slice none bs.length c → c = 0) (hby : ∀ x ∈ bs, x < 256)
    (hN : N ≤ 140737488353000) (hd : d.down = false) (hn : isNm s = true) (hlost : (vw d).lost = false) (hB : (old (vw d) s).1.length + bs.length ≤ 140737488355328) (hU : d.used + bs.length ≤ 9223372036854775807) :
    Calls Tryz.prog 48 #[.pointer (some ⟨g, 0, none⟩), .string s, v] w fun e w' => e = .returned (.tuple #[.int .i64 (appN (vw d) s bs.length : Nat), .int .i64 (appE (vw d) s bs.length : Nat)]) ∧
      ∃ d', vw d' = appV (vw d) s bs ∧ Dk w' (New S w w') g (N + 1) d' ∧ Chg w w' S := by
  have hs : s.size ≤ 64 := by
    have := of_decide_eq_true (show decide _ = true from hn)
    exact this.2.1
  have D := Lib.hid (down24 w g d h.cs)
  have I := Lib.hid (isName39 w s (by omega))
  have O := operate40 w g d h.cs
  rw [opE_eq, hlost, if_neg (by simp)] at O
  replace O := Lib.hid O
  rw [hd] at D
  rw [hn] at I
  obtain ⟨ad, c, hvf⟩ := hv.forms
  obtain ⟨l, hl⟩ : ∃ l, l = bs.length := ⟨_, rfl⟩
  obtain ⟨U, hUe⟩ : ∃ U, U = d.used := ⟨_, rfl⟩
  obtain ⟨Rm, hRe⟩ : ∃ Rm, Rm = d.room := ⟨_, rfl⟩
  obtain ⟨fr, hfr⟩ : ∃ fr, fr = Rm - U := ⟨_, rfl⟩
  obtain ⟨n, hne⟩ : ∃ n, n = min l fr := ⟨_, rfl⟩
  have bu := h.cs.bu
  have br := h.cs.br
  have hnc : n ≤ c := by
    rcases hv with ⟨e0, _⟩ | ⟨_, b, off, c', e, hc, _⟩
    · rw [e0] at hl; simp at hl; omega
    · rw [hvf] at e; cases e; omega
  have q1 : IntKind.i64.wrap ((Rm : Int) - (U : Nat)) = (Rm : Int) - U := by rw [IntKind.wrap_i64]; omega
  have hmx : ∀ (ty : TypeId) (y : World), (Builtin.max_ #[3, 3] ty #[.int .i64 ((Rm : Int) - U), .int .i64 0]).run Tryz.prog y = .ok (.int .i64 (fr : Nat)) y := by
    intro ty y
    rw [run_max_int2]
    have e : (if (0 : Int) > (Rm : Int) - U then 0 else (Rm : Int) - U) = (fr : Nat) := by split <;> omega
    rw [e]
  have hmn : ∀ (ty : TypeId) (y : World), (Builtin.min_ #[3, 3] ty #[.int .i64 (l : Nat), .int .i64 (fr : Nat)]).run Tryz.prog y = .ok (.int .i64 (n : Nat)) y := by
    intro ty y
    rw [run_min_int2]
    have e : (if (fr : Int) < (l : Int) then (fr : Int) else (l : Int)) = (n : Nat) := by split <;> omega
    rw [e]
  have q3 : IntKind.i64.wrap ((U : Int) + (n : Nat)) = ((U + n : Nat) : Int) := by rw [IntKind.wrap_i64]; omega
  have RC := Lib.hid (fun (w1 : World) (k1 : Cs w1 g (opD d)) => show w1.cell? ⟨g, 1, none⟩ = some (.int .i64 (U : Nat)) ∧ w1.cell? ⟨g, 2, none⟩ = some (.int .i64 (Rm : Nat)) from ⟨by rw [hUe, ← opD_used d]; exact k1.c1, by rw [hRe, ← opD_room d]; exact k1.c2⟩)
  have DK1 : Hid (∀ w1, Cs w1 g (opD d) → Chg w w1 (fun k => k = g) → Dk w1 S g N (opD d) ∧ Chg w w1 S) := Lib.hid fun w1 c1 c2 => ⟨h.nums c2 c1 (opD_fv d) (opD_F d), c2.imp fun k hk _ => hk ▸ h.sg⟩
  have MD := Lib.hid (fun w1 (k : Dk w1 S g N (opD d)) => made41 w1 S g N (opD d) k s hs hN)
  have EN : appN (vw d) s l = n := by unfold appN; rw [if_neg (by simp [vw, hd]), if_pos hn, if_neg (by simp [hlost]), hne, hfr, hRe, hUe]; rfl
  have EE : appE (vw d) s l = if fr < l then 7 else 0 := by unfold appE; rw [if_neg (by simp [vw, hd]), if_pos hn, if_neg (by simp [hlost]), hfr, hRe, hUe]; rfl
  -- behind made: the append
  have APP : Hid (∀ w1 w2 d2 f, Chg w w1 S → Chg w1 w2 S → Dk w2 (New S w1 w2) g (N + 1) d2 → d2.F s = some f → ab f = ((vw (opD d)).F s).getD ([], 0) → d2.used = (opD d).used →
      (∀ ty, ∃ v' w3, (Builtin.append_ #[36, 36] ty #[f.v, .slice ad n c]).run Tryz.prog w2.drew = .ok v' w3 ∧ After w2 g f U (bs.take n) v' w3) ∧ w2.cell? ⟨f.blk, 0, none⟩ = some f.v ∧ (∃ a c, f.v = .slice a f.bs.length c) ∧ f.blk ≠ g) := Lib.hid fun w1 w2 d2 f h01 h12 k2 hf hab hu => by
    obtain ⟨fm, fg, fs⟩ := k2.fm s f hf
    have hold : f.bs = (old (vw d) s).1 := by
      have : f.bs = (ab f).1 := rfl
      rw [this, hab, vw_op, Vw.op_F]; rfl
    refine ⟨fun ty => ?_, fm.c0, own_forms fm.own, fun e => fg (.inl e.symm)⟩
    have hsrc : Src w2.drew R (.slice ad bs.length c) bs := by
      rw [← hvf]
      exact hv.move fun k hk hkl => (h12.block k (Nat.lt_of_lt_of_le hkl h01.size) (hR k hk)).trans (h01.block k hkl (hR k hk))
    obtain ⟨v', w3, hrun, r1, r2, r3⟩ := run_append w2.drew f.v f.bs fm.own R ad c bs hsrc n (by omega) (fun e => hcap c (by rw [hvf, e])) (by rw [hold]; omega) ty
    have r2' : w2.grownBy w3 f.v.ownBlock := ⟨r2.os, r2.tape, r2.output, r2.size, r2.block⟩
    have hbw : f.blk < w2.heap.size := fm.lt (.inl rfl)
    have hb3 : w3.heap[f.blk]? = w2.heap[f.blk]? := r2'.block _ hbw (fun e => fm.apart e.symm)
    have hg3 : w3.heap[g]? = w2.heap[g]? := r2'.block _ (k2.lt g k2.sg) (fun e => fg (.inr e.symm))
    exact ⟨v', w3, hrun, r2', r3, r1, (World.cell?_of_block hb3).trans fm.c0, (World.frozen?_of_block hb3).trans fm.z0, by rw [hUe, ← opD_used d, ← hu]; exact (World.cell?_of_block hg3).trans k2.cs.c1, (World.frozen?_of_block hg3).trans (k2.cs.z 1)⟩
  have FIN : Hid (∀ w1 w2 d2 f w3 w5 v', Chg w w1 S → Chg w1 w2 S → Dk w2 (New S w1 w2) g (N + 1) d2 → d2.F s = some f → ab f = ((vw (opD d)).F s).getD ([], 0) → (∀ x, x ≠ s → d2.F x = (opD d).F x) →
      (d2.used = (opD d).used ∧ d2.room = (opD d).room ∧ d2.fused = (opD d).fused ∧ d2.fuse = (opD d).fuse ∧ d2.down = (opD d).down) → After w2 g f U (bs.take n) v' w3 →
      w5 = (w3.setCell ⟨f.blk, 0, none⟩ v').setCell ⟨g, 1, none⟩ (.int .i64 (U + n : Nat)) → ∃ d', vw d' = appV (vw d) s bs ∧ Dk w5 (New S w w5) g (N + 1) d' ∧ Chg w w5 S) := Lib.hid fun w1 w2 d2 f w3 w5 v' h01 h12 k2 hf hab hoth hnum haf h5 => by
    obtain ⟨a1, a2, a3, _⟩ := haf
    obtain ⟨r1, r2⟩ := append_end k2 hf (fun x hx => hby x (List.mem_of_mem_take hx)) (u := U + n) (by omega) a1 a2 a3 h5
    have s1 := h01.size
    have s2 := h12.size
    have s3 := r2.size
    refine ⟨_, ?_, r1.set (fun k hk => ?_) (fun k hk => ?_), ?_⟩
    · have ef : appV (vw d) s bs = { (vw d).op with F := fun x => if x = s then some ((old (vw d) s).1 ++ bs.take n, (old (vw d) s).2) else (vw d).F x, used := (vw d).used + n } := by
        unfold appV
        rw [if_neg (by simp [vw, hd]), if_pos hn, if_neg (by simp [hlost]), hne, hfr, hRe, hUe, hl]; rfl
      rw [ef]
      have e0 := vw_op d
      refine vw_ext (fun x => ?_) (by show U + n = d.used + n; rw [hUe]) ?_ ?_ ?_ ?_
      · dsimp only [vw]
        by_cases e : x = s
        · rw [if_pos e, if_pos e]
          have e2 : ab f = old (vw d) s := by rw [hab, vw_op, Vw.op_F]; rfl
          exact congrArg some (show (f.bs ++ bs.take n, f.syn) = ((old (vw d) s).1 ++ bs.take n, (old (vw d) s).2) by rw [← e2]; rfl)
        · rw [if_neg e, if_neg e, hoth x e, opD_F]
      · rw [← e0]; exact hnum.2.1
      · rw [← e0]; exact hnum.2.2.1
      · rw [← e0]; exact hnum.2.2.2.1
      · rw [← e0]; exact hnum.2.2.2.2
    · have := hk.imp (fun x => x) (fun x => x)
      rcases hk with (hk | hk) | hk
      · exact .inl hk
      · exact .inr ⟨by omega, by omega⟩
      · exact .inr ⟨by omega, hk.2⟩
    · rcases hk with hk | hk
      · have := h.lt k hk; omega
      · exact hk.2
    · exact (h01.trans h12 fun k hk _ => hk).trans r2 fun k hk hl => hk.elim id (fun e => by omega)
  rw [← hl, EN, EE, hvf, ← hl]
  have HNQ := Lib.hid hne
  clear h hv hcap hB hU hUe hRe hne hfr bu br EN EE hd hn hlost hs hvf hl hN hR hby
  by_cases hq : fr < l
  · have q4 : n < l := by have := HNQ.out; omega
    rw [if_pos hq]
    clear hq
    go_enter Tryz.func48, Tryz.ntmps48
    go_wp2_with (first | (go_at_call 12; refine (D.out).mono ?_; rintro e w ⟨rfl, rfl⟩) | (go_at_call 62; refine (I.out).mono ?_; rintro e w ⟨rfl, rfl⟩) | (go_at_call 63; refine (O.out).mono ?_; rintro e w1 ⟨rfl, k1, k2⟩; have r12 := RC.out w1 k1; have K1 := Lib.hid (DK1.out w1 k1 k2); obtain ⟨r1, r2⟩ := r12; clear k1 k2))
    go_quiet (fail)
    have K1d : Hid (Dk (w1.drewN nq) S g N (opD d) ∧ Chg w (w1.drewN nq) S) := Lib.hid ⟨K1.out.1.move (Nat.le_refl _) (fun _ _ => rfl), K1.out.2.drewN nq⟩
    clear r1 r2 K1
    obtain ⟨wa, hwa⟩ : ∃ wa, wa = w1.drewN nq := ⟨_, rfl⟩
    rw [← hwa] at K1d ⊢
    clear hwa
    go_wp2_with (go_at_call 64; refine (MD.out wa K1d.out.1).mono ?_; rintro e w2 ⟨d2, f, rfl, hf, hab, hoth, hnum, hdk, hchg⟩)
    obtain ⟨ap, c0, ⟨va, vc, hva⟩, hbg⟩ := APP.out wa w2 d2 f K1d.out.2 hchg hdk hf hab hnum.1
    have E2 := Lib.hid (fun w3 w5 v' => FIN.out wa w2 d2 f w3 w5 v' K1d.out.2 hchg hdk hf hab hoth hnum)
    rw [hva] at c0 ap
    obtain ⟨b, hb⟩ : ∃ b, b = f.blk := ⟨_, rfl⟩
    obtain ⟨m, hm⟩ : ∃ m, m = f.bs.length := ⟨_, rfl⟩
    rw [← hm] at c0 ap
    rw [← hb] at c0 hbg ⊢
    have HB := Lib.hid hb
    have HM := Lib.hid hm
    have HVA := Lib.hid hva
    have APR := Lib.hid ap
    clear hf hab hoth hnum hdk hchg hva hb hm ap
    go_region_law (first | (refine step_append rfl (.tmp 43) (.tmp 46) 36 rfl (.slice va m vc) (.slice ad n c) (by simp [Act.eval]) (by simp [Act.eval]) (After w2 g f U (bs.take n)) APR.out ?_; intro v' w3 haf; obtain ⟨x1, x2, x3, x4, x5, x6, x7⟩ := id haf; rw [HVA.out, ← HB.out, ← HM.out] at x4; rw [← HB.out] at x5; obtain ⟨ya, yc, hy⟩ := own_forms x3; obtain ⟨yn, hyn⟩ : ∃ yn, yn = f.bs.length + (bs.take n).length := ⟨_, rfl⟩; rw [← hyn] at hy; subst hy; have AF := Lib.hid haf; clear haf x1 x2 x3 hyn))
    all_goals
      go_wp2_with fail
      refine bodyPost_ret (v := .tuple #[.int .i64 (n : Nat), .int .i64 7]) (by simp [results, Tryz.results48, go_sem]) rfl ⟨rfl, ?_⟩
      exact E2.out _ _ _ AF.out (by rw [HB.out, Int.natCast_add])
  · have q4 : ¬ n < l := by have := HNQ.out; omega
    rw [if_neg hq]
    clear hq
    go_enter Tryz.func48, Tryz.ntmps48
    go_wp2_with (first | (go_at_call 12; refine (D.out).mono ?_; rintro e w ⟨rfl, rfl⟩) | (go_at_call 62; refine (I.out).mono ?_; rintro e w ⟨rfl, rfl⟩) | (go_at_call 63; refine (O.out).mono ?_; rintro e w1 ⟨rfl, k1, k2⟩; have r12 := RC.out w1 k1; have K1 := Lib.hid (DK1.out w1 k1 k2); obtain ⟨r1, r2⟩ := r12; clear k1 k2))
    go_quiet (fail)
    have K1d : Hid (Dk (w1.drewN nq) S g N (opD d) ∧ Chg w (w1.drewN nq) S) := Lib.hid ⟨K1.out.1.move (Nat.le_refl _) (fun _ _ => rfl), K1.out.2.drewN nq⟩
    clear r1 r2 K1
    obtain ⟨wa, hwa⟩ : ∃ wa, wa = w1.drewN nq := ⟨_, rfl⟩
    rw [← hwa] at K1d ⊢
    clear hwa
    go_wp2_with (go_at_call 64; refine (MD.out wa K1d.out.1).mono ?_; rintro e w2 ⟨d2, f, rfl, hf, hab, hoth, hnum, hdk, hchg⟩)
    obtain ⟨ap, c0, ⟨va, vc, hva⟩, hbg⟩ := APP.out wa w2 d2 f K1d.out.2 hchg hdk hf hab hnum.1
    have E2 := Lib.hid (fun w3 w5 v' => FIN.out wa w2 d2 f w3 w5 v' K1d.out.2 hchg hdk hf hab hoth hnum)
    rw [hva] at c0 ap
    obtain ⟨b, hb⟩ : ∃ b, b = f.blk := ⟨_, rfl⟩
    obtain ⟨m, hm⟩ : ∃ m, m = f.bs.length := ⟨_, rfl⟩
    rw [← hm] at c0 ap
    rw [← hb] at c0 hbg ⊢
    have HB := Lib.hid hb
    have HM := Lib.hid hm
    have HVA := Lib.hid hva
    have APR := Lib.hid ap
    clear hf hab hoth hnum hdk hchg hva hb hm ap
    go_region_law (first | (refine step_append rfl (.tmp 43) (.tmp 46) 36 rfl (.slice va m vc) (.slice ad n c) (by simp [Act.eval]) (by simp [Act.eval]) (After w2 g f U (bs.take n)) APR.out ?_; intro v' w3 haf; obtain ⟨x1, x2, x3, x4, x5, x6, x7⟩ := id haf; rw [HVA.out, ← HB.out, ← HM.out] at x4; rw [← HB.out] at x5; obtain ⟨ya, yc, hy⟩ := own_forms x3; obtain ⟨yn, hyn⟩ : ∃ yn, yn = f.bs.length + (bs.take n).length := ⟨_, rfl⟩; rw [← hyn] at hy; subst hy; have AF := Lib.hid haf; clear haf x1 x2 x3 hyn))
    all_goals
      go_wp2_with fail
      refine bodyPost_ret (v := .tuple #[.int .i64 (n : Nat), .int .i64 0]) (by simp [results, Tryz.results48, go_sem]) rfl ⟨rfl, ?_⟩
      exact E2.out _ _ _ AF.out (by rw [HB.out, Int.natCast_add])
end Jk
end Go.Proofs.YtdaknlmnelfedaaGreatDoor
