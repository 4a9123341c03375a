/- Delete. -/
import Derived.Test.YtloiclmngmnbdaaRc
import Derived.Test.YtloiclmngmnbdaaDh
namespace Go.Proofs.Ytloiclmngmnbdaa
open Go.RowKit Go.Maps Go.ChangeMaps Go.MapKept
namespace Rd
open Jb Ca Ck Ct Cd Ls Lb Lc Ld Li Lj Lk Lm Ln Lo Lp Cq Cr Da Db Dc Ce Cs De Df Dg Dh Ra Rb Rc

theorem remove37 (w : World) (f : Co) (h : Cm w f) (a b : Int) (hl : f.L.length ≤ 1000000) : Calls Try.prog 37 #[.pointer (some ⟨f.blk, 0, none⟩), .int .i64 a, .int .i64 b] w fun e w' => e = .returned (.int .i64 ((rng a b f.L).length : Nat)) ∧ ((cut a b f.L ≠ [] ∧ Put w f.blk (foot f) (cut a b f.L) w') ∨ (cut a b f.L = [] ∧ (∃ v c, w'.cell? ⟨f.blk, 0, none⟩ = some (.slice v 0 c)) ∧ Chg w w' (foot f))) := by
  have keep : rng a b f.L = [] → Calls Try.prog 37 #[.pointer (some ⟨f.blk, 0, none⟩), .int .i64 a, .int .i64 b] w (fun e w' => e = .returned (.int .i64 0) ∧ Put w f.blk (foot f) f.L w') → Calls Try.prog 37 #[.pointer (some ⟨f.blk, 0, none⟩), .int .i64 a, .int .i64 b] w fun e w' => e = .returned (.int .i64 ((rng a b f.L).length : Nat)) ∧ ((cut a b f.L ≠ [] ∧ Put w f.blk (foot f) (cut a b f.L) w') ∨ (cut a b f.L = [] ∧ (∃ v c, w'.cell? ⟨f.blk, 0, none⟩ = some (.slice v 0 c)) ∧ Chg w w' (foot f))) := fun e H => by
    refine H.mono ?_
    rintro e' w' ⟨rfl, p⟩
    rw [e, cut_none e]
    exact ⟨rfl, .inl ⟨h.ne, p⟩⟩
  by_cases hr : cnt a f.L < f.L.length
  · by_cases ht : b < (f.L.getD 0 p0).1
    · exact keep (rng_none_out h.rise a b ht) (remove37_out w f h a b hl hr ht)
    · exact remove37_in w f h a b hl hr (by omega)
  · exact keep (rng_none_end h.rise a b hr) (remove37_end w f h a b hl hr)
/-- A column has gone out of the map. -/
theorem dele {w w' : World} {S : Nat → Prop} {g N m : Nat} {d d' : St} {s : Ky} {f : Co} (h : Dk w S g N d) (hF : d.F s = some f) (hm : d.fv = .map (some m)) (c : Chg w w' (fun k => k = g ∨ k = m ∨ foot f k)) (hc : Cd.Cs w' g d') (e1 : d'.fv = d.fv) (e2 : d'.F = fun y => if y = s then none else d.F y) (hi : Is w' m N (fun y => (d'.F y).map Co.blk)) : Dk w' S g N d' := by
  have hmS : S m ∧ m ≠ g := by
    rcases h.fv with ⟨a, _⟩ | ⟨m', a, b, x, _⟩
    · rw [hm] at a; cases a
    · rw [hm] at a; cases a; exact ⟨b, x⟩
  have hof : ∀ y f2, d'.F y = some f2 → y ≠ s ∧ d.F y = some f2 := fun y f2 hy => by
    rw [e2] at hy
    dsimp only at hy
    split at hy
    · cases hy
    · rename_i e; exact ⟨e, hy⟩
  refine ⟨hc, h.sg, fun k hk => Nat.lt_of_lt_of_le (h.lt k hk) c.size, .inr ⟨m, e1.trans hm, hmS.1, hmS.2, hi⟩, fun m' e y f2 hy => ?_, fun y f2 hy => ?_, fun y y' f2 f3 hn hy hy' => ?_⟩
  · rw [e1, hm] at e
    cases e
    exact h.mf m hm y f2 (hof y f2 hy).2
  · obtain ⟨hne, hy2⟩ := hof y f2 hy
    obtain ⟨p, q, r⟩ := h.fm y f2 hy2
    refine ⟨p.move fun k hk => c.block k (h.lt k (r k hk)) ?_, q, r⟩
    rintro (e | e | e)
    · exact q (e ▸ hk)
    · exact h.mf m hm y f2 hy2 (e ▸ hk)
    · exact h.ap y s f2 f hne hy2 hF k hk e
  · exact h.ap y y' f2 f3 hn (hof y f2 hy).2 (hof y' f3 hy').2
theorem empty38_e (w : World) (cb : Nat) (v : Option Addr) (c : Nat) (hc : w.cell? ⟨cb, 0, none⟩ = some (.slice v 0 c)) : Calls Try.prog 38 #[.pointer (some ⟨cb, 0, none⟩)] w fun e w' => e = .returned (.bool true) ∧ w' = w := by
  go_enter Try.func38, Try.ntmps38
  go_wp2_with fail
  go_ret
  simp
def delV (V : Vw) (s : Ky) (a b : Int) : Vw := { V with size := V.size - (rng a b (V.P s)).length, P := fun y => if y = s then cut a b (V.P s) else V.P y }
theorem delV_none {V : Vw} {s : Ky} {a b : Int} (h : rng a b (V.P s) = []) : delV V s a b = V := by
  unfold delV
  rw [h, cut_none h]
  have : (fun y => if y = s then V.P s else V.P y) = V.P := by
    funext y
    by_cases e : y = s
    · rw [if_pos e, e]
    · rw [if_neg e]
  rw [this]
  rfl
theorem keepEnd {w w2 w3 : World} {S : Nat → Prop} {g N : Nat} {d : St} {s : Ky} {f : Co} {a b : Int} (h : Dk w S g N d) (hF : d.F s = some f) (hp : Put w f.blk (foot f) (cut a b f.L) w2) (c : Chg w2 w3 (fun k => k = g)) (hc : Cd.Cs w3 g { d with size := d.size - (rng a b f.L).length }) :
    ∃ d', vw d' = delV (vw d) s a b ∧ Dk w3 (New S w w3) g N d' ∧ Chg w w3 S := by
  obtain ⟨f', f1, f2, f3, f4, f5⟩ := hp
  obtain ⟨_, hg, hS⟩ := h.fm s f hF
  have s2 := f4.size
  have s3 := c.size
  have hfg : ¬ foot f' g := fun hk => by
    rcases f5 g hk with e | e
    · exact hg e
    · have := h.lt g h.sg; omega
  have f3' : Cm w3 f' := f3.move fun k hk => c.block k (f3.lt hk) (fun e => hfg (e ▸ hk))
  have k := h.file (w' := w3) (d' := { d with size := d.size - (rng a b f.L).length, F := fun y => if y = s then some f' else d.F y }) hF
    ((f4.imp (S' := fun k => k = g ∨ foot f k) (fun k hk _ => .inr hk)).trans c (fun k hk _ => .inl hk)) ⟨hc.c0, hc.c1, hc.c2, hc.z, hc.bm, hc.bs⟩ rfl rfl f1 f3' (fun k hk => (f5 k hk).imp id (fun e => ⟨e.1, by omega⟩))
  refine ⟨_, ?_, k, (f4.imp (S' := S) (fun k hk _ => hS k hk)).trans c (fun k hk _ => hk ▸ h.sg)⟩
  have e1 : (vw d).P s = f.L := by show pts (d.F s) = f.L; rw [hF]; rfl
  unfold delV
  rw [e1]
  unfold vw
  simp only
  congr 1
  funext y
  by_cases e : y = s
  · simp only [e, if_true]; exact f2
  · simp only [e, if_false]
theorem cutEnd {w w3 w4 : World} {S : Nat → Prop} {g N m : Nat} {d : St} {s : Ky} {f : Co} {a b : Int} (h : Dk w S g N d) (hF : d.F s = some f) (hm : d.fv = .map (some m)) (hct : cut a b f.L = []) (c : Chg w w3 (fun k => k = g ∨ foot f k)) (hc : Cd.Cs w3 g { d with size := d.size - (rng a b f.L).length })
    (hi : Is w4 m N (fun y => if y = s then none else (d.F y).map Co.blk)) (ht : w3.mapTurned w4 m) : ∃ d', vw d' = delV (vw d) s a b ∧ Dk w4 (New S w w4) g N d' ∧ Chg w w4 S := by
  have hmS : S m ∧ m ≠ g := by
    rcases h.fv with ⟨e, _⟩ | ⟨m', e, b, x, _⟩
    · rw [hm] at e; cases e
    · rw [hm] at e; cases e; exact ⟨b, x⟩
  have c4 : Chg w w4 (fun k => k = g ∨ k = m ∨ foot f k) := (c.imp (S' := fun k => k = g ∨ k = m ∨ foot f k) (fun k hk _ => hk.imp id .inr)).turned (.inr (.inl rfl)) ht
  have k4 := hc.of_block (mt_block ht hmS.2.symm)
  have k := dele (d' := { d with size := d.size - (rng a b f.L).length, F := fun y => if y = s then none else d.F y }) h hF hm c4 ⟨k4.c0, k4.c1, k4.c2, k4.z, k4.bm, k4.bs⟩ rfl rfl (hi.ext fun y => by dsimp only; split <;> rfl)
  have s4 := c4.size
  refine ⟨_, ?_, k.set (fun k hk => .inl hk) (fun k hk => ?_), c4.imp (fun k hk _ => ?_)⟩
  · have e1 : (vw d).P s = f.L := by show pts (d.F s) = f.L; rw [hF]; rfl
    unfold delV
    rw [e1, hct]
    unfold vw
    simp only
    congr 1
    funext y
    by_cases e : y = s
    · simp only [e, if_true]; rfl
    · simp only [e, if_false]
  · rcases hk with hk | hk
    · have := h.lt k hk; omega
    · exact hk.2
  · rcases hk with e | e | e
    · exact e ▸ h.sg
    · exact e ▸ hmS.1
    · exact (h.fm s f hF).2.2 k e
set_option maxRecDepth 100000
theorem delete21_none (w : World) (S : Nat → Prop) (g N : Nat) (d : St) (h : Dk w S g N d) (s : Ky) (hs : ok s) (a b : Int) (hF : d.F s = none) : Calls Try.prog 21 #[.pointer (some ⟨g, 0, none⟩), .string s.1, .string s.2, .int .i64 a, .int .i64 b] w fun e w' => e = .returned (.int .i64 0) ∧ Below w.heap.size w w' := by
  have FI := Lib.hid (show ∀ w1, Below w.heap.size w w1 → _ from fun w1 b1 => find25 w1 S g N d (h.below b1 (Nat.le_refl _)) s hs)
  have RM := Lib.hid (fun w1 c hc hz => remove37_0 w1 c a b hc hz)
  unfold kv at FI
  clear h hs
  go_enter Try.func21, Try.ntmps21
  go_wp2_with fail
  have b0 := (Below.refl _ w).alloc (Nat.le_refl _) (.cells #[.string s.1, .string s.2] 65)
  refine (FI.out _ b0).mono ?_
  rintro e w1 ⟨c, rfl, pt, b1, hc⟩
  rw [hF] at pt
  have hcn := hc hF
  rw [World.size_alloc] at hcn b1
  have RR := Lib.hid (RM.out w1 c pt.1 pt.2)
  have B1 := Lib.hid (b0.trans (b1.mono (by omega)))
  clear pt b1 hc
  go_wp2_with fail
  refine RR.out.mono ?_
  rintro e w2 ⟨rfl, c2⟩
  have B2 := Lib.hid (B1.out.trans (c2.below (B := w.heap.size) (fun k hk _ => by omega) B1.out.size))
  clear c2
  go_wp2_with fail
  go_ret
  exact ⟨rfl, B2.out⟩
theorem delete21_some (w : World) (S : Nat → Prop) (g N : Nat) (d : St) (h : Dk w S g N d) (s : Ky) (hs : ok s) (a b : Int) (f : Co) (hF : d.F s = some f) (hl : f.L.length ≤ 1000000) (hsz : f.L.length ≤ d.size) : Calls Try.prog 21 #[.pointer (some ⟨g, 0, none⟩), .string s.1, .string s.2, .int .i64 a, .int .i64 b] w fun e w' => e = .returned (.int .i64 ((rng a b f.L).length : Nat)) ∧ ∃ d', vw d' = delV (vw d) s a b ∧ Dk w' (New S w w') g N d' ∧ Chg w w' S := by
  have FI := Lib.hid (show ∀ w1, Below w.heap.size w w1 → Calls Try.prog 25 #[.pointer (some ⟨g, 0, none⟩), kv s] w1 fun e w' => e = .returned (.pointer (some ⟨f.blk, 0, none⟩)) ∧ Below w1.heap.size w1 w' from fun w1 b1 => find25_some w1 S g N d (h.below b1 (Nat.le_refl _)) s hs f hF)
  have hfm := (h.fm s f hF).1
  have RM := Lib.hid (fun w1 (b1 : Below w.heap.size w w1) => remove37 w1 f (hfm.below b1 (Nat.le_refl _)) a b hl)
  have hlen := len_split f.L a b
  unfold kv at FI
  obtain ⟨G, hG⟩ : ∃ G, G = (rng a b f.L).length := ⟨_, rfl⟩
  obtain ⟨Z, hZ⟩ : ∃ Z, Z = d.size := ⟨_, rfl⟩
  have hZ9 := h.cs.bs
  rw [← hG] at RM hlen ⊢
  rw [← hZ] at hsz hZ9
  have HH := Lib.hid h
  have HG := Lib.hid hG
  have HZ := Lib.hid hZ
  have HFS := Lib.hid hF
  have HS := Lib.hid hs
  have gl := h.lt g h.sg
  have CC := Lib.hid (show ∀ w2, Chg w w2 (foot f) → w2.cell? ⟨g, 1, none⟩ = some (.int .i64 (Z : Nat)) ∧ w2.frozen? ⟨g, 1, none⟩ = false ∧ w2.cell? ⟨g, 2, none⟩ = some d.fv from fun w2 c2 => by
    have k := h.cs.of_block (c2.block g gl (h.fm s f hF).2.1)
    exact ⟨by rw [hZ]; exact k.c1, k.z 1, k.c2⟩)
  clear h hs hfm hG hZ hF
  go_enter Try.func21, Try.ntmps21
  go_wp2_with fail
  have b0 := (Below.refl _ w).alloc (Nat.le_refl _) (.cells #[.string s.1, .string s.2] 65)
  refine (FI.out _ b0).mono ?_
  rintro e w1 ⟨rfl, b1⟩
  rw [World.size_alloc] at b1
  have hbx := (b1.block w.heap.size (by omega)).trans (heap_alloc_new w (.cells #[.string s.1, .string s.2] 65))
  have s1 := b1.size
  simp at s1
  have BX1 := Lib.hid hbx
  have B1 := Lib.hid (b0.trans (b1.mono (by omega)))
  clear b1 hbx
  go_wp2_with fail
  refine (RM.out w1 B1.out).mono ?_
  rintro e w2 ⟨rfl, hR⟩
  have HR := Lib.hid hR
  have c2 : Chg w w2 (foot f) := by
    rcases hR with ⟨_, f', _, _, _, c, _⟩ | ⟨_, _, c⟩
    · exact (Chg.of_below B1.out (Nat.le_refl _) (foot f)).trans c (fun k hk _ => hk)
    · exact (Chg.of_below B1.out (Nat.le_refl _) (foot f)).trans c (fun k hk _ => hk)
  have C2 := Lib.hid c2
  obtain ⟨k1, z1, k2⟩ := CC.out w2 c2
  clear hR c2
  by_cases hG0 : G = 0
  · have HG0 := Lib.hid hG0
    rw [hG0] at hlen ⊢
    go_wp2_with fail
    go_ret
    refine ⟨ret_i (by rw [HG0.out]; rfl), ?_⟩
    have hr : rng a b f.L = [] := List.length_eq_zero_iff.1 (by rw [← HG.out]; exact HG0.out)
    have h := HH.out
    rcases HR.out with ⟨_, p⟩ | ⟨e, _⟩
    · exact keepEnd h HFS.out (p.up B1.out) (Chg.refl _ _) (by
        have k := h.cs.of_block (C2.out.block g gl (h.fm s f HFS.out).2.1)
        rw [hr]
        exact k)
    · rw [cut_none hr] at e
      exact absurd e (h.fm s f HFS.out).1.ne
  · have hg1 : ((G : Int) == 0) = false := by simp; omega
    have hw : wrap64 ((Z : Int) - (G : Int)) = ((Z - G : Nat) : Int) := by unfold wrap64; omega
    have HC3 : Hid (Cd.Cs (w2.setCell ⟨g, 1, none⟩ (.int .i64 ((Z - G : Nat) : Int))) g { d with size := d.size - (rng a b f.L).length }) := Lib.hid (by
      have k := HH.out.cs.of_block (C2.out.block g gl (HH.out.fm s f HFS.out).2.1)
      have := k.set1 (Z - G) (by omega)
      rw [← HG.out, ← HZ.out]
      exact this)
    have hgw : ¬ (w.heap.size = g) := by omega
    have hbx2 : w2.heap[w.heap.size]? = some (.cells #[.string s.1, .string s.2] 65 (0, 0)) := by
      rcases HR.out with ⟨_, f', _, _, _, c, _⟩ | ⟨_, _, c⟩
      · exact (c.block _ (by omega) (fun e => by have := HH.out.lt _ ((HH.out.fm s f HFS.out).2.2 _ e); omega)).trans BX1.out
      · exact (c.block _ (by omega) (fun e => by have := HH.out.lt _ ((HH.out.fm s f HFS.out).2.2 _ e); omega)).trans BX1.out
    have q0 := cell_at hbx2 0
    have q1 := cell_at hbx2 1
    simp at q0 q1
    have hwZ : ((Z : Int) - (G : Int)) = ((Z - G : Nat) : Int) := by omega
    clear hbx2
    rcases HR.out with ⟨hne, hp⟩ | ⟨he, ⟨v, vc, hv⟩, cv⟩
    · have hp2 := hp.up B1.out
      have K := Lib.hid (keepEnd HH.out HFS.out hp2 ((Chg.refl w2 (fun k => k = g)).setCell rfl _) HC3.out)
      obtain ⟨f', f1, f2, f3, f4, f5⟩ := hp2
      have hfg : ¬ foot f' g := fun hk => by
        rcases f5 g hk with e | e
        · exact (HH.out.fm s f HFS.out).2.1 e
        · omega
      have EM := empty38_1 (w2.setCell ⟨g, 1, none⟩ (.int .i64 ((Z - G : Nat) : Int))) f' (f3.move fun k hk => heap_setCell_ne (fun e => hfg (e ▸ hk)))
      rw [f1] at EM
      replace EM := Lib.hid EM
      clear hp f1 f2 f3 f4 f5 hne hfg
      go_wp2_with fail
      refine EM.out.mono ?_
      rintro e w4 ⟨rfl, rfl⟩
      go_wp2_with fail
      go_ret
      exact ⟨rfl, K.out⟩
    · have hbg : f.blk ≠ g := fun e => (HH.out.fm s f HFS.out).2.1 (.inl e.symm)
      have EM := Lib.hid (empty38_e (w2.setCell ⟨g, 1, none⟩ (.int .i64 ((Z - G : Nat) : Int))) f.blk v vc ((World.cell?_of_block (heap_setCell_ne hbg)).trans hv))
      have DE : Hid (∃ m w4, d.fv = .map (some m) ∧ (∀ ty, (Builtin.delete_ #[58, 65] ty #[.map (some m), kv s]).run Try.prog (w2.setCell ⟨g, 1, none⟩ (.int .i64 ((Z - G : Nat) : Int))).drew = .ok (.tuple #[]) w4) ∧ ∃ d', vw d' = delV (vw d) s a b ∧ Dk w4 (New S w w4) g N d' ∧ Chg w w4 S) := Lib.hid (by
        have h := HH.out
        rcases h.fv with ⟨_, e⟩ | ⟨m, hm, hmS, hmg, hi⟩
        · rw [e s] at HFS; cases HFS
        · have hmf := h.mf m hm s f HFS.out
          have hi2 : Is (w2.setCell ⟨g, 1, none⟩ (.int .i64 ((Z - G : Nat) : Int))).drew m N (fun y => (d.F y).map Co.blk) := hi.of_block ((heap_setCell_ne hmg).trans (C2.out.block m (h.lt m hmS) hmf))
          obtain ⟨w4, hrun, hi4, ht4⟩ := hi2.del (s := s) HS.out
          exact ⟨m, w4, hm, hrun, cutEnd h HFS.out hm he ((C2.out.imp (S' := fun k => k = g ∨ foot f k) (fun k hk _ => .inr hk)).setCell (.inl rfl) _).drew (HC3.out.of_block rfl) hi4 ht4⟩)
      obtain ⟨m, w4, hfv, hrun, K⟩ := DE.out
      have K2 := Lib.hid K
      rw [hfv] at k2
      unfold kv at hrun
      have hgb : ¬ (g = w.heap.size) := by omega
      clear K hv cv he hfv
      go_wp2_with fail
      refine EM.out.mono ?_
      rintro e w5 ⟨rfl, rfl⟩
      go_wp2_with fail
      go_region
      go_wp2_with fail
      go_ret
      exact ⟨rfl, K2.out⟩
end Rd
end Go.Proofs.Ytloiclmngmnbdaa
