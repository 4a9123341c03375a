/- cut, drop, made. -/
import Derived.Test.YtdaknlmnelfedaaGreatDoorJn
import Derived.Deep.RegionHeldLaw
namespace Go.Proofs.YtdaknlmnelfedaaGreatDoor
open Go.RowKit Go.Maps Go.ChangeMaps Go.MapKept
namespace Jc
open Jb Jm Jd Jw Jx Jn

set_option maxRecDepth 100000 in
theorem cut44 (w : World) (S : Nat → Prop) (g N : Nat) (d : St) (h : Dk w S g N d) (s : ByteArray) (f : Fi) (hf : d.F s = some f) (n : Nat) (hn : n ≤ f.bs.length) (hu : f.bs.length ≤ d.used) (hb : f.bs.length ≤ 140737488355328) :
    Calls Tryz.prog 25 #[.pointer (some ⟨g, 0, none⟩), .pointer (some ⟨f.blk, 0, none⟩), .int .i64 (n : Nat)] w fun e w' => e = .returned (.tuple #[]) ∧
      ∃ f', f'.blk = f.blk ∧ f'.bs = f.bs.take n ∧ f'.syn = min f.syn n ∧ Dk w' (New S w w') g N { d with F := fun x => if x = s then some f' else d.F x, used := d.used - (f.bs.length - n) } ∧ Chg w w' (fun k => k = g ∨ foot f k) := by
  obtain ⟨fm, fg, fs⟩ := h.fm s f hf
  have c1 := h.cs.c1
  have z1 := h.cs.z 1
  have f0 := fm.c0
  have f1 := fm.c1
  have y0 := fm.z0
  have y1 := fm.z1
  have bu := h.cs.bu
  have hne : f.blk ≠ g := fun e => fg (.inl e.symm)
  obtain ⟨b, hbk⟩ : ∃ b, b = f.blk := ⟨_, rfl⟩
  obtain ⟨L, hL⟩ : ∃ L, L = f.bs.length := ⟨_, rfl⟩
  obtain ⟨U, hU⟩ : ∃ U, U = d.used := ⟨_, rfl⟩
  obtain ⟨V, hV⟩ : ∃ V, V = f.v := ⟨_, rfl⟩
  obtain ⟨K, hK⟩ : ∃ K, K = f.syn := ⟨_, rfl⟩
  rw [← hbk] at f0 f1 y0 y1 hne ⊢
  rw [← hL] at hn hu hb
  rw [← hU] at c1 hu bu
  rw [← hV] at f0
  rw [← hK] at f1
  have own := fm.own
  rw [← hV, ← hL] at own
  have forms : ∃ a c, V = .slice a L c := by
    rcases Go.Joins.ownsRow_forms own with ⟨rfl, e⟩ | ⟨q, c, rfl⟩
    · exact ⟨none, 0, by rw [e]⟩
    · exact ⟨_, c, rfl⟩
  obtain ⟨A, C, hVf⟩ := forms
  have hnC : n ≤ C := by
    have := own_cap (hVf ▸ own)
    omega
  have hmin : (min (K : Int) (n : Int)) = ((min K n : Nat) : Int) := by omega
  have HMIN := Lib.hid hmin
  clear hmin
  have q1 : IntKind.i64.wrap ((L : Int) - (n : Nat)) = ((L - n : Nat) : Int) := by rw [IntKind.wrap_i64]; omega
  have q2 : IntKind.i64.wrap ((U : Int) - ((L - n : Nat) : Int)) = ((U - (L - n) : Nat) : Int) := by rw [IntKind.wrap_i64]; omega
  have HH := Lib.hid h
  have HF := Lib.hid hf
  have HFM := Lib.hid fm
  have HO := Lib.hid own
  have HN := Lib.hid hn
  have HE := Lib.hid (And.intro hbk (And.intro hL (And.intro hU (And.intro hV hK))))
  have HB := Lib.hid hb
  have HVF := Lib.hid hVf
  rw [hVf] at f0
  clear h hf fm own hn fg fs hbk hL hU hV hK hb hu bu hVf
  have FIN : ∀ f' : Fi, ∀ w' : World, Cs w' g { d with used := U - (L - n), F := fun x => if x = s then some f' else d.F x } → Fm w' f' → f'.blk = b → f'.bs = f.bs.take n → f'.syn = min K n → Chg w w' (fun k => k = g ∨ foot f k) →
      (∀ k, f'.v.ownBlock = some k → f.v.ownBlock = some k ∨ (w.heap.size ≤ k ∧ k < w'.heap.size)) →
      ∃ f', f'.blk = b ∧ f'.bs = f.bs.take n ∧ f'.syn = min f.syn n ∧ Dk w' (New S w w') g N { d with F := fun x => if x = s then some f' else d.F x, used := d.used - (f.bs.length - n) } ∧ Chg w w' (fun k => k = g ∨ foot f k) := by
    intro f' w' h1 h2 h3 h4 h5 h6 h7
    obtain ⟨e1, e2, e3, e4, e5⟩ := HE.out
    rw [e2, e3] at h1
    exact ⟨f', h3, h4, by rw [h5, e5], HH.out.file HF.out h6 ⟨h1.c0, h1.c1, h1.c2, h1.c3, h1.c4, h1.c5, h1.z, h1.bu, h1.br, h1.bf⟩ rfl rfl (h3.trans e1) h2 h7, h6⟩
  have HFIN := Lib.hid FIN
  clear FIN
  have MID : ∀ W : World, W = ((w.setCell ⟨g, 1, none⟩ (.int .i64 (U - (L - n) : Nat))).setCell ⟨b, 0, none⟩ (.slice A n C)).setCell ⟨b, 1, none⟩ (.int .i64 (min K n : Nat)) →
      Cs W g { d with used := U - (L - n) } ∧ Fm W ⟨b, .slice A n C, f.bs.take n, min K n⟩ ∧ Chg w W (fun k => k = g ∨ foot f k) ∧ W.heap.size = w.heap.size := by
    intro W hW
    obtain ⟨e1, e2, e3, e4, e5⟩ := HE.out
    have hfg := (HH.out.fm s f HF.out).2.1
    have hu : U - (L - n) ≤ 9223372036854775807 := by have := HH.out.cs.bu; omega
    have hl : (f.bs.take n).length = n := by rw [List.length_take, ← e2]; have := HN.out; omega
    have ot := own_take (HVF.out ▸ HO.out) HN.out
    rw [u8s_take] at ot
    have ob : (Value.slice A n C).ownBlock = f.v.ownBlock := by rw [← e4, HVF.out]; exact own_block
    have hg1 : ∀ k, f.v.ownBlock = some k → k ≠ g := fun k hk e => hfg (.inr (e ▸ hk))
    rw [hW]
    refine ⟨((HH.out.cs.set1 _ hu).off hne).off hne, ?_, ?_, by simp⟩
    · rw [e1]
      refine (HFM.out.off hfg).set01 _ _ _ ?_ ?_ (fun x hx => HFM.out.byte x (List.mem_of_mem_take hx)) (by rw [ob]; exact HFM.out.apart)
      · rw [hl]; exact own_of_block ot fun k hk => heap_setCell_ne (hg1 k (ob ▸ hk))
      · rw [hl]; omega
    · exact (((Chg.refl w _).setCell (.inl rfl) _).setCell (.inr (.inl e1)) _).setCell (.inr (.inl e1)) _
  have HMID := Lib.hid MID
  clear MID
  by_cases hq : (n : Int) < wrap64 ((C : Int) / 2)
  · go_enter Tryz.func25, Tryz.ntmps25
    go_wp2_with fail
    go_region
    go_wp2_with fail
    rw [HMIN.out]
    obtain ⟨W, hW⟩ : ∃ W, W = ((w.setCell ⟨g, 1, none⟩ (.int .i64 (U - (L - n) : Nat))).setCell ⟨b, 0, none⟩ (.slice A n C)).setCell ⟨b, 1, none⟩ (.int .i64 (min K n : Nat)) := ⟨_, rfl⟩
    rw [← hW]
    obtain ⟨m1, m2, m3, m4⟩ := HMID.out W hW
    have CL := clone45 W.drew _ (.slice A n C) (f.bs.take n) (src_own m2.own) (by have := HB.out; have := HE.out.2.1; rw [List.length_take]; omega)
    go_at_call 37
    refine CL.mono ?_
    rintro e w' ⟨v', rfl, hrow, hbl⟩
    obtain ⟨va, vc, hv'⟩ := own_forms hrow
    obtain ⟨vn, hvn⟩ : ∃ vn, vn = (f.bs.take n).length := ⟨_, rfl⟩
    rw [← hvn] at hv'
    subst hv'
    have fm' := m2.drew.below hbl (Nat.le_refl _)
    have k0 := fm'.c0
    have k1 := fm'.z0
    have FM := Lib.hid fm'
    have M1 := Lib.hid (m1.drew.below hbl (Nat.le_refl _))
    have M3 := Lib.hid (m3.drew.trans (Chg.of_below hbl (Nat.le_refl _) (fun _ => False)) (fun k hk => hk.elim))
    have HROW := Lib.hid hrow
    have M4 := Lib.hid m4
    have HBL := Lib.hid hbl
    dsimp only at k0 k1
    clear fm' m1 m2 m3 m4 hrow hbl CL hW hvn
    go_wp2_with fail
    obtain ⟨e1, e2, e3, e4, e5⟩ := HE.out
    have hsz : (W.drew).heap.size = w.heap.size := M4.out
    have hob : ∀ k, (Value.slice va vn vc).ownBlock = some k → w.heap.size ≤ k ∧ k < w'.heap.size := fun k hk => by have := own_lt HROW.out hk; rw [hsz] at this; exact this
    have hbw : b < w.heap.size := by rw [e1]; exact HFM.out.lt (.inl rfl)
    have m1 := M1.out.off (b := b) (i := 0) (v := .slice va vn vc) hne
    refine bodyPost_end (v := .tuple #[]) (by simp [results, Tryz.results25, go_sem]) rfl ⟨rfl, HFIN.out _ _ ⟨m1.c0, m1.c1, m1.c2, m1.c3, m1.c4, m1.c5, m1.z, m1.bu, m1.br, m1.bf⟩ (FM.out.set0 (.slice va vn vc) _ (own_base HROW.out (Nat.zero_le _)) FM.out.syn FM.out.byte (fun e => by have := (hob _ e).1; dsimp only at this; omega)) rfl rfl rfl (M3.out.setCell (.inr (.inl e1)) _) fun k hk => .inr ?_⟩
    simpa using hob k hk
  · go_enter Tryz.func25, Tryz.ntmps25
    go_wp2_with fail
    go_region
    go_wp2_with fail
    rw [HMIN.out]
    obtain ⟨W, hW⟩ : ∃ W, W = ((w.setCell ⟨g, 1, none⟩ (.int .i64 (U - (L - n) : Nat))).setCell ⟨b, 0, none⟩ (.slice A n C)).setCell ⟨b, 1, none⟩ (.int .i64 (min K n : Nat)) := ⟨_, rfl⟩
    rw [← hW]
    obtain ⟨m1, m2, m3, m4⟩ := HMID.out W hW
    refine bodyPost_end (v := .tuple #[]) (by simp [results, Tryz.results25, go_sem]) rfl ⟨rfl, HFIN.out _ _ ⟨m1.c0, m1.c1, m1.c2, m1.c3, m1.c4, m1.c5, m1.z, m1.bu, m1.br, m1.bf⟩ m2.drew rfl rfl rfl m3.drew fun k hk => ?_⟩
    refine .inl ?_
    obtain ⟨e1, e2, e3, e4, e5⟩ := HE.out
    rw [← e4, HVF.out, ← hk]
    exact own_block
end Jc
end Go.Proofs.YtdaknlmnelfedaaGreatDoor
