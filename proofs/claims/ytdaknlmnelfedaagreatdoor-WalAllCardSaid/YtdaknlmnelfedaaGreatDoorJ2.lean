/- The disk's List and Restart. -/
import Derived.Test.YtdaknlmnelfedaaGreatDoorJ1
import Derived.Deep.RegionHeld
namespace Go.Proofs.YtdaknlmnelfedaaGreatDoor
open Go.RowKit Go.Maps Go.ChangeMaps Go.MapKept
namespace J2
open Jb Jm Jd Jw Jx Jn Je Jf Jg Jh Jk Jc Jl Jo Jq J1

theorem list_down (w : World) (S : Nat → Prop) (g N : Nat) (V : Vw) (h : DV w S g N V) (hd : V.down = true) : Calls Tryz.prog 31 #[.pointer (some ⟨g, 0, none⟩)] w fun e w' => e = .returned (.slice none 0 0) ∧ w' = w := by
  have D := Lib.hid (Down_c w S g N V h)
  rw [hd] at D
  clear h hd
  go_enter Tryz.func31, Tryz.ntmps31
  go_wp2_with (go_at_call 12; refine (D.out).mono ?_; rintro e w ⟨rfl, rfl⟩)
  go_ret
  first | trivial | exact ⟨rfl, rfl⟩
/-- The names, rising. -/
def Names (F : FT) (ns : List (List UInt8)) : Prop := ns.Pairwise (· < ·) ∧ ∀ x, x ∈ ns ↔ F (nm x) ≠ none
theorem Names.nodup {F : FT} {ns : List (List UInt8)} (h : Names F ns) : ns.Nodup := h.1.imp fun {a b} hab e => by subst e; exact List.lt_irrefl a hab
theorem Names.dk {d : St} {ns : List (List UInt8)} (h : Names (vw d).F ns) : ∀ x, x ∈ ns ↔ ∃ s f, d.F s = some f ∧ s.data.toList = x := by
  intro x
  rw [h.2 x]
  constructor
  · intro hx
    cases hf : d.F (nm x) with
    | none => exact absurd (by simp [vw, hf]) hx
    | some f => exact ⟨nm x, f, hf, by simp [nm]⟩
  · rintro ⟨s, f, hf, rfl⟩
    have : nm s.data.toList = s := by unfold nm; simp
    rw [this]
    simp [vw, hf]
theorem list_up (w : World) (S : Nat → Prop) (g N : Nat) (V : Vw) (h : DV w S g N V) (hd : V.down = false) (hN : N ≤ 8796093022208) (ns : List (List UInt8)) (hn : Names V.F ns) :
    Calls Tryz.prog 31 #[.pointer (some ⟨g, 0, none⟩)] w fun e w' => ∃ v, e = .returned v ∧ w'.ownsRow w.heap.size 9 1 v ns.length (ns.map Go.Proofs.encStr) ∧ Below w.heap.size w w' := by
  obtain ⟨d, h, rfl⟩ := h
  have D := Lib.hid (down24 w g d h.cs)
  rw [show d.down = false from hd] at D
  have M := Lib.hid (names43 w S g N d h hN ns hn.1 hn.dk)
  clear h hd hN hn
  go_enter Tryz.func31, Tryz.ntmps31
  go_wp2_with (first | (go_at_call 12; refine (D.out).mono ?_; rintro e w ⟨rfl, rfl⟩) | (go_at_call 24; refine (M.out).mono ?_; rintro e w' ⟨v, rfl, hrow, hbl⟩))
  go_ret
  exact ⟨v, rfl, hrow, hbl⟩
/-- Where a restart stands behind k names. -/
structure At (wn : World) (S : Nat → Prop) (g N : Nat) (R : Nat → Prop) (d : St) (r : Rs) (chv : Value) (wr : World) (d' : St) : Prop where
  src : Src wr R chv r.ch
  F : (vw d').F = r.F
  used : d'.used = r.used
  room : d'.room = d.room
  dk : Dk wr (New S wn wr) g N d'
  chg : Chg wn wr S
theorem forms9 {w : World} {B n : Nat} {v : Value} {xs : List Value} (h : w.ownsRow B 9 1 v n xs) : ∃ a c, v = .slice a n c := by
  rcases Go.Joins.ownsRow_forms h with ⟨rfl, e⟩ | ⟨q, c, rfl⟩
  · exact ⟨none, 0, by rw [e]⟩
  · exact ⟨_, c, rfl⟩
/-- The file is cut, and what is left is synced: where the restart stands then. -/
theorem at_cut {wn w1 w2 w3 : World} {S : Nat → Prop} {g N : Nat} {R : Nat → Prop} {d d' d2 : St} {r : Rs} {chv chv' : Value} {x : List UInt8} {f f' : Fi} {Z : Nat} (hlt : ∀ k, S k → k < wn.heap.size) (hR : ∀ k, R k → ¬ S k ∧ k < wn.heap.size)
    (h : At wn S g N R d r chv w1 d') (hf : d'.F (nm x) = some f) (hne : (ab f).1.length ≠ (ab f).2) (hZ : Z = stays (ab f) r.ch) (e1 : f'.blk = f.blk) (e2 : f'.bs = f.bs.take Z) (k3 : Dk w2 (New (New S wn w1) w1 w2) g N d2) (hd2 : d2 = { d' with F := fun y => if y = nm x then some f' else d'.F y, used := d'.used - (f.bs.length - Z) }) (c3 : Chg w1 w2 (fun k => k = g ∨ foot f k))
    (hs : Src w1 R chv' r.ch.tail) (h3 : w3 = w2.setCell ⟨f.blk, 1, none⟩ (.int .i64 ((f.bs.take Z).length : Nat))) :
    ∃ d3, At wn S g N R d (stp r x) chv' w3 d3 := by
  have hz0 := h.chg.size
  have hz1 := c3.size
  have f2 : d2.F (nm x) = some f' := by rw [hd2]; exact if_pos rfl
  obtain ⟨m2, mg, ms⟩ := k3.fm _ _ f2
  have s3 : w3.heap.size = w2.heap.size := by rw [h3]; simp
  have c4 : Chg w2 w3 (fun k => k = g ∨ foot f' k) := by rw [h3]; exact (Chg.refl w2 _).setCell (.inr (.inl e1.symm)) _
  have hlen : (f.bs.take Z).length = f'.bs.length := by rw [e2]
  have hf3 : Fm w3 ⟨f'.blk, f'.v, f'.bs, f'.bs.length⟩ := by rw [h3, ← e1, hlen]; exact m2.set1 _ (Nat.le_refl _)
  have hc := (k3.cs.off (b := f.blk) (i := 1) (v := .int .i64 ((f.bs.take Z).length : Nat)) (fun e => mg (.inl (by rw [e1, e]))))
  rw [← h3] at hc
  have k4 := k3.file (d' := { d2 with F := fun y => if y = nm x then some ⟨f'.blk, f'.v, f'.bs, f'.bs.length⟩ else d2.F y }) f2 c4 ⟨hc.c0, hc.c1, hc.c2, hc.c3, hc.c4, hc.c5, hc.z, hc.bu, hc.br, hc.bf⟩ rfl rfl rfl hf3 (fun k hk => .inl hk)
  have hrf : r.F (nm x) = some (ab f) := by rw [← h.F]; simp [vw, hf]
  have hst := stp_cut hrf hne
  obtain ⟨mf1, mg1, ms1⟩ := h.dk.fm _ _ hf
  have hZl : Z ≤ f.bs.length := by rw [hZ]; exact stays_le _ _ mf1.syn
  have hS1 : ∀ k, (k = g ∨ foot f k) → New S wn w1 k := fun k hk => hk.elim (fun e => e ▸ h.dk.sg) (fun e => ms1 k e)
  have cT : Chg w1 w3 (New S wn w1) := by
    refine (c3.imp fun k hk _ => hS1 k hk).trans c4 fun k hk hl => ?_
    rcases hk with e | e
    · exact hS1 k (.inl e)
    · rcases ms k e with e' | e'
      · exact e'
      · omega
  refine ⟨_, ?_, ?_, ?_, ?_, k4.set (fun k hk => ?_) (fun k hk => ?_), h.chg.trans cT fun k hk hl => hk.elim id (fun e => by omega)⟩
  · rw [hst]
    refine hs.move fun k hk hl => ?_
    obtain ⟨r1, r2⟩ := hR k hk
    exact cT.block k hl (fun e => e.elim r1 (fun e => by omega))
  · rw [hst, ← hZ]
    funext y
    show Option.map ab (if y = nm x then _ else d2.F y) = upd r.F (nm x) (f.bs.take Z, Z) y
    by_cases e : y = nm x
    · rw [if_pos e, e, upd_same]
      show some (f'.bs, f'.bs.length) = _
      rw [e2, List.length_take]
      show some (f.bs.take Z, min Z f.bs.length) = some (f.bs.take Z, Z)
      rw [Nat.min_eq_left hZl]
    · rw [if_neg e, upd_other e, hd2, ← h.F]
      show Option.map ab (if y = nm x then _ else d'.F y) = _
      rw [if_neg e]; rfl
  · rw [hst, ← hZ, ← h.used, hd2]; rfl
  · rw [hd2]; exact h.room
  · rcases hk with ((hk | hk) | hk) | hk
    · exact .inl hk
    · exact .inr ⟨hk.1, by omega⟩
    · exact .inr ⟨by omega, by omega⟩
    · omega
  · rcases hk with hk | hk
    · have := hlt k hk; omega
    · exact hk.2
end J2
end Go.Proofs.YtdaknlmnelfedaaGreatDoor
