/- made in one form; what an append leaves; the disk as it is seen. -/
import Derived.Test.YtdaknlmnelfedaaGreatDoorJf
namespace Go.Proofs.YtdaknlmnelfedaaGreatDoor
open Go.RowKit Go.Maps Go.ChangeMaps Go.MapKept
namespace Jg
open Jb Jm Jd Jw Jx Jn Je Jf

/-- The disk as it is seen. -/
structure Vw where
  F : ByteArray → Option (List Nat × Nat)
  used : Nat
  room : Nat
  fused : Bool
  fuse : Nat
  down : Bool
def ab (f : Fi) : List Nat × Nat := (f.bs, f.syn)
def vw (d : St) : Vw := ⟨fun s => (d.F s).map ab, d.used, d.room, d.fused, d.fuse, d.down⟩
/-- The power fails at the next operation. -/
def Vw.lost (v : Vw) : Bool := v.fused && v.fuse == 0
/-- One operation. -/
def Vw.op (v : Vw) : Vw := if v.lost then { v with down := true } else if v.fused then { v with fuse := v.fuse - 1 } else v
theorem vw_op (d : St) : vw (opD d) = (vw d).op := by
  unfold opD Vw.op Vw.lost
  cases hf : d.fused
  · simp [vw, hf]
  · by_cases h0 : d.fuse = 0
    · simp [vw, hf, h0]
    · simp [vw, hf, h0]
theorem opE_eq (d : St) : opE d = if (vw d).lost then 8 else 0 := by
  unfold opE Vw.lost vw
  cases hf : d.fused <;> by_cases h0 : d.fuse = 0 <;> simp [h0]
theorem Vw.op_F (v : Vw) : v.op.F = v.F := by unfold Vw.op; split; rfl; split <;> rfl
theorem Vw.op_used (v : Vw) : v.op.used = v.used := by unfold Vw.op; split; rfl; split <;> rfl
theorem Vw.op_room (v : Vw) : v.op.room = v.room := by unfold Vw.op; split; rfl; split <;> rfl
theorem opD_used (d : St) : (opD d).used = d.used := by unfold opD; split; split <;> rfl; rfl
theorem opD_room (d : St) : (opD d).room = d.room := by unfold opD; split; split <;> rfl; rfl
theorem Dk.mono {w : World} {S : Nat → Prop} {g N N' : Nat} {d : St} (h : Dk w S g N d) (hn : N ≤ N') : Dk w S g N' d :=
  ⟨h.cs, h.sg, h.lt, h.fv.imp id (fun ⟨m, a, b, c, i⟩ => ⟨m, a, b, c, i.mono hn⟩), h.mf, h.fm, h.ap⟩
theorem Dk.new {w w' : World} {S : Nat → Prop} {g N : Nat} {d : St} (h : Dk w' S g N d) : Dk w' (New S w w') g N d :=
  h.set (fun _ hk => .inl hk) (fun k hk => hk.elim (h.lt k) (fun e => e.2))
theorem New.trans {S : Nat → Prop} {w w' w'' : World} (h1 : w.heap.size ≤ w'.heap.size) (h2 : w'.heap.size ≤ w''.heap.size) {k : Nat} (h : New (New S w w') w' w'' k) : New S w w'' k := by
  rcases h with (h | h) | h
  · exact .inl h
  · exact .inr ⟨h.1, by omega⟩
  · exact .inr ⟨by omega, h.2⟩
theorem Chg.new {a b c : World} {S : Nat → Prop} (h : Chg a b S) (k : Chg b c (New S a b)) : Chg a c S :=
  h.trans k fun i hi hl => hi.elim id (fun e => by omega)
theorem made41 (w : World) (S : Nat → Prop) (g N : Nat) (d : St) (h : Dk w S g N d) (s : ByteArray) (hs : s.size ≤ 64) (hN : N ≤ 140737488353000) :
    Calls Tryz.prog 64 #[.pointer (some ⟨g, 0, none⟩), .string s] w fun e w' => ∃ d' f, e = .returned (.pointer (some ⟨f.blk, 0, none⟩)) ∧ d'.F s = some f ∧ ab f = ((vw d).F s).getD ([], 0) ∧ (∀ x, x ≠ s → d'.F x = d.F x) ∧
      (d'.used = d.used ∧ d'.room = d.room ∧ d'.fused = d.fused ∧ d'.fuse = d.fuse ∧ d'.down = d.down) ∧ Dk w' (New S w w') g (N + 1) d' ∧ Chg w w' S := by
  cases hF : d.F s with
  | some f =>
    refine (made_old w S g N d h s (by omega) f hF).mono ?_
    rintro e w' ⟨rfl, rfl⟩
    exact ⟨d, f, rfl, hF, by simp [vw, hF], fun _ _ => rfl, ⟨rfl, rfl, rfl, rfl, rfl⟩, Dk.new (Dk.mono h (Nat.le_succ _)), Chg.refl _ _⟩
  | none =>
    refine (made_new w S g N d h s hs hN hF).mono ?_
    rintro e w' ⟨b, fv, rfl, h1, h2⟩
    exact ⟨{ d with fv := fv, F := fun y => if y = s then some (fi0 b) else d.F y }, fi0 b, rfl, if_pos rfl, by simp [vw, hF, ab, fi0], fun x hx => if_neg hx, ⟨rfl, rfl, rfl, rfl, rfl⟩, h1, h2⟩
/-- What an append to a file leaves. -/
theorem append_end {w w3 w5 : World} {S : Nat → Prop} {g N : Nat} {d : St} (h : Dk w S g N d) {s : ByteArray} {f : Fi} (hf : d.F s = some f) {v' : Value} {cs : List Nat} (hby : ∀ x ∈ cs, x < 256) {u : Nat} (hu : u ≤ 9223372036854775807)
    (hgr : w.grownBy w3 f.v.ownBlock) (hat : v'.ownBlock = f.v.ownBlock ∨ v'.ownBlock = some w.heap.size) (hrow : w3.ownsRow 0 5 1 v' (f.bs.length + cs.length) (u8s (f.bs ++ cs))) (h5 : w5 = (w3.setCell ⟨f.blk, 0, none⟩ v').setCell ⟨g, 1, none⟩ (.int .i64 (u : Nat))) :
    Dk w5 (New S w w5) g N { d with F := fun x => if x = s then some ⟨f.blk, v', f.bs ++ cs, f.syn⟩ else d.F x, used := u } ∧ Chg w w5 S := by
  obtain ⟨fm, fg, fs⟩ := h.fm s f hf
  have hne : f.blk ≠ g := fun e => fg (.inl e.symm)
  have hbw : f.blk < w.heap.size := fm.lt (.inl rfl)
  have hgw : g < w.heap.size := h.lt g h.sg
  have hb3 : w3.heap[f.blk]? = w.heap[f.blk]? := hgr.block _ hbw (fun e => fm.apart e.symm)
  have hg3 : w3.heap[g]? = w.heap[g]? := hgr.block _ hgw (fun e => fg (.inr e.symm))
  have hap : v'.ownBlock ≠ some f.blk := by
    rcases hat with e | e
    · rw [e]; exact fm.apart
    · rw [e]; intro e'; injection e' with e'; omega
  have hgv : v'.ownBlock ≠ some g := by
    rcases hat with e | e
    · rw [e]; exact fun e' => fg (.inr e')
    · rw [e]; intro e'; injection e' with e'; omega
  have c5 : Cs w5 g { d with used := u } := by
    rw [h5]
    exact ((h.cs.of_block hg3).off hne).set1 u hu
  have f5 : Fm w5 ⟨f.blk, v', f.bs ++ cs, f.syn⟩ := by
    have hg' : ∀ j, j ≠ g → w5.heap[j]? = (w3.setCell ⟨f.blk, 0, none⟩ v').heap[j]? := fun j hj => by rw [h5]; exact heap_setCell_ne hj
    have hz : w3.cell? ⟨f.blk, 0, none⟩ = some f.v := (World.cell?_of_block hb3).trans fm.c0
    have e4 : Fm (w3.setCell ⟨f.blk, 0, none⟩ v') ⟨f.blk, v', f.bs ++ cs, f.syn⟩ := by
      refine ⟨cell_same hz, (cell_other (by simp)).trans ((World.cell?_of_block hb3).trans fm.c1), by simpa using (World.frozen?_of_block hb3).trans fm.z0, by simpa using (World.frozen?_of_block hb3).trans fm.z1, ?_, ?_, ?_, hap⟩
      · rw [show (Fi.mk f.blk v' (f.bs ++ cs) f.syn).bs.length = f.bs.length + cs.length by simp]
        exact own_of_block hrow fun j hj => heap_setCell_ne fun e => hap (e ▸ hj)
      · have := fm.syn
        simp
        omega
      · intro x hx
        rcases List.mem_append.1 hx with hx | hx
        · exact fm.byte x hx
        · exact hby x hx
    refine e4.move fun j hj => hg' j fun e => ?_
    subst e
    rcases hj with e | e
    · exact hne e.symm
    · exact hgv e
  have chg : Chg w w5 (fun k => k = g ∨ foot f k) := by
    rw [h5]
    exact ((Chg.of_grown hgr _ (fun k hk _ => .inr (.inr hk))).setCell (.inr (.inl rfl)) _).setCell (.inl rfl) _
  refine ⟨h.file hf chg ⟨c5.c0, c5.c1, c5.c2, c5.c3, c5.c4, c5.c5, c5.z, c5.bu, c5.br, c5.bf⟩ rfl rfl rfl f5 (fun k hk => ?_), chg.imp fun k hk _ => ?_⟩
  · rcases hat with e | e
    · exact .inl (e ▸ hk)
    · refine .inr ⟨by have e2 : some w.heap.size = some k := e.symm.trans hk; injection e2 with e2; omega, ?_⟩
      exact f5.lt (.inr hk)
  · rcases hk with rfl | hk
    · exact h.sg
    · exact fs k hk
end Jg
end Go.Proofs.YtdaknlmnelfedaaGreatDoor
