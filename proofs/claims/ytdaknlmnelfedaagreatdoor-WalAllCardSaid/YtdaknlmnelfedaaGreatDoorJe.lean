/- drop and made: the map turns. -/
import Derived.Test.YtdaknlmnelfedaaGreatDoorJc
namespace Go.Proofs.YtdaknlmnelfedaaGreatDoor
open Go.RowKit Go.Maps Go.ChangeMaps Go.MapKept
namespace Je
open Jb Jm Jd Jw Jx Jn

theorem mt_block {w w' : World} {m k : Nat} (h : w.mapTurned w' m) (hk : k ≠ m) : w'.heap[k]? = w.heap[k]? := by
  obtain ⟨es, clock, es', clock', hb, rfl⟩ := h
  exact heap_setBlock_other hb _ hk
theorem mt_size {w w' : World} {m : Nat} (h : w.mapTurned w' m) : w'.heap.size = w.heap.size := by
  obtain ⟨es, clock, es', clock', hb, rfl⟩ := h
  simp [setBlock]
theorem drop_none (w : World) (S : Nat → Prop) (g N : Nat) (d : St) (h : Dk w S g N d) (s : ByteArray) (hs : s.size ≤ 140737488355328) (hF : d.F s = none) :
    Calls Tryz.prog 65 #[.pointer (some ⟨g, 0, none⟩), .string s] w fun e w' => e = .returned (.tuple #[]) ∧ w' = w := by
  have c0 := h.cs.c0
  have hl := h.look (s := s) (by unfold maxLen; omega)
  rw [hF] at hl
  simp only [pt, Option.map_none] at hl
  clear h hs
  go_enter Tryz.func65, Tryz.ntmps65
  go_wp2_with fail
  refine bodyPost_end (v := .tuple #[]) (by simp [results, Tryz.results65, go_sem]) rfl ⟨rfl, rfl⟩
set_option maxRecDepth 100000 in
theorem drop_some (w : World) (S : Nat → Prop) (g N : Nat) (d : St) (h : Dk w S g N d) (s : ByteArray) (hs : s.size ≤ 140737488355328) (f : Fi) (hF : d.F s = some f) (hu : f.bs.length ≤ d.used) :
    Calls Tryz.prog 65 #[.pointer (some ⟨g, 0, none⟩), .string s] w fun e w' => e = .returned (.tuple #[]) ∧ Dk w' (New S w w') g N { d with F := fun x => if x = s then none else d.F x, used := d.used - f.bs.length } ∧ Chg w w' S := by
  have hml : s.size ≤ maxLen := by unfold maxLen; omega
  have c0 := h.cs.c0
  have hl := h.look hml
  rw [hF] at hl
  simp only [pt, Option.map_some] at hl
  obtain ⟨fm, fg, fs⟩ := h.fm s f hF
  have c1 := h.cs.c1
  have z1 := h.cs.z 1
  have f0 := fm.c0
  have bu := h.cs.bu
  have hne : f.blk ≠ g := fun e => fg (.inl e.symm)
  rcases h.fv with ⟨a, b⟩ | ⟨m, hfv, hSm, hmg, hi⟩
  · rw [b s] at hF; cases hF
  rw [hfv] at c0 hl
  obtain ⟨b, hbk⟩ : ∃ b, b = f.blk := ⟨_, rfl⟩
  obtain ⟨L, hL⟩ : ∃ L, L = f.bs.length := ⟨_, rfl⟩
  obtain ⟨U, hU⟩ : ∃ U, U = d.used := ⟨_, rfl⟩
  rw [← hbk] at hl f0 hne
  rw [← hL] at hu
  rw [← hU] at c1 hu bu
  obtain ⟨A, C, hV⟩ := own_forms fm.own
  rw [hV, ← hL] at f0
  have q2 : IntKind.i64.wrap ((U : Int) - (L : Nat)) = ((U - L : Nat) : Int) := by rw [IntKind.wrap_i64]; omega
  rw [← hL, ← hU]
  obtain ⟨W, hW⟩ : ∃ W, W = (w.setCell ⟨g, 1, none⟩ (.int .i64 (U - L : Nat))).drew := ⟨_, rfl⟩
  have hWm : W.heap[m]? = w.heap[m]? := by rw [hW]; exact heap_setCell_ne hmg
  obtain ⟨w', hdel, hi', ht⟩ := (hi.of_block hWm).del hml
  have hb : ∀ k, k ≠ g → k ≠ m → w'.heap[k]? = w.heap[k]? := fun k hk hm => (mt_block ht hm).trans (by rw [hW]; exact heap_setCell_ne hk)
  have hsz : w'.heap.size = w.heap.size := by rw [mt_size ht, hW]; simp
  have C1 : Cs W g { d with used := U - L } := by rw [hW]; exact (h.cs.set1 _ (by omega)).drew
  have C2 : Cs w' g { d with used := U - L } := C1.of_block (mt_block ht hmg.symm)
  have CH : Chg w w' S := by
    have h1 : Chg w W S := by rw [hW]; exact ((Chg.refl w S).setCell h.sg _).drew
    exact h1.turned hSm ht
  have DK : Dk w' (New S w w') g N { d with F := fun x => if x = s then none else d.F x, used := U - L } := by
    refine h.map (m := m) (by omega) ⟨C2.c0, C2.c1, C2.c2, C2.c3, C2.c4, C2.c5, C2.z, C2.bu, C2.br, C2.bf⟩ hfv (.inl hfv) (hi'.ext fun x => ?_) (fun k hk hg hm => hb k hg (fun e => hm (by rw [hfv, e]))) (fun x y hy => ?_) (fun x x' y y' hn hy hy' => ?_)
    · dsimp only; split <;> rfl
    · dsimp only at hy
      split at hy
      · cases hy
      · exact .inl ⟨x, hy⟩
    · dsimp only at hy hy'
      split at hy
      · cases hy
      · split at hy'
        · cases hy'
        · exact .inl ⟨x, x', hn, hy, hy'⟩
  have HDK := Lib.hid DK
  have HCH := Lib.hid CH
  clear DK CH C1 C2 hb hsz hi' ht hi hSm hfv h hF fs fg fm hbk hL hU hV bu hu hWm hml hs
  go_enter Tryz.func65, Tryz.ntmps65
  go_upto_region 2 with (fail)
  go_region
  rw [← hW]
  have c0' : W.cell? ⟨g, 0, none⟩ = some (.map (some m)) := by rw [hW]; exact (cell_other (by simp)).trans c0
  clear hW c0
  go_wp2_with (at_delete; refine wpList_del rfl _ _ rfl _ _ rfl rfl hdel ?_)
  refine bodyPost_end (v := .tuple #[]) (by simp [results, Tryz.results65, go_sem]) rfl ⟨rfl, HDK.out, HCH.out⟩
end Je
end Go.Proofs.YtdaknlmnelfedaaGreatDoor
