/- put between two points. -/
import Derived.Test.YtloiclmngmnbdaaLo
namespace Go.Proofs.Ytloiclmngmnbdaa
open Go.RowKit Go.Maps Go.ChangeMaps Go.MapKept
namespace Lp
open Jb Ca Ck Ct Cd Ls Lb Lc Ld Li Lj Lk Lm Ln Lo

set_option maxRecDepth 100000
set_option maxHeartbeats 4000000 in
theorem put35_new (w : World) (f : Co) (h : Cm w f) (p : Pnt) (hp : Wp p) (hl : f.L.length ≤ 511) (hin : cnt p.1 f.L < f.L.length) (hnh : has p.1 f.L = false) :
    Calls Try.prog 35 #[.pointer (some ⟨f.blk, 0, none⟩), pa p] w fun e w' => e = .returned (.tuple #[]) ∧ Put w f.blk (foot f) (ins p f.L) w' := by
  obtain ⟨A, hA⟩ : ∃ A : Obj, A = .cells #[.int .i64 p.1, .int .i64 p.2.1, .int .u64 (p.2.2.1 : Nat), .string (str p.2.2.2)] 32 := ⟨_, rfl⟩
  have ba := (Below.refl _ w).alloc (Nat.le_refl _) A
  have RE := reach1 (w.alloc A) f (h.below ba (Nat.le_refl _)) p.1 (by omega)
  have er : rch p.1 f.L = 0 := if_pos hin
  rw [er, World.size_alloc] at RE
  replace RE := Lib.hid RE
  obtain ⟨P, pc, s, sc, e1, e2, e3, e4, e5, e6, n1, n2, n3, k0, k1, kr, kb, kp⟩ := Cm.cells h
  have PU := Lib.hid (show ∀ w1, Below (w.heap.size + 1) (w.alloc A) w1 → Box w w1 p from fun w1 b1 => by
    rw [hA] at b1
    exact box_of b1)
  have SK := Lib.hid (show ∀ w1, Below w.heap.size w w1 → Calls Try.prog 52 #[.slice (some ⟨s, 0, none⟩) f.L.length sc, .int .i64 p.1] w1 fun e w' => e = .returned (.tuple #[.int .i64 (cnt p.1 f.L : Nat), .bool false]) ∧ Below w1.heap.size w1 w' from fun w1 b1 => by
    have := seek52 w1 s 0 sc f.L p.1 (kr.below b1 kr.1) h.rise (by omega)
    rw [hnh] at this
    exact this)
  have CL := Lib.hid (show ∀ w1, Below w.heap.size w w1 → w1.cell? ⟨f.blk, 0, none⟩ = some (.slice (some ⟨P, 0, none⟩) 1 pc) ∧ w1.cell? ⟨P, 0, none⟩ = some (.slice (some ⟨s, 0, none⟩) f.L.length sc) from fun w1 b1 => ⟨(b1.cell (p := ⟨f.blk, 0, none⟩) kb).trans k0, (b1.cell (p := ⟨P, 0, none⟩) kp).trans k1⟩)
  obtain ⟨C, hC⟩ : ∃ C, C = cnt p.1 f.L := ⟨_, rfl⟩
  rw [← hC] at SK hin
  obtain ⟨BXo, hBXo⟩ : ∃ BXo : Obj, BXo = .cells #[.int .i64 p.1, .int .i64 p.2.1, .int .u64 (p.2.2.1 : Nat), .string (str p.2.2.2)] 32 := ⟨_, rfl⟩
  have hins : ins p f.L = f.L.take C ++ p :: f.L.drop C := by rw [hC]; exact ins_new h.rise p hnh
  have hiw : ∀ x ∈ f.L.take C ++ p :: f.L.drop C, Wp x := by rw [← hins]; exact ins_wp hp h.wp
  have hir : Rise (f.L.take C ++ p :: f.L.drop C) := by rw [← hins]; exact ins_rise h.rise
  have hil : f.L.length + 1 = (f.L.take C ++ p :: f.L.drop C).length := by simp; omega
  have o2 := h.own2
  rw [e3] at o2
  have sl : s < w.heap.size := (own_lt o2 rfl).2
  have INS := Lib.hid (show ∀ w2, Box w w2 p → Calls Try.prog 55 #[.slice (some ⟨s, 0, none⟩) f.L.length sc, .int .i64 (C : Nat), .slice (some ⟨w2.heap.size, 0, none⟩) 1 1] ((w2.alloc BXo).drew) fun e w3 => ∃ q qc, e = .returned (.slice (some ⟨q, 0, none⟩) (f.L.length + 1) qc) ∧ Box w w2 p ∧
      w3.cell? ⟨f.blk, 0, none⟩ = some (.slice (some ⟨P, 0, none⟩) 1 pc) ∧ w3.cell? ⟨P, 0, none⟩ = some (.slice (some ⟨s, 0, none⟩) f.L.length sc) ∧ w3.frozen? ⟨P, 0, none⟩ = false ∧
      (w3.cell? ⟨w.heap.size, 0, none⟩ = some (.int .i64 p.1) ∧ w3.cell? ⟨w.heap.size, 1, none⟩ = some (.int .i64 p.2.1) ∧ w3.cell? ⟨w.heap.size, 2, none⟩ = some (.int .u64 (p.2.2.1 : Nat)) ∧ w3.cell? ⟨w.heap.size, 3, none⟩ = some (.string (str p.2.2.2))) ∧
      (Calls Try.prog 56 #[.pointer (some ⟨f.blk, 0, none⟩), .int .i64 0] (w3.setCell ⟨P, 0, none⟩ (.slice (some ⟨q, 0, none⟩) (f.L.length + 1) qc)) fun e w' => e = .returned (.tuple #[]) ∧ Put w f.blk (foot f) (ins p f.L) w') from fun w2 bx => by
    have ba2 : Below w.heap.size w ((w2.alloc BXo).drew) := (bx.bl.alloc bx.bl.size BXo).drew
    have o2' := own_of_block (w' := (w2.alloc BXo).drew) o2 (fun k hk => ba2.block k (by simp [Value.ownBlock] at hk; omega))
    have lt2 := bx.lt
    have hbox : (w2.alloc BXo).drew.heap[w2.heap.size]? = some (.cells #[.int .i64 p.1, .int .i64 p.2.1, .int .u64 (p.2.2.1 : Nat), .string (str p.2.2.2)] 32 (0, 0)) := by
      rw [hBXo]; exact heap_alloc_new w2 _
    refine (insert55 ((w2.alloc BXo).drew) f.L p s f.L.length sc C w2.heap.size 1 _ o2' rfl hin (by omega) (by omega) hbox rfl).mono ?_
    rintro e w3 ⟨q, qc, rfl, o, ch, hq⟩
    have ch0 := (Chg.of_below ba2 (Nat.le_refl _) (fun k => k = s)).trans ch (fun k hk _ => hk)
    have s3 := ch.size
    simp at s3
    obtain ⟨y1, y2, y3, f', y4, y5, y6, y7, y8⟩ := piece h e1 e3 ch0 hil o (hq.imp id fun e => ⟨by have := e.1; simp at this; omega, e.2⟩) (by simp) hiw hir
    have hb : ∀ i, w3.cell? ⟨w.heap.size, i, none⟩ = w2.cell? ⟨w.heap.size, i, none⟩ := fun i => World.cell?_of_block ((ch.block w.heap.size (by show w.heap.size < (w2.alloc BXo).heap.size; simp; omega) (by omega)).trans (Below.heap_alloc w2 BXo _ (by omega)))
    refine ⟨q, qc, rfl, bx, by rw [y3, e1], by rw [y1, e3], y2, ⟨(hb 0).trans bx.b0, (hb 1).trans bx.b1, (hb 2).trans bx.b2, (hb 3).trans bx.b3⟩, ?_⟩
    have sp := split56 _ f' y6 (by rw [y5, ← hil]; omega)
    rw [y4] at sp
    refine sp.mono ?_
    rintro e w' ⟨rfl, rfl⟩
    rw [hins]
    exact ⟨rfl, f', y4, y5, y6, y7, y8⟩)
  obtain ⟨LL, hLL⟩ : ∃ LL, LL = ins p f.L := ⟨_, rfl⟩
  rw [← hLL] at INS ⊢
  obtain ⟨n, hn⟩ : ∃ n, n = f.L.length := ⟨_, rfl⟩
  rw [← hn] at hin hl SK CL INS
  rw [hBXo] at INS
  rw [hA] at RE PU
  obtain ⟨x0, x1, x2, x3⟩ := p
  unfold pa
  simp only at RE PU SK INS ⊢
  clear hp h hnh ba hA er hLL k0 k1 kr e1 e3 e4 o2 hC hn hins hiw hir hil hBXo sl
  go_enter Try.func35, Try.ntmps35
  go_wp2_with fail
  refine RE.out.mono ?_
  rintro e w1 ⟨rfl, b1⟩
  have bx := PU.out w1 b1
  obtain ⟨c0, c1⟩ := CL.out w1 bx.bl
  have BX := Lib.hid bx
  obtain ⟨_, g0, g1, g2, g3, _⟩ := bx
  clear b1
  go_wp2_with fail
  have kX : (w1.drew.cell? ⟨f.blk, 0, none⟩ = some (.slice (some ⟨P, 0, none⟩) 1 pc) ∧ w1.drew.cell? ⟨P, 0, none⟩ = some (.slice (some ⟨s, 0, none⟩) n sc)) ∧ w1.drew.cell? ⟨w.heap.size, 0, none⟩ = some (.int .i64 x0) := ⟨⟨c0, c1⟩, g0⟩
  have bd : Below w.heap.size w w1.drew := BX.out.bl.drew
  have BXD := Lib.hid (BX.out.below (Below.refl w1.heap.size w1).drew)
  go_region_held (fun y => (y.cell? ⟨f.blk, 0, none⟩ = some (.slice (some ⟨P, 0, none⟩) 1 pc) ∧ y.cell? ⟨P, 0, none⟩ = some (.slice (some ⟨s, 0, none⟩) n sc)) ∧ y.cell? ⟨w.heap.size, 0, none⟩ = some (.int .i64 x0))
    (first | exact kX | exact kY)
    (first | (go_at_call 52; refine (SK.out _ bd).mono ?_; rintro e w2 ⟨rfl, b2⟩; have bx := BXD.out.below b2; have B2 := Lib.hid bx; have kY := And.intro (CL.out w2 bx.bl) bx.b0; clear b2 bx))
  obtain ⟨⟨c0, c1⟩, _⟩ := kY
  have INS2 := Lib.hid (INS.out w2 B2.out)
  obtain ⟨_, g0, g1, g2, g3, _⟩ := B2.out
  clear kX
  go_wp2_with fail
  have a0 := alloc_cell (.cells #[.int .i64 x0, .int .i64 x1, .int .u64 ((x2 : Nat) : Int), .string (str x3)] 32) c0
  have a1 := alloc_cell (.cells #[.int .i64 x0, .int .i64 x1, .int .u64 ((x2 : Nat) : Int), .string (str x3)] 32) c1
  go_region_law (first | (go_simp; go_at_call 55; refine INS2.out.mono ?_; rintro e w3 ⟨q, qc, rfl, _, j0, j1, j2, ⟨j3, j4, j5, j6⟩, fin⟩; have FN := Lib.hid fin; clear fin))
  all_goals
    go_wp2_with fail
    refine FN.out.mono ?_
    rintro e w4 ⟨rfl, h4⟩
    have H4 := Lib.hid h4
    clear h4
    go_wp2_with fail
    refine bodyPost_end (v := .tuple #[]) (by simp [results, Try.results35, go_sem]) rfl ⟨rfl, H4.out⟩
end Lp
end Go.Proofs.Ytloiclmngmnbdaa
