/- The law CacheNil, where the point is taken. -/
import Derived.Test.YtloiclmngmnbdaaSi
namespace Go.Proofs.Ytloiclmngmnbdaa
open Go.RowKit Go.Maps Go.ChangeMaps Go.MapKept
namespace Sj
open Jb Ca Ck Ct Cd Cz Ls Lb Lc Ld Li Lj Lk Lm Ln Lo Lp Cq Cr Da Db Dc Ce Cs De Df Dg Dh Tb Sk Sl Sc Sd Se Sf Ra Rb Rc Rd Sg Si

set_option maxRecDepth 100000
set_option maxHeartbeats 2000000 in
theorem nil6_ok (w : World) (p : Pnt) (hp : Wp p) (a b : Int) (hE : putE (V0 9) (sS, sF) p = 0) : Calls Try.prog 6 #[pa p, .int .i64 a, .int .i64 b] w fun e w' => e = .returned (.bool true) ∧ Below w.heap.size w w' := by
  have AW := Lib.hid (fun w => awake8 w)
  have CN := Lib.hid (fun w => clear20_nil w)
  have NW := Lib.hid (fun w => newD w 9 (by omega))
  have PU := Lib.hid (show ∀ w1 S g, DV w1 S g 0 (V0 9) → Calls Try.prog 19 #[.pointer (some ⟨g, 0, none⟩), .string sS, .string sF, pa p] w1 fun e w' => e = .returned (.int .i64 0) ∧ DV w' (New S w1 w') g 1 (V1 p) ∧ Chg w1 w' S from fun w1 S g h => by
    have := putD w1 S g 0 (V0 9) h (sS, sF) (ok_s sS sF (by decide) (by decide)) p hp (by simp [V0]) (by omega)
    rw [put_V1 p hE, hE] at this
    exact this)
  have CD := Lib.hid (fun w4 S g h y b => colOne w4 S g p h y b)
  have GD := Lib.hid (fun w4 S g h y b => getOne w4 S g p h y b)
  have EQ := eql32
  have qE := fun y : World => EQ y p
  clear hE hp EQ
  obtain ⟨t, kd, u, x⟩ := p
  unfold pa at PU ⊢
  simp only at PU GD CD qE ⊢
  obtain ⟨w0, hw0⟩ : ∃ w0, w0 = w.alloc (.cells #[.int .i64 t, .int .i64 kd, .int .u64 (u : Nat), .string (str x)] 32) := ⟨_, rfl⟩
  have sz0 : w0.heap.size = w.heap.size + 1 := by rw [hw0]; simp
  have BL0 := Lib.hid (show Below w.heap.size w w0 from by rw [hw0]; exact (Below.refl _ w).alloc (Nat.le_refl _) _)
  have BX := Lib.hid (show ∀ y, Below (w.heap.size + 1) w0 y → y.cell? ⟨w.heap.size, 0, none⟩ = some (.int .i64 t) ∧ y.cell? ⟨w.heap.size, 1, none⟩ = some (.int .i64 kd) ∧ y.cell? ⟨w.heap.size, 2, none⟩ = some (.int .u64 (u : Nat)) ∧ y.cell? ⟨w.heap.size, 3, none⟩ = some (.string (str x)) from fun y hy => by
    have hb : y.heap[w.heap.size]? = some (.cells #[.int .i64 t, .int .i64 kd, .int .u64 (u : Nat), .string (str x)] 32) := by
      rw [hy.block w.heap.size (by omega), hw0]; exact heap_alloc_new w _
    exact ⟨cell_at hb 0, cell_at hb 1, cell_at hb 2, cell_at hb 3⟩)
  have PN := Lib.hid (show ∀ wz y : World, Below wz.heap.size wz y → Calls Try.prog 19 #[.pointer none, .string sS, .string sF, .agg #[.int .i64 t, .int .i64 kd, .int .u64 (u : Nat), .string (str x)]] y fun e w' => e = .returned (.int .i64 1) ∧ Below wz.heap.size wz w' from fun wz y hy => by
    refine (put19_nil y (sS, sF) (t, kd, u, x)).mono ?_
    rintro e w' ⟨rfl, bl⟩
    exact ⟨rfl, hy.trans (bl.mono (by have := hy.size; omega))⟩)
  have GN := Lib.hid (show ∀ wz y : World, Below wz.heap.size wz y → Calls Try.prog 15 #[.pointer none, .string sS, .string sF, .int .i64 a, .int .i64 b] y fun e w' => e = .returned (.slice none 0 0) ∧ Below wz.heap.size wz w' from fun wz y hy => by
    refine (getN y (sS, sF) a b).mono ?_
    rintro e w' ⟨rfl, bl⟩
    exact ⟨rfl, hy.trans (bl.mono (by have := hy.size; omega))⟩)
  have DN := Lib.hid (show ∀ wz y : World, Below wz.heap.size wz y → Calls Try.prog 21 #[.pointer none, .string sS, .string sF, .int .i64 a, .int .i64 b] y fun e w' => e = .returned (.int .i64 0) ∧ Below wz.heap.size wz w' from fun wz y hy => by
    refine (delete21_nil y (sS, sF) a b).mono ?_
    rintro e w' ⟨rfl, bl⟩
    exact ⟨rfl, hy.trans (bl.mono (by have := hy.size; omega))⟩)
  have CO := Lib.hid (fun y => columns18_nil y)
  have SN := Lib.hid (fun y => size12_nil y)
  go_enter Try.func6, Try.ntmps6
  go_wp2_with fail
  rw [← hw0]
  have HW0 := Lib.hid hw0
  clear hw0
  refine (AW.out _).mono ?_
  rintro e w1 ⟨rfl, b1⟩
  rw [sz0] at b1
  have B1 := Lib.hid b1
  clear b1
  go_wp2_with fail
  refine (CN.out _).mono ?_
  rintro e w2 ⟨rfl, rfl⟩
  go_wp2_with fail
  refine (NW.out _).mono ?_
  rintro e w3 ⟨rfl, d3, b3⟩
  obtain ⟨g, hg⟩ : ∃ g, g = w2.heap.size := ⟨_, rfl⟩
  have z1 := B1.out.size
  have D3 := Lib.hid (show DV w3 (Up g w3) g 0 (V0 9) from by rw [hg]; exact d3)
  have B3 := Lib.hid (show Below g w2 w3 from by rw [hg]; exact b3)
  have hg1 : w.heap.size + 1 ≤ g := by omega
  rw [← hg]
  obtain ⟨k0, k1, k2, k3⟩ := BX.out w3 (B1.out.trans (b3.mono (by omega)))
  have P3 := Lib.hid (PU.out w3 _ g D3.out)
  have BB3 := Lib.hid (B1.out.trans (b3.mono (show w.heap.size + 1 ≤ w2.heap.size by omega)))
  clear d3 b3 hg PU B3 z1
  go_wp2_with fail
  refine P3.out.mono ?_
  rintro e w4 ⟨rfl, d4, c4⟩
  have D4 := Lib.hid (show DV w4 (Up g w4) g 1 (V1 (t, kd, u, x)) from d4.set (up_new (by obtain ⟨_, _, h⟩ := D3.out; exact Nat.le_of_lt (h.lt g h.sg)) c4.size) (fun k hk => hk.2))
  have BB4 := Lib.hid (BB3.out.trans (up_below (B := g) c4 (by obtain ⟨_, _, h⟩ := D3.out; exact Nat.le_of_lt (h.lt g h.sg)) |>.mono hg1))
  have C4 := Lib.hid (CD.out w4 _ g D4.out w4 (Below.refl _ _))
  have z4 := BB4.out.size
  have GG := Lib.hid (fun y b => GD.out w4 _ g D4.out y b)
  have BXX := Lib.hid (show ∀ y, Below w4.heap.size w4 y → Below (w.heap.size + 1) w0 y from fun y b => BB4.out.trans (b.mono (by omega)))
  clear d4 c4 P3 k0 k1 k2 k3 CD GD
  go_wp2_with fail
  refine C4.out.mono ?_
  rintro e w5 ⟨xb, xc, xr, xrc, rfl, hxc, f2, hxrc, f0, fz, hxr, b5⟩
  have F5 := Lib.hid b5
  clear b5 C4
  go_wp2_with fail
  refine wp_loop_rounds 2 ?_
  rw [rounds_succ]
  go_wp2_with fail
  rw [rounds_succ]
  go_upto_region 13 with (fail)
  obtain ⟨w6, hw6⟩ : ∃ w6, w6 = w5.setCell ⟨xr, 0, none⟩ (.int .i64 (wrap64 (t + 1))) := ⟨_, rfl⟩
  rw [← hw6]
  have F6 := Lib.hid (show Below w4.heap.size w4 w6 from by rw [hw6]; exact F5.out.setCell hxr _)
  have G6 := Lib.hid (GG.out w6 F6.out)
  obtain ⟨k0, k1, k2, k3⟩ := BX.out w6 (BXX.out w6 F6.out)
  clear hw6 f2 f0 fz hxc hxrc F5
  go_wp2_with fail
  refine G6.out.mono ?_
  rintro e w7 ⟨yb, yc, rfl, hyc, ⟨y0, y1, y2, y3⟩, yz, hyb, b7⟩
  have F7 := Lib.hid b7
  clear b7 G6 k0 k1 k2 k3
  go_wp2_with fail
  refine wp_loop_rounds 2 ?_
  rw [rounds_succ]
  go_wp2_with fail
  rw [rounds_succ]
  go_upto_region 19 with (fail)
  obtain ⟨w8, hw8⟩ : ∃ w8, w8 = w7.setCell ⟨yb, 2, none⟩ (.int .u64 (IntKind.u64.wrap ((u : Int) + 1))) := ⟨_, rfl⟩
  rw [← hw8]
  have F8 := Lib.hid (show Below w4.heap.size w4 w8 from by rw [hw8]; exact F7.out.setCell hyb _)
  have G8 := Lib.hid (GG.out w8 F8.out)
  obtain ⟨k0, k1, k2, k3⟩ := BX.out w8 (BXX.out w8 F8.out)
  clear hw8 y0 y1 y2 y3 yz hyc F7
  go_wp2_with fail
  refine G8.out.mono ?_
  rintro e w9 ⟨zb, zc, rfl, hzc, ⟨y0, y1, y2, y3⟩, yz, hzb, b9⟩
  have F9 := Lib.hid b9
  clear G8 k0 k1 k2 k3 b9
  go_wp2_with fail
  have FX := Lib.hid (show ∀ y : World, Below w9.heap.size w9 y → y.cell? ⟨w.heap.size, 0, none⟩ = some (.int .i64 t) ∧ y.cell? ⟨w.heap.size, 1, none⟩ = some (.int .i64 kd) ∧ y.cell? ⟨w.heap.size, 2, none⟩ = some (.int .u64 (u : Nat)) ∧ y.cell? ⟨w.heap.size, 3, none⟩ = some (.string (str x)) ∧ (y.cell? ⟨zb, 0, none⟩ = some (.int .i64 t) ∧ y.cell? ⟨zb, 1, none⟩ = some (.int .i64 kd) ∧ y.cell? ⟨zb, 2, none⟩ = some (.int .u64 (u : Nat)) ∧ y.cell? ⟨zb, 3, none⟩ = some (.string (str x))) from fun y hy => by
    obtain ⟨k0, k1, k2, k3⟩ := BX.out y (BXX.out y (F9.out.trans (hy.mono F9.out.size)))
    have hb : y.heap[zb]? = w9.heap[zb]? := hy.block zb (cell_lt y0)
    exact ⟨k0, k1, k2, k3, (World.cell?_of_block hb).trans y0, (World.cell?_of_block hb).trans y1, (World.cell?_of_block hb).trans y2, (World.cell?_of_block hb).trans y3⟩)
  have kX := FX.out w9 (Below.refl _ _)
  clear y0 y1 y2 y3 yz
  go_region_held (fun z => z.cell? ⟨w.heap.size, 0, none⟩ = some (.int .i64 t) ∧ z.cell? ⟨w.heap.size, 1, none⟩ = some (.int .i64 kd) ∧ z.cell? ⟨w.heap.size, 2, none⟩ = some (.int .u64 (u : Nat)) ∧ z.cell? ⟨w.heap.size, 3, none⟩ = some (.string (str x)) ∧ (z.cell? ⟨zb, 0, none⟩ = some (.int .i64 t) ∧ z.cell? ⟨zb, 1, none⟩ = some (.int .i64 kd) ∧ z.cell? ⟨zb, 2, none⟩ = some (.int .u64 (u : Nat)) ∧ z.cell? ⟨zb, 3, none⟩ = some (.string (str x))))
    (first | exact kX | exact kA | exact kB | exact kC)
    (first | (go_at_call 19; refine (PN.out w9 _ (Below.refl _ w9).drew).mono ?_; rintro e wB ⟨rfl, b8⟩; have kA := FX.out wB b8; have BB8 := Lib.hid b8; clear b8) | (go_at_call 15; refine (GN.out w9 _ BB8.out).mono ?_; rintro e wC ⟨rfl, b9⟩; have kB := FX.out wC b9; have BB9 := Lib.hid b9; clear b9) | (go_at_call 21; refine (DN.out w9 _ BB9.out).mono ?_; rintro e wA ⟨rfl, bA⟩; have kC := FX.out wA bA; have BBA := Lib.hid bA; clear bA) | (go_at_call 18; refine (CO.out _).mono ?_; rintro e w' ⟨rfl, rfl⟩) | (go_at_call 12; refine (SN.out _).mono ?_; rintro e w' ⟨rfl, rfl⟩))
  go_wp2_with fail
  go_ret
  first
    | exact ⟨rfl, BL0.out.trans ((BXX.out _ (F9.out.trans (BBA.out.mono F9.out.size))).mono (Nat.le_succ _))⟩
    | exact ⟨rfl, BL0.out.trans ((Cz.bdn (BXX.out _ (F9.out.trans (BBA.out.mono F9.out.size))) _).mono (Nat.le_succ _))⟩
end Sj
end Go.Proofs.Ytloiclmngmnbdaa
