import Derived.Test.YtjmddomkoholoaaGreatDoorG37
import Derived.Test.YtjmddomkoholoaaGreatDoorG17
import Derived.RegionTactic

/- The program's read: what the bytes of points tell. -/
namespace Go.Proofs.YtjmddomkoholoaaGreatDoor
open Go.RowKit
namespace Kx
open Cm Wr Bm Rd Cv Kd Kp Ke

theorem num_bo {bs : List Nat} (h : ∀ b ∈ bs, b < 256) (j : Nat) : num (bo bs) (8 * j) 8 = bs.getD j 0 := by
  have h1 := num_of (bs.getD j 0) (bo bs) (8 * j) 8 (fun i hi => by
    unfold bo
    rw [show (8 * j + i) / 8 = j from by omega, show (8 * j + i) % 8 = i from by omega])
  rw [h1]
  have := getD_lt h j
  omega
theorem take5_get (b : List Nat) (i : Nat) (h : i < 5) : (b.take 5).getD i 0 = b.getD i 0 := by
  simp [List.getD_eq_getElem?_getD, h]
theorem heads5 {b : List Nat} (h : ∀ x ∈ b, x < 256) : num (bo (b.take 5)) 0 8 = hd b ∧ num (bo (b.take 5)) 8 32 = size b := by
  have h' : ∀ x ∈ b.take 5, x < 256 := fun x hx => h x (List.mem_of_mem_take hx)
  have b0 := num_bo h' 0
  have b1 := num_bo h' 1
  have b2 := num_bo h' 2
  have b3 := num_bo h' 3
  have b4 := num_bo h' 4
  rw [take5_get b _ (by decide)] at b0 b1 b2 b3 b4
  refine ⟨b0, ?_⟩
  rw [show (32 : Nat) = 8 + 8 + 8 + 8 from rfl, num_add, num_add, num_add]
  rw [show 8 * 1 = 8 from rfl] at b1
  rw [show 8 * 2 = 8 + 8 from rfl] at b2
  rw [show 8 * 3 = 8 + (8 + 8) from rfl] at b3
  rw [show 8 * 4 = 8 + (8 + 8 + 8) from rfl] at b4
  rw [b1, b2, b3, b4]
  rfl
/-- What is told of bytes that are none. -/
def none40 : Value := .tuple #[.agg #[.int .i64 0, .slice none 0 0, .slice none 0 0], .bool false]
/-- What read answers. -/
def Rdd (w : World) (b : List Nat) (e : Ending) (w' : World) : Prop :=
  ((Sound b ∧ ∃ t v, e = .returned (.tuple #[.agg #[.int .i64 (hd b : Nat), t, v], .bool true]) ∧ Rw.By w t (tpart b) ∧ Rw.By w v (vpart b) ∧ (∃ a c, t = .slice a (tpart b).length c) ∧ (∃ a c, v = .slice a (vpart b).length c)) ∨
    (¬ Sound b ∧ e = .returned none40)) ∧ Below w.heap.size w w'

theorem store3 {w x : World} {g : Nat} {a0 b0 c0 : Value} {t : TypeId} (hb : Below w.heap.size w x) (hg : w.heap.size ≤ g) (hx : x.heap[g]? = some (.cells #[a0, b0, c0] t (0, 0))) (a b c : Value) :
    (((x.setCell ⟨g, 0, none⟩ a).setCell ⟨g, 1, none⟩ b).setCell ⟨g, 2, none⟩ c).heap[g]? = some (.cells #[a, b, c] t (0, 0)) ∧ Below w.heap.size w (((x.setCell ⟨g, 0, none⟩ a).setCell ⟨g, 1, none⟩ b).setCell ⟨g, 2, none⟩ c) := by
  have h0 := Go.Joins.block_setCell (i := 0) hx a
  have h1 := Go.Joins.block_setCell (i := 1) h0 b
  have h2 := Go.Joins.block_setCell (i := 2) h1 c
  exact ⟨h2, ((hb.setCell hg _).setCell hg _).setCell hg _⟩

set_option maxRecDepth 100000 in
set_option maxHeartbeats 2000000 in
theorem read40 (w : World) (v : Value) (bs : List Nat) (hP : Pl w v bs) (hX : ∀ x ∈ bs, x < 256) (hb : bs.length ≤ 140737488353272) :
    Calls Tryz.prog 23 #[v] w fun e w' => Rdd w bs e w' := by
  by_cases h9 : bs.length < 9
  · have HN : Hid (¬ Sound bs) := Lib.hid fun h => by have := h.1; omega
    obtain ⟨a, c, hv⟩ : ∃ a c, v = .slice a bs.length c := by
      rcases hP with ⟨rfl, a, c, rfl⟩ | ⟨_, b, off, c, rfl, _⟩
      · exact ⟨a, c, rfl⟩
      · exact ⟨_, _, rfl⟩
    subst hv
    obtain ⟨n, hn⟩ : ∃ n, n = bs.length := ⟨_, rfl⟩
    rw [← hn] at h9 ⊢
    clear hP hX hb hn
    go_enter Tryz.func23, Tryz.ntmps23
    go_wp2_with fail
    refine bodyPost_ret (v := none40) (by simp [results, Tryz.results23, go_sem, none40]) rfl ⟨.inr ⟨HN.out, rfl⟩, ?_⟩
    exact (Below.refl _ _).alloc (Nat.le_refl _) _
  rcases hP with ⟨rfl, _⟩ | ⟨_, b, off, c, rfl, hc, hcell⟩
  · simp at h9
  have hbw : b < w.heap.size := cell_lt (hcell 0 (by omega))
  have hX4 : ∀ x ∈ bdy bs, x < 256 := fun x hx => hX x (List.mem_of_mem_take hx)
  have hl4 : (bdy bs).length = bs.length - 4 := by unfold bdy; simp
  have ht4 : (tl4 bs).length = 4 := by unfold tl4; simp; omega
  have hX5 : ∀ x ∈ bs.take 5, x < 256 := fun x hx => hX x (List.mem_of_mem_take hx)
  have hl5 : (bs.take 5).length = 5 := by simp; omega
  have PB : Pl w (.slice (some ⟨b, off, none⟩) (bs.length - 4) c) (bdy bs) := .inr ⟨by omega, b, off, c, by rw [hl4], by omega, fun i hi => by
    rw [hcell i (by omega)]
    unfold bdy
    simp [List.getD_eq_getElem?_getD, show i < bs.length - 4 by omega, show i < bs.length by omega]⟩
  have PT := (Rw.by_drop (w := w) (k := bs.length - 4) rfl hc (by omega) hcell)
  have P5 : Rw.By w (.slice (some ⟨b, off, none⟩) 5 c) (bs.take 5) := Rw.by_cells hl5.symm (by omega) (fun i hi => by
    rw [hcell i (by omega), take5_get bs i (by omega)])
  have hs32 := num4_lt hX 1
  have FL := Lib.hid (fun (x : World) (hx : Below w.heap.size w x) => Kh.laidSum39 x _ (bdy bs) (PB.below hx) hX4 (by omega))
  have HPT := Lib.hid (fun (x : World) (hx : Below w.heap.size w x) => (show (convert 22 9 (.slice (some ⟨b, off + (bs.length - 4), none⟩) (bs.length - (bs.length - 4)) (c - (bs.length - 4)))).run Tryz.prog x = .ok (.string (str (tl4 bs))) x from conv_pl (PT.2.below hx)))
  have hstr := fun h => Cv.str_inj (cs := four (Kc.sum (bdy bs))) (bs := tl4 bs) (four_lt _) (fun x hx => hX x (List.mem_of_mem_drop hx)) h
  obtain ⟨fs, hfs⟩ : ∃ fs, fs = four (Kc.sum (bdy bs)) := ⟨_, rfl⟩
  have hfl : fs.length = 4 := by rw [hfs]; rfl
  rw [← hfs] at FL hstr
  obtain ⟨S1, hS1⟩ : ∃ S1, S1 = str (tl4 bs) := ⟨_, rfl⟩
  rw [← hS1] at HPT hstr
  have HA := Lib.hid (show Below w.heap.size w (w.alloc (.cells #[.int .i64 0, .slice none 0 0, .slice none 0 0] 61)) from (Below.refl _ _).alloc (Nat.le_refl _) _)
  have HR := Lib.hid (fun (x : World) (hx : Below (w.alloc (.cells #[.int .i64 0, .slice none 0 0, .slice none 0 0] 61)).heap.size (w.alloc (.cells #[.int .i64 0, .slice none 0 0, .slice none 0 0] 61)) x) => (show x.heap[w.heap.size]? = some (.cells #[.int .i64 0, .slice none 0 0, .slice none 0 0] 61 (0, 0)) ∧ Below w.heap.size w x from
    ⟨(hx.block w.heap.size (by simp)).trans (heap_alloc_new _ _), HA.out.trans (hx.mono HA.out.size)⟩))
  by_cases hs : fs = tl4 bs
  case neg =>
    have HN : Hid (¬ Sound bs) := Lib.hid fun h => hs (by rw [hfs]; exact h.2.1)
    have hst : ((str fs).toList == S1.toList) = false := toList_ne fun e => hs (hstr e)
    have FE := Lib.hid (fun (x : World) (B : Nat) (r : Value) (hx : Below w.heap.size w x) (ho : x.ownsRow B 5 1 r 4 (u8s fs)) => equal_no x r _ (str fs) S1 (by rw [← hfl] at ho; exact conv_own ho) (HPT.out x hx) hst)
    obtain ⟨n, hn⟩ : ∃ n, n = bs.length := ⟨_, rfl⟩
    rw [← hn] at h9 hc FL FE hb ⊢
    clear hstr hcell hX hX4 hl4 ht4 hX5 hl5 PB PT P5 HPT hfs hfl hS1 hs hst hn
    have hn1 : ¬ c = n - 4 := by omega
    go_enter Tryz.func23, Tryz.ntmps23
    go_wp2_with fail
    go_quiet (fail)
    go_wp2_with fail
    refine (FL.out _ (by exact Fo.bdn HA.out _)).mono ?_
    rintro e w2 ⟨r2, rfl, o2, b2⟩
    have b2' : Below (w.alloc (.cells #[.int .i64 0, .slice none 0 0, .slice none 0 0] 61)).heap.size (w.alloc (.cells #[.int .i64 0, .slice none 0 0, .slice none 0 0] 61)) w2 := (Fo.bdn (Below.refl _ _) _).trans b2
    have R2 := Lib.hid (HR.out w2 b2')
    have F2 := Lib.hid (FE.out w2 _ _ R2.out.2 o2)
    clear o2 b2 b2'
    go_wp2_with fail
    refine F2.out.mono ?_
    rintro e w3 ⟨rfl, h3⟩
    rw [h3]
    clear h3 w3
    have c0 := Go.Joins.cell_of_block R2.out.1 0
    have c1 := Go.Joins.cell_of_block R2.out.1 1
    have c2 := Go.Joins.cell_of_block R2.out.1 2
    have z0 := Go.Joins.unfrozen_of_block R2.out.1 0
    have z1 := Go.Joins.unfrozen_of_block R2.out.1 1
    have z2 := Go.Joins.unfrozen_of_block R2.out.1 2
    go_wp2_with fail
    obtain ⟨hW, hWB⟩ := store3 R2.out.2 (Nat.le_refl _) R2.out.1 (.int .i64 0) (.slice none 0 0) (.slice none 0 0)
    obtain ⟨W, hWe⟩ : ∃ W, W = (((w2.setCell ⟨w.heap.size, 0, none⟩ (.int .i64 0)).setCell ⟨w.heap.size, 1, none⟩ (.slice none 0 0)).setCell ⟨w.heap.size, 2, none⟩ (.slice none 0 0)) := ⟨_, rfl⟩
    rw [← hWe] at hW hWB ⊢
    have C0 := Go.Joins.cell_of_block hW 0
    have C1 := Go.Joins.cell_of_block hW 1
    have C2 := Go.Joins.cell_of_block hW 2
    refine bodyPost_ret (v := none40) (by simp [results, Tryz.results23, go_sem, none40, C0, C1, C2]) rfl ⟨.inr ⟨HN.out, rfl⟩, hWB⟩
  have hl9 : 9 ≤ bs.length := by omega
  have HSZ := Lib.hid (fun (h : ¬ size bs ≤ bs.length - 9) => (show ¬ Sound bs from fun k => h k.2.2))
  have HOK := Lib.hid (fun (h : size bs ≤ bs.length - 9) => (show Sound bs from ⟨hl9, by rw [← hfs]; exact hs, h⟩))
  have FE := Lib.hid (fun (x : World) (B : Nat) (r : Value) (hx : Below w.heap.size w x) (ho : x.ownsRow B 5 1 r 4 (u8s fs)) => equal_yes x r _ S1 (by rw [← hfl] at ho; have := conv_own ho; rw [hs, ← hS1] at this; exact this) (HPT.out x hx))
  obtain ⟨hd0, hd1⟩ := heads5 hX
  have FN := Lib.hid (fun (x : World) (hx : Below w.heap.size w x) => new16 x _ (bs.take 5) (P5.below hx).1 (by omega))
  have G1 := Lib.hid (fun (x : World) (g : Nat) (s : Value) (h : Rh x g s (bs.take 5) 0 false) => (show Calls Tryz.prog 57 #[.pointer (some ⟨g, 0, none⟩), .int .i64 8] x fun e w' => e = .returned (.int .u64 (hd bs : Nat)) ∧ Rh w' g s (bs.take 5) 8 false ∧ Only x w' g from by
    have := get_ok x g s (bs.take 5) 0 8 _ h (has_bo hX5) (by decide) (by decide) (by omega) (by omega)
    rwa [hd0] at this))
  have G2 := Lib.hid (fun (x : World) (g : Nat) (s : Value) (h : Rh x g s (bs.take 5) 8 false) => (show Calls Tryz.prog 57 #[.pointer (some ⟨g, 0, none⟩), .int .i64 32] x fun e w' => e = .returned (.int .u64 (size bs : Nat)) ∧ Rh w' g s (bs.take 5) 40 false ∧ Only x w' g from by
    have := get_ok x g s (bs.take 5) 8 32 _ h (has_bo hX5) (by decide) (by decide) (by omega) (by omega)
    rwa [hd1] at this))
  have hh256 : hd bs < 256 := getD_lt hX 0
  have hs32' : size bs < 4294967296 := hs32
  have HBT := Lib.hid (fun (h : size bs ≤ bs.length - 9) => (show Rw.By w (.slice (some ⟨b, off + 5, none⟩) (size bs) (c - 5)) (tpart bs) ∧ Rw.By w (.slice (some ⟨b, off + 5 + size bs, none⟩) (bs.length - 9 - size bs) (c - 5 - size bs)) (vpart bs) ∧ (tpart bs).length = size bs ∧ (vpart bs).length = bs.length - 9 - size bs from by
    have e1 : (tpart bs).length = size bs := by unfold tpart; simp; omega
    have e2 : (vpart bs).length = bs.length - 9 - size bs := by unfold vpart; simp; omega
    refine ⟨Rw.by_cells e1.symm (by omega) fun i hi => ?_, Rw.by_cells e2.symm (by omega) fun i hi => ?_, e1, e2⟩
    · rw [Nat.add_assoc, hcell (5 + i) (by omega)]
      unfold tpart
      simp [List.getD_eq_getElem?_getD, show i < size bs by omega]
    · rw [show off + 5 + size bs + i = off + (5 + size bs + i) from by omega, hcell (5 + size bs + i) (by omega)]
      unfold vpart
      simp [List.getD_eq_getElem?_getD, show i < bs.length - 9 - size bs by omega]))
  obtain ⟨k, hk⟩ : ∃ k, k = hd bs := ⟨_, rfl⟩
  obtain ⟨sz, hsz⟩ : ∃ sz, sz = size bs := ⟨_, rfl⟩
  rw [← hk] at G1 hh256
  rw [← hsz] at G2 HSZ HOK HBT hs32'
  have HK := Lib.hid hk
  obtain ⟨n, hn⟩ : ∃ n, n = bs.length := ⟨_, rfl⟩
  rw [← hn] at h9 hl9 hc FL FE hb HSZ HOK HBT ⊢
  clear hstr hcell hX hX4 hl4 ht4 hX5 hl5 PB PT P5 HPT hfs hfl hS1 hs hn hk hsz hd0 hd1 hs32
  have hn1 : ¬ c = n - 4 := by omega
  go_enter Tryz.func23, Tryz.ntmps23
  go_wp2_with fail
  go_quiet (fail)
  go_wp2_with fail
  refine (FL.out _ (by exact Fo.bdn HA.out _)).mono ?_
  rintro e w2 ⟨r2, rfl, o2, b2⟩
  have b2' : Below (w.alloc (.cells #[.int .i64 0, .slice none 0 0, .slice none 0 0] 61)).heap.size (w.alloc (.cells #[.int .i64 0, .slice none 0 0, .slice none 0 0] 61)) w2 := (Fo.bdn (Below.refl _ _) _).trans b2
  have R2 := Lib.hid (HR.out w2 b2')
  have F2 := Lib.hid (FE.out w2 _ _ R2.out.2 o2)
  have B2 := Lib.hid b2'
  clear o2 b2 b2'
  go_wp2_with fail
  refine F2.out.mono ?_
  rintro e w3 ⟨rfl, h3⟩
  rw [h3]
  clear h3 w3
  go_wp2_with fail
  refine (FN.out w2 R2.out.2).mono ?_
  rintro e w3 ⟨g, s3, rfl, h3, hg, _, b3⟩
  have H3 := Lib.hid h3
  have B3 := Lib.hid (B2.out.trans (b3.mono B2.out.size))
  have HG := Lib.hid (Nat.le_trans B2.out.size hg)
  clear h3 b3 hg
  go_wp2_with fail
  refine (G1.out _ _ _ H3.out).mono ?_
  rintro e w4 ⟨rfl, h4, o4⟩
  have H4 := Lib.hid h4
  have B4 := Lib.hid (B3.out.trans (o4.below HG.out B3.out.size))
  clear h4 o4
  go_wp2_with fail
  refine (G2.out _ _ _ H4.out).mono ?_
  rintro e w5 ⟨rfl, h5, o5⟩
  have B5 := Lib.hid (B4.out.trans (o5.below HG.out B4.out.size))
  clear h5 o5
  have R5 := Lib.hid (HR.out w5 B5.out)
  have c0 := Go.Joins.cell_of_block R5.out.1 0
  have c1 := Go.Joins.cell_of_block R5.out.1 1
  have c2 := Go.Joins.cell_of_block R5.out.1 2
  have z0 := Go.Joins.unfrozen_of_block R5.out.1 0
  have z1 := Go.Joins.unfrozen_of_block R5.out.1 1
  have z2 := Go.Joins.unfrozen_of_block R5.out.1 2
  have hc5 : ¬ c = 5 := by omega
  have hcz : ¬ c - 5 = sz ∨ n - 9 < sz := by omega
  have hw9 : IntKind.u64.wrap ((n - 4 - 5 : Nat) : Int) = ((n - 9 : Nat) : Int) := by rw [IntKind.wrap_u64]; omega
  by_cases hgt : sz ≤ n - 9
  case neg =>
    have HN := Lib.hid (HSZ.out hgt)
    go_wp2_with fail
    obtain ⟨hW, hWB⟩ := store3 R5.out.2 (Nat.le_refl _) R5.out.1 (.int .i64 0) (.slice none 0 0) (.slice none 0 0)
    obtain ⟨W, hWe⟩ : ∃ W, W = (((w5.setCell ⟨w.heap.size, 0, none⟩ (.int .i64 0)).setCell ⟨w.heap.size, 1, none⟩ (.slice none 0 0)).setCell ⟨w.heap.size, 2, none⟩ (.slice none 0 0)) := ⟨_, rfl⟩
    rw [← hWe] at hW hWB ⊢
    have C0 := Go.Joins.cell_of_block hW 0
    have C1 := Go.Joins.cell_of_block hW 1
    have C2 := Go.Joins.cell_of_block hW 2
    refine bodyPost_ret (v := none40) (by simp [results, Tryz.results23, go_sem, none40, C0, C1, C2]) rfl ⟨.inr ⟨HN.out, rfl⟩, hWB⟩
  have HS := Lib.hid (HOK.out hgt)
  have HB := Lib.hid (HBT.out hgt)
  have hcz' : ¬ c - 5 = sz := by omega
  have hk1 : IntKind.i64.wrap (k : Int) = (k : Int) := by rw [IntKind.wrap_i64]; omega
  have hk2 : wrap64 (k : Int) = (k : Int) := by unfold wrap64; omega
  have hn9 : n - 4 - 5 = n - 9 := by omega
  go_wp2_with fail
  go_region
  go_wp2_with fail
  obtain ⟨hW, hWB⟩ := store3 R5.out.2 (Nat.le_refl _) R5.out.1 (.int .i64 (k : Nat)) (.slice (some ⟨b, off + 5, none⟩) sz (c - 5)) (.slice (some ⟨b, off + 5 + sz, none⟩) (n - 9 - sz) (c - 5 - sz))
  have hW2 := hW
  have hWD : Below w.heap.size w (((w5.setCell ⟨w.heap.size, 0, none⟩ (.int .i64 (k : Nat))).setCell ⟨w.heap.size, 1, none⟩ (.slice (some ⟨b, off + 5, none⟩) sz (c - 5))).setCell ⟨w.heap.size, 2, none⟩ (.slice (some ⟨b, off + 5 + sz, none⟩) (n - 9 - sz) (c - 5 - sz))).drew := hWB.drew
  change ((((w5.setCell ⟨w.heap.size, 0, none⟩ (.int .i64 (k : Nat))).setCell ⟨w.heap.size, 1, none⟩ (.slice (some ⟨b, off + 5, none⟩) sz (c - 5))).setCell ⟨w.heap.size, 2, none⟩ (.slice (some ⟨b, off + 5 + sz, none⟩) (n - 9 - sz) (c - 5 - sz))).drew).heap[w.heap.size]? = _ at hW2
  obtain ⟨W, hWe⟩ : ∃ W, W = (((w5.setCell ⟨w.heap.size, 0, none⟩ (.int .i64 (k : Nat))).setCell ⟨w.heap.size, 1, none⟩ (.slice (some ⟨b, off + 5, none⟩) sz (c - 5))).setCell ⟨w.heap.size, 2, none⟩ (.slice (some ⟨b, off + 5 + sz, none⟩) (n - 9 - sz) (c - 5 - sz))).drew := ⟨_, rfl⟩
  rw [← hWe] at hW2 hWD ⊢
  have C0 := Go.Joins.cell_of_block hW2 0
  have C1 := Go.Joins.cell_of_block hW2 1
  have C2 := Go.Joins.cell_of_block hW2 2
  refine bodyPost_ret (v := .tuple #[.agg #[.int .i64 (k : Nat), .slice (some ⟨b, off + 5, none⟩) sz (c - 5), .slice (some ⟨b, off + 5 + sz, none⟩) (n - 9 - sz) (c - 5 - sz)], .bool true]) (by simp [results, Tryz.results23, go_sem, C0, C1, C2]) rfl ⟨.inl ⟨HS.out, _, _, by rw [HK.out], HB.out.1, HB.out.2.1, ⟨_, _, by rw [HB.out.2.2.1]⟩, ⟨_, _, by rw [HB.out.2.2.2]⟩⟩, hWD⟩
end Kx
end Go.Proofs.YtjmddomkoholoaaGreatDoor
