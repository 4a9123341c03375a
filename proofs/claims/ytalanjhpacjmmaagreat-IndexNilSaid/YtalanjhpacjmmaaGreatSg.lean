/- The program's Text. -/
import Derived.Test.YtalanjhpacjmmaaGreatSf
namespace Go.Proofs.YtalanjhpacjmmaaGreat
set_option maxRecDepth 100000
open Go.RowKit
namespace Sg
open Jb Sa Sb Sc Sd Se Sf

/-- What Text answers. -/
def tstr (s : Sr) : ByteArray := if fm s then ba (txt s) else ⟨#[]⟩
def terr (s : Sr) : Int := if fm s then 0 else 1
theorem fm_parts {s : Sr} (h : fm s = true) : s.1.size ≤ 64 ∧ s.2.length ≤ 8 ∧ ∀ i, i < s.2.length → (s.2.getD i t0).1.size ≤ 64 ∧ (s.2.getD i t0).2.size ≤ 64 := by
  unfold fm at h
  simp only [Bool.and_eq_true, decide_eq_true_eq] at h
  obtain ⟨⟨h1, h2⟩, h3⟩ := h
  refine ⟨isNm_size h1, h2, fun i hi => ?_⟩
  have := h3 i hi
  unfold tagOk at this
  simp only [Bool.and_eq_true] at this
  exact ⟨isNm_size this.1.1, isNm_size this.1.2⟩
theorem pre_len (s : Sr) (h : fm s = true) (k : Nat) : (esc (bl s.1) ++ tagst (s.2.take k)).length ≤ 2192 := by
  obtain ⟨h1, h2, h3⟩ := fm_parts h
  have := txt_len (s.1, s.2.take k) h1 (by rw [List.length_take]; have := Nat.min_le_right k s.2.length; omega) (fun x hx => by
    have hx' := List.mem_of_mem_take hx
    obtain ⟨i, hi, rfl⟩ := List.getElem_of_mem hx'
    have := h3 i hi
    rw [List.getD_eq_getElem?_getD, List.getElem?_eq_getElem hi] at this
    exact this)
  exact this
/-- The tag's copy. -/
def Cp (w : World) (y : Nat) (ka va : ByteArray) : Prop := w.heap[y]? = some (.cells #[.string ka, .string va] 36 (0, 0))
theorem Cp.c0 {w : World} {y : Nat} {ka va : ByteArray} (h : Cp w y ka va) : w.cell? ⟨y, 0, none⟩ = some (.string ka) := by rw [Lib.cell_of_heap h]; rfl
theorem Cp.c1 {w : World} {y : Nat} {ka va : ByteArray} (h : Cp w y ka va) : w.cell? ⟨y, 1, none⟩ = some (.string va) := by rw [Lib.cell_of_heap h]; rfl
theorem Cp.kept {w w' : World} {y b : Nat} {ka va : ByteArray} (h : Cp w y ka va) (hb : y ≠ b) (k : Lib.OthersKept 5 (some b) w w') : Cp w' y ka va :=
  k y _ h (fun e => hb (Option.some.inj e)) (fun c fz e => by simp at e)
theorem bd_lt {w : World} {B b : Nat} {l : List UInt8} (h : Bd w B b l) : b < w.heap.size := h.elim (fun h => h.lt) (fun h => h.lt)
theorem bd_alloc {w : World} {B b : Nat} {l : List UInt8} (h : Bd w B b l) (o : Obj) : Bd (w.alloc o) B b l := Lib.IsBuilderF.alloc h o
theorem cp_new (w : World) (ka va : ByteArray) : Cp (w.alloc (.cells #[.string ka, .string va] 36)) w.heap.size ka va := heap_alloc_new _ _
set_option maxRecDepth 100000 in
theorem text10 (w : World) (nm : ByteArray) (v : Value) (L : List Tg) (h : Ti w v L) (hn : nm.size ≤ 140737488355328) (hz : ∀ x ∈ L, x.1.size ≤ 140737488355328 ∧ x.2.size ≤ 140737488355328) (hl : L.length ≤ 140737488355328) :
    Calls Tryz.prog 36 #[.agg #[.string nm, v]] w fun e w' => e = .returned (.tuple #[.string (tstr (nm, L)), .int .i64 (terr (nm, L))]) ∧ Below w.heap.size w w' := by
  obtain ⟨a, c, rfl, hg⟩ := h.get
  obtain ⟨n, hN⟩ : ∃ n, n = L.length := ⟨_, rfl⟩
  obtain ⟨A, hA⟩ : ∃ A, A = tstr (nm, L) := ⟨_, rfl⟩
  obtain ⟨E, hE⟩ : ∃ E, E = terr (nm, L) := ⟨_, rfl⟩
  have HA := Lib.hid hA
  have HE := Lib.hid hE
  have HG := Lib.hid hg
  have HN := Lib.hid hN
  rw [← hA, ← hE]
  obtain ⟨W, hW⟩ : ∃ W, W = w.alloc (.cells #[.string nm, .slice a L.length c] 30) := ⟨_, rfl⟩
  have bW := (show Below w.heap.size w W by rw [hW]; exact (Below.refl _ w).alloc (Nat.le_refl _) _)
  have FM := Lib.hid (formed11 W nm _ L (h.below bW) hn hz hl)
  rw [← hN] at HG hl hW FM ⊢
  have c0 : W.cell? ⟨w.heap.size, 0, none⟩ = some (.string nm) := by rw [hW]; exact new_cell _ _ _ 0 _ rfl
  have c1 : W.cell? ⟨w.heap.size, 1, none⟩ = some (.slice a n c) := by rw [hW]; exact new_cell _ _ _ 1 _ rfl
  have sW : W.heap.size = w.heap.size + 1 := by rw [hW]; simp
  obtain ⟨x, hx⟩ : ∃ x, x = w.heap.size := ⟨_, rfl⟩
  have HX := Lib.hid hx
  have SW := Lib.hid sW
  have HBW := Lib.hid bW
  have hn9 := Nat.lt_of_le_of_lt hl (by decide : 140737488355328 < 9223372036854775807)
  clear h hg hN hA hE hz hn sW bW
  rw [← hx] at c0 c1
  by_cases q1 : fm (nm, L) = true
  case neg =>
    have q1' : fm (nm, L) = false := by simpa using q1
    have e : A = ⟨#[]⟩ := by rw [HA.out, tstr, q1']; rfl
    have e2 : E = 1 := by rw [HE.out, terr, q1']; rfl
    subst e e2
    rw [q1'] at FM
    clear q1 q1' HA HE
    go_enter Tryz.func36, Tryz.ntmps36
    go_upto_region 1 with (fail)
    rw [← hW, ← hx]
    clear hW hx
    go_wp2_with (go_at_call 65; refine FM.out.mono ?_; clear FM; rintro e w1 ⟨rfl, b1⟩; have B1 := Lib.hid b1; clear b1)
    go_ret2
    exact ⟨rfl, HBW.out.trans (B1.out.mono (by rw [SW.out]; omega))⟩
  have e : A = ba (txt (nm, L)) := by rw [HA.out, tstr, q1]; rfl
  have e2 : E = 0 := by rw [HE.out, terr, q1]; rfl
  have PL := Lib.hid (fun k => pre_len (nm, L) q1 k)
  have FP := Lib.hid (fm_parts q1)
  rw [q1] at FM
  have HA2 := Lib.hid e
  subst e2
  clear q1 HA HE e
  go_enter Tryz.func36, Tryz.ntmps36
  go_upto_region 1 with (fail)
  rw [← hW, ← hx]
  clear hW hx
  go_upto_region 3 with (go_at_call 65; refine FM.out.mono ?_; clear FM; rintro e w1 ⟨rfl, b1⟩; have B1 := Lib.hid b1; clear b1)
  obtain ⟨b, hb⟩ : ∃ b, b = w1.heap.size := ⟨_, rfl⟩
  obtain ⟨w2, hw2⟩ : ∃ w2, w2 = w1.alloc (.cells #[.pointer none, .slice none 0 0] 110) := ⟨_, rfl⟩
  have b2 : Below w1.heap.size w1 w2 := by rw [hw2]; exact (Below.refl _ w1).alloc (Nat.le_refl _) _
  have b02 := B1.out.trans (b2.mono B1.out.size)
  have z0 : w2.cell? ⟨x, 0, none⟩ = some (.string nm) := (b02.cell (p := ⟨x, 0, none⟩) (by rw [SW.out, ← HX.out]; exact Nat.lt_succ_self _)).trans c0
  have z1 : w2.cell? ⟨x, 1, none⟩ = some (.slice a n c) := (b02.cell (p := ⟨x, 1, none⟩) (by rw [SW.out, ← HX.out]; exact Nat.lt_succ_self _)).trans c1
  have D0 := (show Bd w2 b b [] by rw [hw2, hb]; exact bd_new w1)
  have hbs : b ≤ w2.heap.size := by rw [hb]; exact b2.size
  have WN := Lib.hid (writeName20 w2 b b [] nm D0 (by have := FP.out.1; simp only [List.length_nil]; omega) hbs)
  have BW2 := Lib.hid (HBW.out.trans (b02.mono (by rw [SW.out]; omega)))
  have B02 := Lib.hid b02
  have HBS := Lib.hid hbs
  have HWB := Lib.hid (show W.heap.size ≤ b by rw [hb]; exact B1.out.size)
  have C0 := Lib.hid c0
  have C1 := Lib.hid c1
  clear c0 c1 b2 b02 D0 hbs
  go_upto_region 4 with (fail)
  rw [← hw2, ← hb]
  clear hw2 hb
  go_upto_region 6 with (go_at_call 66; refine WN.out.mono ?_; clear WN; rintro e w3 ⟨rfl, d, b3, k3⟩; have D3 := Lib.hid d; have B3 := Lib.hid b3; clear d b3 k3; have z3 : w3.cell? ⟨x, 1, none⟩ = some (.slice a n c) := (B3.out.cell (p := ⟨x, 1, none⟩) (by have h1 := HWB.out; rw [SW.out] at h1; rw [HX.out]; exact h1)).trans z1)
  have B03 := Lib.hid (BW2.out.trans (B3.out.mono (by have h1 := HWB.out; rw [SW.out] at h1; exact Nat.le_trans (Nat.le_succ _) h1)))
  clear z0 z1 z3
  go_loopw [6, 16] (fun _ i wr => ∃ k : Nat, k ≤ n ∧ i = .int .i64 (k : Nat) ∧ Hid (Bd wr b b (esc (bl nm) ++ tagst (L.take k))) ∧ Hid (Below b w3 wr)) (fun _ i _ => n - (intOf i).toNat)
  case atStart => exact ⟨0, Nat.zero_le _, rfl, Lib.hid (by have := D3.out; simpa [tagst] using this), Lib.hid (Below.refl _ _)⟩
  case round =>
    obtain ⟨k, hk, rfl, HD, BW⟩ := hrel
    have LE := Lib.hid (show w.heap.size ≤ b by have h1 := HWB.out; rw [SW.out] at h1; exact Nat.le_trans (Nat.le_succ _) h1)
    have B0r := Lib.hid (B03.out.trans (BW.out.mono LE.out))
    have HBr := Lib.hid (Nat.le_of_lt (bd_lt HD.out))
    by_cases hkn : k < n
    case neg =>
      obtain rfl : k = n := by omega
      have DE := Lib.hid (show Bd wr b b (txt (nm, L)) by
        have := HD.out
        rwa [List.take_of_length_le (by rw [← HN.out]; exact Nat.le_refl _)] at this)
      have ST := Lib.hid (bd_string DE.out HBr.out)
      clear hkn
      go_wp2_with (go_at_call 68; refine ST.out.mono ?_; clear ST; rintro e w4 ⟨rfl, _, b4⟩; have B4 := Lib.hid b4; clear b4)
      go_ret2
      exact ⟨HA2.out ▸ rfl, B0r.out.trans (B4.out.mono LE.out)⟩
    obtain ⟨q, off, rfl, hnc, hq, hT⟩ := HG.out k hkn
    obtain ⟨x0, x1⟩ := hT wr B0r.out
    obtain ⟨⟨ka, va⟩, hkv⟩ : ∃ y, y = L.getD k t0 := ⟨_, rfl⟩
    rw [← hkv] at x0 x1
    have hk2 : k < L.length := by rw [← HN.out]; exact hkn
    have SZ := Lib.hid (show ka.size ≤ 64 ∧ va.size ≤ 64 by have := FP.out.2.2 k hk2; rw [← hkv] at this; exact this)
    have TK := Lib.hid (show tagst (L.take (k + 1)) = tagst (L.take k) ++ (44 :: (esc (bl ka) ++ 61 :: esc (bl va))) by
      rw [take_snoc L hk2, tagst_snoc, ← hkv]; rfl)
    have PK := Lib.hid (PL.out k)
    have hk0 : (0 : Int) ≤ (k : Int) := by omega
    clear hkv hT hk2
    go_upto_region 8 with (fail)
    obtain ⟨wa, hwa⟩ : ∃ wa, wa = wr.alloc (.cells #[.string ka, .string va] 36) := ⟨_, rfl⟩
    obtain ⟨y, hy⟩ : ∃ y, y = wr.heap.size := ⟨_, rfl⟩
    have CP := Lib.hid (show Cp wa y ka va by rw [hwa, hy]; exact cp_new _ _ _)
    have DA := Lib.hid (show Bd wa b b (esc (bl nm) ++ tagst (L.take k)) by rw [hwa]; exact bd_alloc HD.out _)
    have YB := Lib.hid (show y ≠ b by have := bd_lt HD.out; omega)
    have BA := Lib.hid (show Below b w3 wa by rw [hwa]; exact BW.out.alloc HBr.out _)
    have HBa := Lib.hid (Nat.le_of_lt (bd_lt DA.out))
    rw [← hwa, ← hy]
    clear hwa hy x0 x1
    have W1 := Lib.hid (bd_write DA.out 44 (by have := PK.out; omega) HBa.out)
    go_upto_region 9 with (go_at_call 67; refine W1.out.mono ?_; rintro e v1 ⟨rfl, d1, b1, k1⟩; have D1 := Lib.hid d1; have B1a := Lib.hid b1; have P1 := Lib.hid (CP.out.kept YB.out k1); clear d1 b1 k1)
    clear W1
    have y0 := P1.out.c0
    have S1 := Lib.hid (Nat.le_trans HBa.out B1a.out.size)
    have W2 := Lib.hid (writeName20 v1 b b _ ka D1.out (by have := PK.out; have := SZ.out.1; rw [List.length_append, List.length_cons, List.length_nil]; omega) S1.out)
    go_upto_region 10 with (go_at_call 66; refine W2.out.mono ?_; rintro e v2 ⟨rfl, d2, b2, k2⟩; have D2 := Lib.hid d2; have B2a := Lib.hid b2; have P2 := Lib.hid (P1.out.kept YB.out k2); clear d2 b2 k2)
    clear W2 y0
    have S2 := Lib.hid (Nat.le_trans S1.out B2a.out.size)
    have W3 := Lib.hid (bd_write D2.out 61 (by have := PK.out; have := SZ.out.1; have := (esc_len (bl ka)).2; rw [bl_len] at this; simp only [List.length_append, List.length_cons, List.length_nil] at *; omega) S2.out)
    go_upto_region 11 with (go_at_call 67; refine W3.out.mono ?_; rintro e v3 ⟨rfl, d3, b3, k3⟩; have D4 := Lib.hid d3; have B3a := Lib.hid b3; have P3 := Lib.hid (P2.out.kept YB.out k3); clear d3 b3 k3)
    clear W3
    have y1 := P3.out.c1
    have S3 := Lib.hid (Nat.le_trans S2.out B3a.out.size)
    have W4 := Lib.hid (writeName20 v3 b b _ va D4.out (by have := PK.out; have := SZ.out; have := (esc_len (bl ka)).2; rw [bl_len] at this; simp only [List.length_append, List.length_cons, List.length_nil] at *; omega) S3.out)
    go_wp2_with (go_at_call 66; refine W4.out.mono ?_; clear W4; rintro e v4 ⟨rfl, d4, b4, _⟩; have D5 := Lib.hid d4; have B4a := Lib.hid b4; clear d4 b4)
    go_roundw
    case rel =>
      refine ⟨k + 1, by omega, by go_num, Lib.hid ?_, Lib.hid ((((BA.out.trans B1a.out).trans B2a.out).trans B3a.out).trans B4a.out)⟩
      rw [TK.out]
      have := D5.out
      simpa only [List.append_assoc, List.cons_append, List.nil_append] using this
    case measure => simp [intOf]; omega
end Sg
end Go.Proofs.YtalanjhpacjmmaaGreat
