/- The document's Text. -/
import Derived.Test.YtalanjhpacjmmaaGreatSh
import Derived.Deep.RegionHeld
namespace Go.Proofs.YtalanjhpacjmmaaGreat
set_option maxRecDepth 100000
open Go.RowKit
namespace Si
open Jb Sa Sb Sc Sd Se Sf Sg Sh

theorem add_run (a b : List UInt8) (h : a.length + b.length ≤ 9223372036854775807) (y : World) : (Op.stringOp .add (ba a) (ba b)).run Tryz.prog y = .ok (.string (ba (a ++ b))) y := by
  have e : ba a ++ ba b = ba (a ++ b) := by apply bl_inj; rw [bl_ba]; simp [bl, ba]
  unfold Op.stringOp
  simp only [ba_size]
  rw [if_neg (by have : IntKind.i64.max = 9223372036854775807 := by decide
                 rw [this]; omega), e]
  rfl
set_option maxRecDepth 100000 in
theorem text9 (w : World) (nm : ByteArray) (v : Value) (L : List Tg) (h : Ti w v L) (hn : nm.size ≤ 140737488355328) (hz : ∀ x ∈ L, x.1.size ≤ 140737488355328 ∧ x.2.size ≤ 140737488355328) (hl : L.length ≤ 140737488355328) :
    Calls Tryz.prog 42 #[.agg #[.string nm, v]] w fun e w' => e = .returned (.tuple #[.string (tstr (nm, L)), .int .i64 (terr (nm, L))]) ∧ Below w.heap.size w w' := by
  obtain ⟨a, c, rfl, hg⟩ := h.get
  obtain ⟨n, hN⟩ : ∃ n, n = L.length := ⟨_, rfl⟩
  obtain ⟨A, hA⟩ : ∃ A, A = tstr (nm, L) := ⟨_, rfl⟩
  obtain ⟨E, hE⟩ : ∃ E, E = terr (nm, L) := ⟨_, rfl⟩
  have HA := Lib.hid hA
  have HE := Lib.hid hE
  have HG := Lib.hid hg
  have HN := Lib.hid hN
  rw [← hA, ← hE]
  obtain ⟨W, hW⟩ : ∃ W, W = w.alloc (.cells #[.string nm, .slice a L.length c] 30) := ⟨_, rfl⟩
  have bW := (show Below w.heap.size w W by rw [hW]; exact (Below.refl _ w).alloc (Nat.le_refl _) _)
  have FM := Lib.hid (formed12 W nm _ L (h.below bW) hn hz hl)
  rw [← hN] at HG hl hW FM ⊢
  have c0 : W.cell? ⟨w.heap.size, 0, none⟩ = some (.string nm) := by rw [hW]; exact new_cell _ _ _ 0 _ rfl
  have c1 : W.cell? ⟨w.heap.size, 1, none⟩ = some (.slice a n c) := by rw [hW]; exact new_cell _ _ _ 1 _ rfl
  have sW : W.heap.size = w.heap.size + 1 := by rw [hW]; simp
  obtain ⟨x, hx⟩ : ∃ x, x = w.heap.size := ⟨_, rfl⟩
  have HX := Lib.hid hx
  have SW := Lib.hid sW
  have HBW := Lib.hid bW
  have hn9 := Nat.lt_of_le_of_lt hl (by decide : 140737488355328 < 9223372036854775807)
  clear h hg hN hA hE hz hn sW bW
  rw [← hx] at c0 c1
  by_cases q1 : fm (nm, L) = true
  case neg =>
    have q1' : fm (nm, L) = false := by simpa using q1
    have e : A = ⟨#[]⟩ := by rw [HA.out, tstr, q1']; rfl
    have e2 : E = 1 := by rw [HE.out, terr, q1']; rfl
    subst e e2
    rw [q1'] at FM
    clear q1 q1' HA HE
    go_enter Tryz.func42, Tryz.ntmps42
    go_upto_region 1 with (fail)
    rw [← hW, ← hx]
    clear hW hx
    go_wp2_with (go_at_call 75; refine FM.out.mono ?_; clear FM; rintro e w1 ⟨rfl, b1⟩; have B1 := Lib.hid b1; clear b1)
    go_ret2
    exact ⟨rfl, HBW.out.trans (B1.out.mono (by rw [SW.out]; omega))⟩
  have e : A = ba (txt (nm, L)) := by rw [HA.out, tstr, q1]; rfl
  have e2 : E = 0 := by rw [HE.out, terr, q1]; rfl
  have PL := Lib.hid (fun k => pre_len (nm, L) q1 k)
  have FP := Lib.hid (fm_parts q1)
  rw [q1] at FM
  have HA2 := Lib.hid e
  subst e2
  clear q1 HA HE e
  go_enter Tryz.func42, Tryz.ntmps42
  go_upto_region 1 with (fail)
  rw [← hW, ← hx]
  clear hW hx
  go_upto_region 3 with (go_at_call 75; refine FM.out.mono ?_; clear FM; rintro e w1 ⟨rfl, b1⟩; have B1 := Lib.hid b1; clear b1)
  have z0 : w1.cell? ⟨x, 0, none⟩ = some (.string nm) := (B1.out.cell (p := ⟨x, 0, none⟩) (by rw [SW.out, ← HX.out]; exact Nat.lt_succ_self _)).trans c0
  have z1 : w1.cell? ⟨x, 1, none⟩ = some (.slice a n c) := (B1.out.cell (p := ⟨x, 1, none⟩) (by rw [SW.out, ← HX.out]; exact Nat.lt_succ_self _)).trans c1
  have C1 := Lib.hid c1
  clear c0 c1
  have WN := Lib.hid (escape14 w1 nm (by have := FP.out.1; omega))
  have XL := Lib.hid (show x < W.heap.size by rw [SW.out, ← HX.out]; exact Nat.lt_succ_self _)
  go_upto_region 5 with (go_at_call 76; refine WN.out.mono ?_; clear WN; rintro e w3 ⟨rfl, b3⟩; have B3 := Lib.hid (B1.out.trans (b3.mono B1.out.size)); clear b3; have z3 : w3.cell? ⟨x, 1, none⟩ = some (.slice a n c) := (B3.out.cell (p := ⟨x, 1, none⟩) XL.out).trans C1.out)
  clear z0 z1 z3 B1
  go_loopw [4, 5, 15] (fun s _ i wr => ∃ k : Nat, k ≤ n ∧ i = .int .i64 (k : Nat) ∧ s = .string (ba (esc (bl nm) ++ tagst (L.take k))) ∧ Hid (Below W.heap.size W wr)) (fun _ _ i _ => n - (intOf i).toNat)
  case atStart => exact ⟨0, Nat.zero_le _, rfl, by simp [tagst], B3⟩
  case round =>
    obtain ⟨k, hk, rfl, rfl, BW⟩ := hrel
    have B0r := Lib.hid (HBW.out.trans (BW.out.mono (by rw [SW.out]; omega)))
    by_cases hkn : k < n
    case neg =>
      obtain rfl : k = n := by omega
      have DE := Lib.hid (show ba (esc (bl nm) ++ tagst (L.take k)) = A by
        rw [HA2.out, List.take_of_length_le (by rw [← HN.out]; exact Nat.le_refl _)]; rfl)
      obtain ⟨S, hS⟩ : ∃ S, S = ba (esc (bl nm) ++ tagst (L.take k)) := ⟨_, rfl⟩
      rw [← hS] at DE ⊢
      obtain rfl := DE.out
      clear hkn DE hS
      go_wp2_with fail
      go_ret2
      exact ⟨rfl, B0r.out⟩
    obtain ⟨q, off, rfl, hnc, hq, hT⟩ := HG.out k hkn
    obtain ⟨⟨ka, va⟩, hkv⟩ : ∃ y, y = L.getD k t0 := ⟨_, rfl⟩
    rw [← hkv] at hT
    have hk2 : k < L.length := by rw [← HN.out]; exact hkn
    obtain ⟨za, zb⟩ := (show ka.size ≤ 64 ∧ va.size ≤ 64 by have := FP.out.2.2 k hk2; rw [← hkv] at this; exact this)
    have TK := Lib.hid (show tagst (L.take (k + 1)) = tagst (L.take k) ++ (44 :: (esc (bl ka) ++ 61 :: esc (bl va))) by
      rw [take_snoc L hk2, tagst_snoc, ← hkv]; rfl)
    have PK := Lib.hid (PL.out k)
    have hk0 : (0 : Int) ≤ (k : Int) := by omega
    have ES := Lib.hid (fun (y : World) (s : ByteArray) (hs : s.size ≤ 64) => escape14 y s (by omega))
    have HB := Lib.hid (fun (y : World) (hy : Below wr.heap.size wr.drew y) => (show y.cell? ⟨x, 1, none⟩ = some (.slice (some ⟨q, off, none⟩) n c) ∧ y.cell? ⟨q, off + k * 2, none⟩ = some (.string ka) ∧ y.cell? ⟨q, off + k * 2 + 1, none⟩ = some (.string va) from by
      have hy' : Below wr.heap.size wr y := ⟨hy.os, hy.tape, hy.output, hy.size, hy.block⟩
      have hB := BW.out.trans (hy'.mono BW.out.size)
      have h0 := HBW.out.trans (hB.mono (by rw [SW.out]; omega))
      exact ⟨(hB.cell (p := ⟨x, 1, none⟩) XL.out).trans C1.out, (hT y h0).1, (hT y h0).2⟩))
    obtain ⟨x0, x1, x2⟩ := HB.out wr.drew (Below.refl _ _)
    clear hkv hT hk2
    have LK := Lib.hid (show (esc (bl ka)).length ≤ 128 ∧ (esc (bl va)).length ≤ 128 by
      have h1 := (esc_len (bl ka)).2
      have h2 := (esc_len (bl va)).2
      rw [bl_len] at h1 h2
      omega)
    obtain ⟨S, hS⟩ : ∃ S, S = ba (esc (bl nm) ++ tagst (L.take k)) := ⟨_, rfl⟩
    obtain ⟨S1, hS1⟩ : ∃ S1, S1 = ba (esc (bl nm) ++ tagst (L.take k) ++ [44]) := ⟨_, rfl⟩
    obtain ⟨S2, hS2⟩ : ∃ S2, S2 = ba (esc (bl nm) ++ tagst (L.take k) ++ [44] ++ esc (bl ka)) := ⟨_, rfl⟩
    obtain ⟨S3, hS3⟩ : ∃ S3, S3 = ba (esc (bl nm) ++ tagst (L.take k) ++ [44] ++ esc (bl ka) ++ [61]) := ⟨_, rfl⟩
    obtain ⟨S4, hS4⟩ : ∃ S4, S4 = ba (esc (bl nm) ++ tagst (L.take k) ++ [44] ++ esc (bl ka) ++ [61] ++ esc (bl va)) := ⟨_, rfl⟩
    have a1 : ∀ y, (Op.stringOp .add S ⟨#[44]⟩).run Tryz.prog y = .ok (.string S1) y := fun y => by rw [hS, hS1]; exact add_run _ [44] (by have := PK.out; simp only [List.length_cons, List.length_nil]; omega) y
    have a2 : ∀ y, (Op.stringOp .add S1 (ba (esc (bl ka)))).run Tryz.prog y = .ok (.string S2) y := fun y => by rw [hS1, hS2]; exact add_run _ _ (by have := PK.out; have := LK.out.1; rw [List.length_append, List.length_cons, List.length_nil]; omega) y
    have a3 : ∀ y, (Op.stringOp .add S2 ⟨#[61]⟩).run Tryz.prog y = .ok (.string S3) y := fun y => by rw [hS2, hS3]; exact add_run _ [61] (by have := PK.out; have := LK.out.1; simp only [List.length_append, List.length_cons, List.length_nil] at *; omega) y
    have a4 : ∀ y, (Op.stringOp .add S3 (ba (esc (bl va)))).run Tryz.prog y = .ok (.string S4) y := fun y => by rw [hS3, hS4]; exact add_run _ _ (by have := PK.out; have := LK.out; simp only [List.length_append, List.length_cons, List.length_nil] at *; omega) y
    have E4 := Lib.hid (show S4 = ba (esc (bl nm) ++ tagst (L.take (k + 1))) by rw [hS4, TK.out]; simp)
    rw [← hS]
    clear hS hS1 hS2 hS3 hS4
    go_upto_region 7 with (fail)
    go_region_held (fun y => y.cell? ⟨x, 1, none⟩ = some (.slice (some ⟨q, off, none⟩) n c) ∧ y.cell? ⟨q, off + k * 2, none⟩ = some (.string ka) ∧ y.cell? ⟨q, off + k * 2 + 1, none⟩ = some (.string va)) (first | exact ⟨x0, x1, x2⟩ | exact ⟨y10, y11, y12⟩ | exact ⟨z10, z11, z12⟩)
      (first
      | (go_at_call 76; refine (ES.out y1 _ (by assumption)).mono ?_; rintro e y2 ⟨rfl, b2⟩; have G2 := Lib.hid (G1.out.trans (b2.mono G1.out.size)); obtain ⟨z10, z11, z12⟩ := HB.out y2 G2.out; clear b2)
      | (go_at_call 76; refine (ES.out wr.drew _ (by assumption)).mono ?_; rintro e y1 ⟨rfl, b1⟩; have G1 := Lib.hid b1; obtain ⟨y10, y11, y12⟩ := HB.out y1 b1; clear b1))
    all_goals
      go_wp2_with fail
      go_roundw
      case rel => exact ⟨k + 1, by omega, by go_num, by rw [E4.out], Lib.hid (BW.out.trans (Below.mono (show Below wr.heap.size wr _ from ⟨G2.out.os, G2.out.tape, G2.out.output, G2.out.size, G2.out.block⟩) BW.out.size))⟩
      case measure => simp [intOf]; omega
end Si
end Go.Proofs.YtalanjhpacjmmaaGreat
