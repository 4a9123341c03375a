/- The program's readTag. -/
import Derived.Test.YtedlgcbgbphlkaaSj
namespace Go.Proofs.Ytedlgcbgbphlkaa
open Go.RowKit
namespace Sk
open Jb Sa Sb Sc Sd Se Sf Sg Sh Si Sj

/-- A text without the byte that it may begin with. -/
def ct (c : UInt8) (t : List UInt8) : List UInt8 := Lib.trimPrefix t [c]
def has (c : UInt8) (t : List UInt8) : Bool := Lib.hasPrefix t [c]
theorem has_cons (c x : UInt8) (r : List UInt8) : has c (x :: r) = (c == x) := by
  simp [has, Lib.hasPrefix, List.isPrefixOf]
theorem has_nil (c : UInt8) : has c [] = false := rfl
theorem ct_len (c : UInt8) (t : List UInt8) : (ct c t).length ≤ t.length := by
  unfold ct Lib.trimPrefix
  split
  · simp
  · exact Nat.le_refl _
theorem ct_has {c : UInt8} {t : List UInt8} (h : has c t = true) : ∃ r, t = c :: r ∧ ct c t = r := by
  match t with
  | [] => cases h
  | x :: r =>
    have h' := h
    rw [has_cons] at h'
    obtain rfl : c = x := by simpa using h'
    refine ⟨r, rfl, ?_⟩
    unfold ct Lib.trimPrefix
    rw [if_pos (by exact h)]
    rfl
theorem rn_len (t : List UInt8) : (rn t).1.size ≤ t.length ∧ (rn t).2.1.size ≤ t.length := by
  match h : prt t with
  | none => rw [rn_none h]; exact ⟨Nat.zero_le _, Nat.zero_le _⟩
  | some (n, r) =>
    rw [rn_some h]
    have := part_len h
    simp only [ba_size]
    omega
/-- What a tag's reading answers. -/
def rtk (t : List UInt8) : ByteArray := (rn (ct 44 t)).1
def rt2 (t : List UInt8) : List UInt8 := ct 61 (bl (rn (ct 44 t)).2.1)
def rtv (t : List UInt8) : ByteArray := (rn (rt2 t)).1
def rtr (t : List UInt8) : ByteArray := (rn (rt2 t)).2.1
def rto (t : List UInt8) : Bool := has 44 t && (rn (ct 44 t)).2.2 && has 61 (bl (rn (ct 44 t)).2.1) && (rn (rt2 t)).2.2
theorem rn_ok {t : List UInt8} (h : (rn t).2.2 = true) : ∃ n r, prt t = some (n, r) ∧ rn t = (ba n, ba r, true) := by
  match e : prt t with
  | none => rw [rn_none e] at h; cases h
  | some (n, r) => exact ⟨n, r, rfl, rn_some e⟩
theorem rt_ok {t : List UInt8} (h : rto t = true) : tag1 t = some ((rtk t, rtv t), bl (rtr t)) := by
  unfold rto at h
  simp only [Bool.and_eq_true] at h
  obtain ⟨⟨⟨h1, h2⟩, h3⟩, h4⟩ := h
  obtain ⟨r, e1, e2⟩ := ct_has h1
  rw [e2] at h2 h3
  obtain ⟨k, r1, p1, q1⟩ := rn_ok h2
  rw [q1] at h3
  simp only [bl_ba] at h3
  obtain ⟨r2, e3, e4⟩ := ct_has h3
  have hrt : rt2 t = r2 := by unfold rt2; rw [e2, q1]; simp only [bl_ba]; exact e4
  rw [hrt] at h4
  obtain ⟨v, r3, p2, q2⟩ := rn_ok h4
  have k1 : rtk t = ba k := by unfold rtk; rw [e2, q1]
  have k2 : rtv t = ba v := by unfold rtv; rw [hrt, q2]
  have k3 : rtr t = ba r3 := by unfold rtr; rw [hrt, q2]
  rw [k1, k2, k3, bl_ba, e1, tag1, if_pos (by rfl), p1, e3]
  simp only
  rw [if_pos (by rfl), p2]
  rfl
theorem rt_no {t : List UInt8} (h : rto t = false) : tag1 t = none := by
  match t with
  | [] => rfl
  | c :: r =>
    rw [tag1]
    by_cases hc : c.toNat = 44
    · have hc' : c = 44 := UInt8.toNat_inj.1 hc
      subst hc'
      have h1 : has 44 (44 :: r) = true := by rw [has_cons]; rfl
      obtain ⟨r', e1, e2⟩ := ct_has h1
      obtain rfl : r = r' := by cases e1; rfl
      rw [if_pos (by rfl)]
      match p1 : prt r with
      | none => rfl
      | some (k, []) => rfl
      | some (k, d :: q) =>
        simp only
        have q1 := rn_some p1
        by_cases hd : d.toNat = 61
        · rw [if_pos hd]
          have hd' : d = 61 := UInt8.toNat_inj.1 hd
          subst hd'
          match p2 : prt q with
          | none => rfl
          | some (v, r3) =>
            exfalso
            have h3 : has 61 (61 :: q) = true := by rw [has_cons]; rfl
            obtain ⟨r'', e3, e4⟩ := ct_has h3
            obtain rfl : q = r'' := by cases e3; rfl
            have hrt : rt2 (44 :: r) = q := by unfold rt2; rw [e2, q1]; simp only [bl_ba]; exact e4
            have : rto (44 :: r) = true := by
              unfold rto
              rw [hrt, e2, q1, rn_some p2, h1]
              simp only [bl_ba, h3]
              rfl
            rw [this] at h
            cases h
        · rw [if_neg hd]
    · rw [if_neg hc]
theorem rt_len (t : List UInt8) : (rtk t).size ≤ t.length ∧ (rtv t).size ≤ t.length ∧ (rtr t).size ≤ t.length := by
  have h1 := ct_len 44 t
  obtain ⟨h2, h3⟩ := rn_len (ct 44 t)
  have h4 := ct_len 61 (bl (rn (ct 44 t)).2.1)
  rw [bl_len] at h4
  obtain ⟨h5, h6⟩ := rn_len (rt2 t)
  have h7 : (rt2 t).length ≤ t.length := by unfold rt2; omega
  unfold rtk rtv rtr
  omega
theorem cut35 (w : World) (s : ByteArray) (c : UInt8) : Calls Try.prog 35 #[.string s, .string ⟨#[c]⟩] w fun e w' => e = .returned (.tuple #[.string (ba (ct c (bl s))), .bool (has c (bl s))]) ∧ w' = w := by
  have h := Try.strings_CutPrefix s ⟨#[c]⟩ w
  have e1 : (ByteArray.mk #[c]).data.toList = [c] := rfl
  rw [e1] at h
  unfold ct has ba bl
  exact h
set_option maxRecDepth 100000 in
set_option maxHeartbeats 2000000 in
theorem readTag32 (w : World) (s : ByteArray) (hs : s.size ≤ 70368744177664) :
    Calls Try.prog 32 #[.string s] w fun e w' => e = .returned (.tuple #[.agg #[.string (rtk (bl s)), .string (rtv (bl s))], .string (rtr (bl s)), .bool (rto (bl s))]) ∧ Below w.heap.size w w' := by
  have C1 := Lib.hid (fun (y : World) => cut35 y s 44)
  have C3 := Lib.hid (fun (y : World) => cut35 y (rn (ct 44 (bl s))).2.1 61)
  have l1 := ct_len 44 (bl s)
  have l2 := (rn_len (ct 44 (bl s))).2
  have l3 := ct_len 61 (bl (rn (ct 44 (bl s))).2.1)
  rw [bl_len] at l1 l3
  have R2 := Lib.hid (fun (y : World) => readName31 y (ba (ct 44 (bl s))) (by rw [ba_size]; omega))
  have R4 := Lib.hid (fun (y : World) => readName31 y (ba (rt2 (bl s))) (by rw [ba_size]; unfold rt2; omega))
  have e0 : ba (ct 61 (bl (rn (ct 44 (bl s))).2.1)) = ba (rt2 (bl s)) := rfl
  rw [e0] at C3
  rw [bl_ba] at R2 R4
  have hk : rtk (bl s) = (rn (ct 44 (bl s))).1 := rfl
  have hv : rtv (bl s) = (rn (rt2 (bl s))).1 := rfl
  have hr : rtr (bl s) = (rn (rt2 (bl s))).2.1 := rfl
  have ho : rto (bl s) = (has 44 (bl s) && (rn (ct 44 (bl s))).2.2 && has 61 (bl (rn (ct 44 (bl s))).2.1) && (rn (rt2 (bl s))).2.2) := rfl
  rw [hk, hv, hr, ho]
  clear hk hv hr ho e0 l1 l2 l3
  generalize ba (ct 44 (bl s)) = T1 at *
  generalize has 44 (bl s) = I1 at *
  generalize (rn (ct 44 (bl s))).1 = K at *
  generalize has 61 (bl (rn (ct 44 (bl s))).2.1) = I3 at *
  generalize (rn (ct 44 (bl s))).2.1 = R1 at *
  generalize (rn (ct 44 (bl s))).2.2 = I2 at *
  generalize ba (rt2 (bl s)) = T2 at *
  generalize (rn (rt2 (bl s))).1 = V at *
  generalize (rn (rt2 (bl s))).2.1 = R3 at *
  generalize (rn (rt2 (bl s))).2.2 = I4 at *
  obtain ⟨y, hy⟩ : ∃ y, y = w.heap.size := ⟨_, rfl⟩
  obtain ⟨W, hW⟩ : ∃ W, W = w.alloc (.cells #[.string ⟨#[]⟩, .string ⟨#[]⟩] 37) := ⟨_, rfl⟩
  have CP := Lib.hid (show Cp W y ⟨#[]⟩ ⟨#[]⟩ by rw [hW, hy]; exact cp_new _ _ _)
  have BW := Lib.hid (show Below w.heap.size w W by rw [hW]; exact (Below.refl _ w).alloc (Nat.le_refl _) _)
  have YW := Lib.hid (show w.heap.size ≤ W.heap.size by rw [hW]; simp)
  have HY := Lib.hid (show y < W.heap.size by rw [hW, hy]; simp)
  have HYY := Lib.hid hy
  clear hs
  go_enter Try.func32, Try.ntmps32
  go_upto_region 1 with (fail)
  rw [← hW, ← hy]
  clear hW hy
  go_upto_region 2 with (go_at_call 35; refine (C1.out _).mono ?_; clear C1; rintro e W ⟨rfl, rfl⟩)
  go_upto_region 3 with (go_at_call 31; refine (R2.out _).mono ?_; clear R2; rintro e w2 ⟨rfl, b2⟩; have B2 := Lib.hid b2; clear b2)
  go_upto_region 4 with (go_at_call 35; refine (C3.out _).mono ?_; clear C3; rintro e w2 ⟨rfl, rfl⟩)
  go_upto_region 5 with (go_at_call 31; refine (R4.out _).mono ?_; clear R4; rintro e w4 ⟨rfl, b4⟩; have B4 := Lib.hid (B2.out.trans (b4.mono B2.out.size)); clear b4)
  have CE := (show w4.heap[y]? = some (.cells #[.string ⟨#[]⟩, .string ⟨#[]⟩] 37 (0, 0)) from (B4.out.block y HY.out).trans CP.out)
  have c0 : w4.cell? ⟨y, 0, none⟩ = some (.string ⟨#[]⟩) := by rw [Lib.cell_of_heap CE]; rfl
  have c1 : w4.cell? ⟨y, 1, none⟩ = some (.string ⟨#[]⟩) := by rw [Lib.cell_of_heap CE]; rfl
  have f0 : w4.frozen? ⟨y, 0, none⟩ = false := Lib.frozen_of_heap CE 0
  have f1 : w4.frozen? ⟨y, 1, none⟩ = false := Lib.frozen_of_heap CE 1
  have HCE := Lib.hid CE
  clear CE
  have BF := Lib.hid (BW.out.trans (B4.out.mono YW.out))
  have WF := Lib.hid (show Below w.heap.size w ((w4.setCell ⟨y, 0, none⟩ (.string K)).setCell ⟨y, 1, none⟩ (.string V)) from (BF.out.setCell (p := ⟨y, 0, none⟩) (by rw [HYY.out]; exact Nat.le_refl _) _).setCell (p := ⟨y, 1, none⟩) (by rw [HYY.out]; exact Nat.le_refl _) _)
  have u := Go.Joins.block_setCell (i := 1) (Go.Joins.block_setCell (i := 0) HCE.out (.string K)) (.string V)
  have M0 := Lib.hid (Go.Joins.cell_of_block u 0)
  have M1 := Lib.hid (Go.Joins.cell_of_block u 1)
  clear u
  cases I1 <;> cases I2 <;> cases I3 <;> cases I4
  all_goals
    go_wp2_with fail
    have m0 := M0.out
    have m1 := M1.out
    refine bodyPost_ret (v := .tuple #[.agg #[.string K, .string V], .string R3, .bool _]) (by simp [results, Try.results32, go_sem, m0, m1] <;> rfl) rfl ⟨rfl, WF.out⟩
end Sk
end Go.Proofs.Ytedlgcbgbphlkaa
