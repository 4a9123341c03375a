import Derived.Test.YtbnicnhkakbglaaGreatDoorG14
import Derived.Test.YtbnicnhkakbglaaGreatDoorG01
import Derived.Test.YtbnicnhkakbglaaGreatDoorRows
import Derived.Test.YtbnicnhkakbglaaGreatDoorG02
import Derived.Test.YtbnicnhkakbglaaGreatDoorG19
import Derived.Test.YtbnicnhkakbglaaGreatDoorG18
import Derived.Test.YtbnicnhkakbglaaGreatDoorG17
import Derived.Test.YtbnicnhkakbglaaGreatDoorG16
import Derived.Test.YtbnicnhkakbglaaGreatDoorG20
import Derived.Test.YtbnicnhkakbglaaGreatDoorG06

/- A decimal in memory by its number; leftShift by numbers. -/
namespace Go.Proofs.YtbnicnhkakbglaaGreatDoor
open Go.RowKit
namespace Dc
open Us Dm

/-- The decimal a at block g. -/
def Db (w : World) (g : Nat) (a : De) (ng : Bool) : Prop := Gd a ∧ ∃ A, Dh w g A (dlen a.n) a.dp ng a.tr ∧ ∀ i, i < dlen a.n → A i = 48 + sdg a.n i
theorem tz_last {A : Nat → Nat} {X : Nat} : ∀ m : Nat, (∀ p, p < m → A p = 48 + sdg X p) → tz A m = lastNz X m := by
  intro m
  induction m with
  | zero => intro _; rfl
  | succ j ih =>
    intro h
    have hj := h j (by omega)
    show (if A j = 48 then tz A j else j + 1) = if sdg X j ≠ 0 then j + 1 else lastNz X j
    by_cases e : sdg X j = 0
    · rw [if_pos (by rw [hj, e]), if_neg (by simp [e]), ih fun p hp => h p (by omega)]
    · rw [if_neg (by omega), if_pos e]
theorem db_of {w : World} {g : Nat} {A : Nat → Nat} {m X : Nat} {dp : Int} {ng tr t : Bool} (hX : X ≠ 0) (hm1 : 1 ≤ m) (hm : m ≤ 800) (hz : ∀ i, m ≤ i → i < 800 → sdg X i = 0)
    (h : Dh w g A (tz A m) (tdp (tz A m) dp) ng t) (hA : ∀ p, p < m → A p = 48 + sdg X p) (ht : t = true ↔ tr = true ∨ ∃ p, 800 ≤ p ∧ sdg X p ≠ 0) : Db w g ⟨keep X, dp, tr || gone X⟩ ng := by
  have e1 := tz_last m hA
  have e2 := keep_past hm hz
  have e3 := lastNz_pos hX m hm1
  have e4 : dlen (keep X) = tz A m := by rw [keep_len hX, e2, e1]
  have e5 : tdp (tz A m) dp = dp := if_neg (by omega)
  have e6 : t = (tr || gone X) := by
    rw [Bool.eq_iff_iff, ht, Bool.or_eq_true]
    constructor
    · rintro (h | ⟨p, h1, h2⟩)
      · exact .inl h
      · exact .inr (gone_yes h1 h2)
    · rintro (h | h)
      · exact .inl h
      · refine .inr ?_
        unfold gone at h
        obtain ⟨i, _, hi⟩ := List.any_eq_true.1 h
        simp only [Bool.and_eq_true, decide_eq_true_eq] at hi
        exact ⟨i, hi⟩
  rw [e5] at h
  refine ⟨⟨keep_ne hX, keep_dlen X hX⟩, A, ?_, fun i hi => ?_⟩
  · show Dh w g A (dlen (keep X)) dp ng (tr || gone X)
    rw [e4, ← e6]; exact h
  · have hi' : i < dlen (keep X) := hi
    have h8 : i < lastNz X 800 := by rw [← keep_len hX]; exact hi'
    show A i = 48 + sdg (keep X) i
    rw [keep_sdg hX h8]
    refine hA i ?_
    have := lastNz_le X m
    rw [e2] at h8
    omega
theorem left_db (w : World) (g : Nat) (a : De) (ng : Bool) (k : Nat) (dlv l5v : Nat → Nat) (CS : Nat → ByteArray) (hT : LT w dlv CS) (hF : LF dlv l5v CS) (hk1 : 1 ≤ k) (hk : k ≤ 60) (h : Db w g a ng) (hdp : -3000 ≤ a.dp ∧ a.dp ≤ 3000) :
    Calls Tryz.prog 252 #[.pointer (some ⟨g, 0, none⟩), .int .u64 (k : Nat)] w fun e w' => e = .returned (.tuple #[]) ∧ Db w' g (a.shl k) ng ∧ ∃ m, Only (w.drewN m) w' g := by
  obtain ⟨⟨hn, h8⟩, A, hD, hA⟩ := h
  refine (left145 w g A a.n a.dp ng a.tr k dlv l5v CS hT hF hk1 hk hD hn h8 hA hdp).mono ?_
  rintro e w' ⟨rfl, A', t', h1, h2, h3, h4⟩
  have hX := mul2_ne hn k
  have hL := dlen_one hX
  refine ⟨rfl, ?_, h4⟩
  refine db_of (m := min (dlen (a.n * 2 ^ k)) 800) (t := t') hX (by omega) (Nat.min_le_right _ _) (fun i h1 h2 => sdg_past _ i (by omega)) h1 h2 ?_
  rw [h3]
  constructor
  · rintro (h | ⟨p, p1, p2, p3⟩)
    · exact .inl h
    · exact .inr ⟨p, p1, p3⟩
  · rintro (h | ⟨p, p1, p3⟩)
    · exact .inl h
    · refine .inr ⟨p, p1, ?_, p3⟩
      by_cases hp : p < dlen (a.n * 2 ^ k)
      · exact hp
      · exact absurd (sdg_past _ p (by omega)) p3
end Dc
end Go.Proofs.YtbnicnhkakbglaaGreatDoor

/- The tables' numbers: plain facts. -/
namespace Go.Proofs.YtbnicnhkakbglaaGreatDoor
open Go.RowKit
namespace Mp
open Dm

def pvL : List Nat := [4607182418800017408, 4621819117588971520, 4636737291354636288, 4652007308841189376, 4666723172467343360, 4681608360884174848, 4696837146684686336, 4711630319722168320, 4726483295884279808, 4741671816366391296, 4756540486875873280, 4771362005757984768, 4786511204640096256, 4801453603149578240, 4816244402031689728, 4831355200913801216, 4846369599423283200, 4861130398305394688, 4876203697187506176, 4891288408196988160, 4906019910204099648, 4921056587992461136, 4936209963552724370]
def pv (i : Nat) : Nat := pvL.getD i 0
theorem laid_pv : (Rows.laid_internal_strconv_float64pow10 : DataW Unit) = .slice (pvL.map fun b => .lit (.float .f64 b)) [] := rfl
def pwB (y : Nat) : Bool := match FloatKind.f64.format.read y with
  | .number _ n q => decide (n ≠ 0) && decide (0 ≤ q + (n.log2 : Int)) && decide (q + (n.log2 : Int) ≤ 74)
  | _ => false
theorem pw_of {y : Nat} (h : pwB y = true) : Fq.Pw y := by
  unfold pwB at h
  split at h
  · rename_i s n q e
    simp only [Bool.and_eq_true, decide_eq_true_eq] at h
    exact ⟨s, n, q, e, h.1.1, h.1.2, h.2⟩
  · cases h
theorem hpv : ∀ i, i < 23 → Fq.Pw (pv i) := by
  have h : (List.range 23).all (fun i => pwB (pv i)) = true := by decide +kernel
  intro i hi
  exact pw_of (List.all_eq_true.1 h i (List.mem_range.2 hi))
def ph (i : Nat) : Nat := (Go.Pinned.pow10Rows.getD i (0, 0)).1
def pl (i : Nat) : Nat := (Go.Pinned.pow10Rows.getD i (0, 0)).2
theorem pow_len : Go.Pinned.pow10Rows.length = 696 := by decide +kernel
theorem hph : ∀ i, i < 696 → ph i < 18446744073709551616 ∧ pl i < 18446744073709551616 := by
  have h : Go.Pinned.pow10Rows.all (fun x => decide (x.1 < 18446744073709551616) && decide (x.2 < 18446744073709551616)) = true := by decide +kernel
  intro i hi
  have hl : i < Go.Pinned.pow10Rows.length := by rw [pow_len]; exact hi
  have := List.all_eq_true.1 h _ (List.getElem_mem hl)
  simp only [Bool.and_eq_true, decide_eq_true_eq] at this
  unfold ph pl
  rw [List.getD_eq_getElem?_getD, List.getElem?_eq_getElem hl]
  exact this
def dlv (k : Nat) : Nat := (Go.Pinned.cheatRows.getD k (0, [])).1
def cut (k : Nat) : List UInt8 := (Go.Pinned.cheatRows.getD k (0, [])).2
def l5v (k : Nat) : Nat := (cut k).length
def CS (k : Nat) : ByteArray := ⟨(cut k).toArray⟩
theorem cheat_len : Go.Pinned.cheatRows.length = 61 := by decide +kernel
def ckB (k : Nat) : Bool :=
  decide (10 ^ (dlv k - 1) ≤ 2 ^ k) && decide (2 ^ k < 10 ^ dlv k) && decide (1 ≤ dlv k) && decide (dlv k + l5v k = k + 1) && decide (1 ≤ l5v k) && decide (10 ^ (l5v k - 1) ≤ 5 ^ k) && decide (5 ^ k < 10 ^ l5v k) && decide (l5v k ≤ 800) &&
    decide (5 ^ k * 10 ^ (l5v k - 1 + 1) / 10 ^ l5v k % 10 ≠ 0) && (List.range (l5v k)).all (fun i => decide (((cut k).getD i 0).toNat = 48 + 5 ^ k * 10 ^ (i + 1) / 10 ^ l5v k % 10))
theorem ck_all : (List.range 61).all (fun k => k == 0 || ckB k) = true := by decide +kernel
theorem hLF : Dc.LF dlv l5v CS := by
  intro k h1 h2
  have h := List.all_eq_true.1 ck_all k (List.mem_range.2 (by omega))
  have h0 : (k == 0) = false := by simp; omega
  rw [h0, Bool.false_or] at h
  unfold ckB at h
  simp only [Bool.and_eq_true, decide_eq_true_eq, List.all_eq_true, List.mem_range] at h
  obtain ⟨⟨⟨⟨⟨⟨⟨⟨⟨a1, a2⟩, a3⟩, a4⟩, a5⟩, a6⟩, a7⟩, a8⟩, a9⟩, a10⟩ := h
  have hd : dlen (5 ^ k) = l5v k := by
    have := dlen_of (n := 5 ^ k) (k := l5v k - 1) a6 (by rw [show l5v k - 1 + 1 = l5v k from by omega]; exact a7)
    omega
  have hsz : (CS k).size = l5v k := by show (cut k).toArray.size = _; simp [l5v]
  refine ⟨⟨a1, a2, a3, a4, hd⟩, a8, ?_, hsz, fun i hi => ?_⟩
  · unfold sdg; rw [hd]; exact a9
  · have hi2 : i < l5v k := by rw [← hsz]; exact hi
    have := a10 i hi2
    unfold sdg
    rw [hd, ← this]
    have hi3 : i < (cut k).length := hi2
    rw [List.getD_eq_getElem?_getD, List.getElem?_eq_getElem hi3]
    rfl
def ptL : List Int := [1, 3, 6, 9, 13, 16, 19, 23, 26]
theorem laid_pt : (Rows.laid_internal_strconv_powtab : DataW Unit) = .slice (ptL.map fun z => .lit (.int .i64 z)) [] := rfl
theorem pt_is : ∀ m, m < 9 → ptL.getD m 0 = (pt m : Nat) := by
  intro m hm
  match m, hm with
  | 0, _ => rfl
  | 1, _ => rfl
  | 2, _ => rfl
  | 3, _ => rfl
  | 4, _ => rfl
  | 5, _ => rfl
  | 6, _ => rfl
  | 7, _ => rfl
  | 8, _ => rfl
end Mp
end Go.Proofs.YtbnicnhkakbglaaGreatDoor

/- readFloat. -/
namespace Go.Proofs.YtbnicnhkakbglaaGreatDoor
open Go.RowKit
namespace Rf
open Rm

theorem rf89 (w : World) (S : ByteArray) (bs sg mn ex : List Nat) (hS : Sb S bs) (hF : FloatText bs sg mn ex) (hl : bs.length ≤ 400) :
    Calls Tryz.prog 183 #[.string S] w fun e w' => e = .returned (.tuple #[.int .u64 (mantOf mn : Nat), .int .i64 (powOf mn ex), .bool (!sg.isEmpty), .bool (truncOf mn), .bool false, .int .i64 (S.size : Nat), .bool true]) ∧ w' = w := by
  rcases hF.2.2.2 with h | ⟨c, s, d, h, hc, hs, hd⟩
  · exact rf89_none w S bs sg mn ex hS hF hl h
  · rcases hs with rfl | rfl | rfl
    · refine rf89_plain w S bs sg mn ex hS hF hl ?_
      rw [h]
      exact (hd.2 _ (mem_get (List.length_pos_iff.2 hd.1))).1
    · refine rf89_plus w S bs sg mn ex hS hF hl ?_
      rw [h]
      rfl
    · refine rf89_minus w S bs sg mn ex hS hF hl ?_
      rw [h]
      rfl
end Rf
end Go.Proofs.YtbnicnhkakbglaaGreatDoor

/- The program's test of a float's form. -/
namespace Go.Proofs.YtbnicnhkakbglaaGreatDoor
open Go.RowKit
namespace Vd
open Jb Sa Sb Sj Fm Rm

theorem pre_one (s : ByteArray) (c : UInt8) : Lib.hasPrefix s.data.toList [c] = decide (0 < s.size ∧ by8 s 0 = c.toNat) := by
  show List.isPrefixOf [c] (bl s) = _
  have hl := bl_len s
  by_cases h : 0 < s.size
  · obtain ⟨x, e1, e2, _⟩ := drop_cons s 0 h
    rw [List.drop_zero] at e1
    rw [e1, List.isPrefixOf_cons_cons, List.isPrefixOf_nil_left, Bool.and_true]
    by_cases hx : c = x
    · subst hx
      rw [beq_self_eq_true, decide_eq_true ⟨h, e2.symm⟩]
    · rw [beq_eq_false_iff_ne.2 hx, decide_eq_false]
      rintro ⟨_, k⟩
      exact hx (UInt8.toNat.inj (by rw [← k, ← e2]))
  · rw [show bl s = [] from List.length_eq_zero_iff.1 (by omega), decide_eq_false (fun k => h k.1)]
    rfl
theorem trimP (w : World) (s : ByteArray) : Calls Tryz.prog 64 #[.string s, .string ⟨#[45]⟩] w fun e w' => e = .returned (.string (sub s (pS s))) ∧ w' = w := by
  refine (Tryz.strings_TrimPrefix s ⟨#[45]⟩ w).mono ?_
  rintro e w' ⟨rfl, rfl⟩
  refine ⟨?_, rfl⟩
  show Ending.returned (.string ⟨(Lib.trimPrefix s.data.toList [45]).toArray⟩) = _
  unfold Lib.trimPrefix
  rw [pre_one, show (45 : UInt8).toNat = 45 from rfl]
  unfold sub pS
  by_cases h : 0 < s.size ∧ by8 s 0 = 45
  · rw [if_pos (decide_eq_true h), if_pos h]; rfl
  · rw [if_neg (by rw [decide_eq_false h]; decide), if_neg h, List.drop_zero]; rfl
theorem hasP (w : World) (s : ByteArray) (p : Nat) : Calls Tryz.prog 108 #[.string (sub s p), .string ⟨#[46]⟩] w fun e w' => e = .returned (.bool (decide (p < s.size ∧ by8 s p = 46))) ∧ w' = w := by
  refine (Tryz.strings_HasPrefix (sub s p) ⟨#[46]⟩ w).mono ?_
  rintro e w' ⟨rfl, rfl⟩
  refine ⟨?_, rfl⟩
  show Ending.returned (.bool (Lib.hasPrefix (sub s p).data.toList [46])) = _
  rw [pre_one, sub_size, sub_by8, Nat.add_zero]
  congr 2
  exact decide_eq_decide.2 ⟨fun h => ⟨by omega, h.2⟩, fun h => ⟨by omega, h.2⟩⟩
theorem skip_at (w : World) (s : ByteArray) (hs : s.size ≤ 140737488355328) (p : Nat) : Calls Tryz.prog 65 #[.string (sub s p)] w fun e w' => e = .returned (.tuple #[.string (sub s (run s p)), .bool (decide (p < run s p))]) ∧ Below w.heap.size w w' := by
  refine (skipDigits w (sub s p) (by rw [sub_size]; omega)).mono ?_
  rintro e w' ⟨rfl, b⟩
  refine ⟨?_, b⟩
  rw [sub_nat]
  have e1 : ba ((bl (sub s p)).drop (lead ((nat s).drop p))) = sub s (run s p) := sub_sub s p _
  have e2 : decide (0 < lead ((nat s).drop p)) = decide (p < run s p) := decide_eq_decide.2 (by unfold run; omega)
  rw [e1, e2]
theorem tail_run (s : ByteArray) (p : Nat) (hp : p < s.size) (y : World) : (Instr.slice 9 (.string (sub s p)) (some (.int .i64 1)) none none).run Tryz.prog y = .ok (.string (sub s (p + 1))) y := by
  have h := slice_run (sub s p) 1 (by rw [sub_size]; omega) y
  rw [← sub_sub]
  exact h
theorem first_get (s : ByteArray) (p : Nat) (hp : p < s.size) : ∃ h : 0 < (sub s p).size, ((sub s p)[0]'h).toNat = by8 s p := by
  have h : 0 < (sub s p).size := by rw [sub_size]; omega
  refine ⟨h, ?_⟩
  rw [by8_get, sub_by8, Nat.add_zero]
set_option maxRecDepth 100000 in
theorem skipSign (w : World) (s : ByteArray) (p : Nat) (hp : p ≤ s.size) :
    Calls Tryz.prog 109 #[.string (sub s p)] w fun e w' => e = .returned (.string (sub s (pX s p))) ∧ w' = w := by
  by_cases h : p < s.size
  · obtain ⟨h0, hb⟩ := first_get s p h
    have hx : pX s p = if by8 s p = 43 ∨ by8 s p = 45 then p + 1 else p := by
      unfold pX
      by_cases c : by8 s p = 43 ∨ by8 s p = 45
      · rw [if_pos ⟨h, c⟩, if_pos c]
      · rw [if_neg (fun k => c k.2), if_neg c]
    have ht := tail_run s p h
    obtain ⟨es, es2⟩ := nil_no (sub_ne s p h)
    have HX := Lib.hid hx
    clear hx
    obtain ⟨T, hT⟩ : ∃ T, T = sub s (p + 1) := ⟨_, rfl⟩
    obtain ⟨Z, hZ⟩ : ∃ Z, Z = sub s (pX s p) := ⟨_, rfl⟩
    rw [← hT] at ht
    rw [← hZ]
    have HT := Lib.hid hT
    have HZ := Lib.hid hZ
    have HR : Hid (sub s p = sub s p) := Lib.hid rfl
    obtain ⟨b, hbe⟩ : ∃ b, b = by8 s p := ⟨_, rfl⟩
    rw [← hbe] at hb HX
    obtain ⟨R, hR⟩ : ∃ R, R = sub s p := ⟨_, rfl⟩
    have HRR := Lib.hid hR
    have hb2 : ∃ h : 0 < R.size, (R[0]'h).toNat = b := by subst hR; exact ⟨h0, hb⟩
    rw [← hR] at ht es es2 ⊢
    clear hb h0 hR hT hZ hbe HR
    obtain ⟨h0, hb⟩ := hb2
    by_cases c : b = 43 ∨ b = 45
    · have e : Z = T := by rw [HZ.out, HT.out, HX.out, if_pos c]
      subst e
      clear HX HT HZ HRR h
      by_cases c1 : b = 43
      · have g1 : ((b : Int) == 43) = true := by simp; omega
        go_enter Tryz.func109, Tryz.ntmps109
        go_wp2_with fail
        go_ret
        exact ⟨rfl, rfl⟩
      · have g1 : ((b : Int) == 43) = false := by simp; omega
        have g2 : ((b : Int) == 45) = true := by simp; omega
        go_enter Tryz.func109, Tryz.ntmps109
        go_wp2_with fail
        go_ret
        exact ⟨rfl, rfl⟩
    · have e : Z = R := by rw [HZ.out, HRR.out, HX.out, if_neg c]
      subst e
      have g1 : ((b : Int) == 43) = false := by simp; omega
      have g2 : ((b : Int) == 45) = false := by simp; omega
      clear HX HT HZ HRR h c
      go_enter Tryz.func109, Tryz.ntmps109
      go_wp2_with fail
      go_ret
      exact ⟨rfl, rfl⟩
  · have e : sub s p = ⟨#[]⟩ := sub_end s p (by omega)
    have e2 : pX s p = p := by unfold pX; rw [if_neg (fun k => h k.1)]
    rw [e2, e]
    clear e e2
    go_enter Tryz.func109, Tryz.ntmps109
    go_wp2_with fail
    go_ret
    exact ⟨rfl, rfl⟩
end Vd
end Go.Proofs.YtbnicnhkakbglaaGreatDoor
