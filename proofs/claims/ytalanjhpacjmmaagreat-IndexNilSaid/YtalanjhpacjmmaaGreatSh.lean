/- The document's Escape. -/
import Derived.Test.YtalanjhpacjmmaaGreatSg
import Derived.Deep.DeepAppendWide
namespace Go.Proofs.YtalanjhpacjmmaaGreat
set_option maxRecDepth 100000
open Go.RowKit
namespace Sh
open Jb Sa Sb Sc Sd Se Sf Sg

theorem bc_snoc (l : List UInt8) (c : UInt8) : Lib.byteCells (l ++ [c]) = Lib.byteCells l ++ [.int .u8 (c.toNat : Nat)] := by simp [Lib.byteCells]
theorem bc_u8s (l : List UInt8) : Lib.byteCells l = u8s (l.map UInt8.toNat) := by simp [Lib.byteCells, u8s]
theorem str_ba (l : List UInt8) : str (l.map UInt8.toNat) = ba l := by
  apply bl_inj
  rw [bl_ba]
  unfold bl str
  rw [strOfNums_data]
  simp only [List.map_map]
  have : ((fun n : Int => UInt8.ofNat n.toNat) ∘ (fun b : Nat => (b : Int)) ∘ UInt8.toNat) = id := by funext c; simp
  rw [this, List.map_id]
/-- A slice of one's own with these bytes. -/
def Ob (w : World) (B : Nat) (v : Value) (l : List UInt8) : Prop := w.ownsRow B 5 1 v l.length (Lib.byteCells l)
theorem Ob.forms {w : World} {B : Nat} {v : Value} {l : List UInt8} (h : Ob w B v l) : ∃ a m c, v = .slice a m c ∧ m = l.length := by
  obtain ⟨a, c, e⟩ := own_forms h
  exact ⟨a, _, c, e, rfl⟩
theorem ob_nil (w : World) (B : Nat) : Ob w B (.slice none 0 0) [] := World.ownsRow_nil _ _ _ _
theorem Ob.conv {w : World} {B : Nat} {v : Value} {l : List UInt8} (h : Ob w B v l) : (convert 108 9 v).run Tryz.prog w = .ok (.string (ba l)) w := by
  unfold Ob at h
  rw [bc_u8s] at h
  have := conv_own (bs := l.map UInt8.toNat) (by simpa using h)
  rwa [str_ba] at this
/-- One byte more. -/
theorem app1 {ops : Array Oper} {rest : List Oper} {o : Oper} {a : Act} {Q : Exit → Act → World → Prop} (hgd : o.guard = none) (s x : Operand)
    (ho : o.op = .call { callee := .builtin .append, args := #[s, x], argTypes := #[108, 108] }) (w : World) (B : Nat) (v : Value) (l : List UInt8) (c : UInt8) (hs : a.eval s = v)
    (hx : a.eval x = .slice (some ⟨w.heap.size, 0, none⟩) 1 1) (hown : Ob w B v l) (hB : B ≤ w.heap.size) (hl : l.length + 1 + (l.length + 1) / 4 + 192 ≤ 281474976710656)
    (h : ∀ v' w', Ob w' B v' (l ++ [c]) → Below B w w' → wpList Tryz.prog ops Q rest (a.put o.dst v') w') : wpList Tryz.prog ops Q (o :: rest) a (w.alloc (.cells #[.int .u8 (c.toNat : Nat)] 5)) := by
  obtain ⟨i0, hi, hz0, hz1, hz2⟩ := info_parts info5
  refine wpList_append_own_wide _ hgd s x 108 ho B 5 i0 (.int .u8 0) 1 1 Tryz.underlying108 hi hz0 hz1 hz2 rfl (by decide) v l.length _ hs (hown.alloc _) ⟨w.heap.size, 0, none⟩ 1 1 [.int .u8 (c.toNat : Nat)] hx rfl ?_ ?_ ?_ ?_ ?_ ?_
  · intro j u hj
    match j, hj with
    | 0, hj => simp at hj; subst hj; exact new_cell _ _ _ 0 _ rfl
  · intro u hu; simp at hu; subst hu; rfl
  · unfold maxLen; omega
  · omega
  · simp; omega
  · intro v' w' h1 h2 _
    refine h v' w' (by unfold Ob; rw [bc_snoc]; simpa using h1) ?_
    exact ((Below.refl B w).alloc hB _).grown h2 (by simp; omega) (fun k hk => (hown.lt k hk).1)
set_option maxRecDepth 100000 in
theorem escape14 (w : World) (s : ByteArray) (hs : s.size ≤ 70368744177664) :
    Calls Tryz.prog 76 #[.string s] w fun e w' => e = .returned (.string (ba (esc (bl s)))) ∧ Below w.heap.size w w' := by
  have HQ := Lib.hid (fun (y : World) (k : Nat) (hk : k < s.size) => idx y s k hk)
  obtain ⟨n, hn⟩ : ∃ n, n = s.size := ⟨_, rfl⟩
  have hlen : ∀ (ty : TypeId) (y : World), (Builtin.len_ #[9] ty #[.string s]).run Tryz.prog y = .ok (.int .i64 (n : Nat)) y := fun ty y => by rw [hn]; exact run_len_string y 9 ty s Tryz.underlying9
  rw [← hn] at hs
  have HN := Lib.hid hn
  have HS := Lib.hid hs
  have EB := Lib.hid (fun (y : World) (c : Nat) => special25 y c)
  have hn9 : n ≤ 140737488355328 := by omega
  obtain ⟨B, hB⟩ : ∃ B, B = w.heap.size := ⟨_, rfl⟩
  have HBE := Lib.hid hB
  rw [← hB]
  clear hn hs hB
  go_enter Tryz.func76, Tryz.ntmps76
  go_wp2_with fail
  go_loopw [3, 4] (fun o i wr => ∃ k, k ≤ n ∧ i = .int .i64 (k : Nat) ∧ Hid (Ob wr B o (esc ((bl s).take k))) ∧ Hid (Below B w wr)) (fun _ i _ => n - (intOf i).toNat)
  case atStart => exact ⟨0, Nat.zero_le _, rfl, Lib.hid (ob_nil _ _), Lib.hid (Below.refl _ _)⟩
  case round =>
    obtain ⟨k, hk, rfl, HO, BW⟩ := hrel
    obtain ⟨oa, ol, oc, rfl, hol⟩ := HO.out.forms
    have HW := Lib.hid (show B ≤ wr.heap.size from Nat.le_trans (by rw [HBE.out]; exact Nat.le_refl _) BW.out.size)
    by_cases hkn : k < n
    case neg =>
      obtain rfl : k = n := by omega
      have CV := (show (convert 108 9 (.slice oa ol oc)).run Tryz.prog wr = .ok (.string (ba (esc (bl s)))) wr by
        have := HO.out.conv
        rwa [List.take_of_length_le (by rw [bl_len, ← HN.out]; exact Nat.le_refl _)] at this)
      clear hkn hol
      go_wp2_with fail
      go_ret
      exact ⟨rfl, BW.out⟩
    have hi := fun (y : World) => HQ.out y k (by rw [← HN.out]; exact hkn)
    obtain ⟨c, hc1, hc2, hc3⟩ := drop_cons s k (by rw [← HN.out]; exact hkn)
    obtain ⟨q, hq⟩ : ∃ q, q = by8 s k := ⟨_, rfl⟩
    rw [← hq] at hi hc2
    have hk0 : (0 : Int) ≤ (k : Int) := by omega
    have LT := Lib.hid (show (esc ((bl s).take k)).length + 2 ≤ 140737488355330 by
      have h1 := (esc_len ((bl s).take k)).2
      have h2 := HS.out
      rw [List.length_take, bl_len] at h1
      have : min k s.size ≤ k := Nat.min_le_left _ _
      omega)
    have EN := Lib.hid (show esc ((bl s).take (k + 1)) = esc ((bl s).take k) ++ (if sp c then [92, c] else [c]) by rw [hc3, esc_app, esc_one])
    have HC := Lib.hid hc2
    by_cases hs : sp c = true
    · have hsn : spn q = true := by rw [← hc2]; exact hs
      have EE := Lib.hid (EN.out.trans (by rw [if_pos hs] : _ = esc ((bl s).take k) ++ [92, c]))
      have EQ := Lib.hid (show ∀ y, Calls Tryz.prog 106 #[.int .u8 (q : Nat)] y fun e w' => e = .returned (.bool true) ∧ w' = y from fun y => hsn ▸ EB.out y q)
      clear hq hc1 hc2 hc3 hs EN hsn EB hol
      go_wp2_with (first
        | (go_at_call 106; refine (EQ.out _).mono ?_; clear EQ; rintro e wr ⟨rfl, rfl⟩)
        | (at_builtin; refine app1 rfl (.tmp 15) (.tmp 16) rfl wr B _ _ 92 rfl rfl HO.out HW.out (by have := LT.out; omega) ?_; intro o1 w1 h1 b1; have W1 := Lib.hid (Nat.le_trans HW.out b1.size); clear HO HW; obtain ⟨a1, m1, c1, rfl, e1⟩ := h1.forms; clear e1; have H1 := Lib.hid h1; have B1 := Lib.hid b1; clear h1 b1)
        | (at_builtin; rw [← HC.out]; refine app1 rfl (.tmp 18) (.tmp 22) rfl w1 B _ _ c rfl rfl H1.out W1.out (by have := LT.out; simp only [List.length_append, List.length_cons, List.length_nil]; omega) ?_; intro o2 w2 h2 b2; clear H1; obtain ⟨a2, m2, c2, rfl, e2⟩ := h2.forms; clear e2; have H2 := Lib.hid h2; have B2 := Lib.hid b2; clear h2 b2))
      go_roundw
      case rel =>
        refine ⟨k + 1, by omega, by go_num, Lib.hid ?_, Lib.hid ((BW.out.trans B1.out).trans B2.out)⟩
        have := H2.out
        rw [EE.out]
        rw [List.append_assoc] at this
        exact this
      case measure => simp [intOf]; omega
    · have hs' : sp c = false := by simpa using hs
      have hsn : spn q = false := by rw [← hc2]; exact hs'
      have EE := Lib.hid (EN.out.trans (by rw [if_neg hs] : _ = esc ((bl s).take k) ++ [c]))
      have EQ := Lib.hid (show ∀ y, Calls Tryz.prog 106 #[.int .u8 (q : Nat)] y fun e w' => e = .returned (.bool false) ∧ w' = y from fun y => hsn ▸ EB.out y q)
      clear hq hc1 hc2 hc3 hs EN hsn EB hol hs'
      go_wp2_with (first
        | (go_at_call 106; refine (EQ.out _).mono ?_; clear EQ; rintro e wr ⟨rfl, rfl⟩)
        | (at_builtin; rw [← HC.out]; refine app1 rfl (.tmp 18) (.tmp 22) rfl wr B _ _ c rfl rfl HO.out HW.out (by have := LT.out; omega) ?_; intro o2 w2 h2 b2; clear HO; obtain ⟨a2, m2, c2, rfl, e2⟩ := h2.forms; clear e2; have H2 := Lib.hid h2; have B2 := Lib.hid b2; clear h2 b2))
      go_roundw
      case rel =>
        refine ⟨k + 1, by omega, by go_num, Lib.hid ?_, Lib.hid (BW.out.trans B2.out)⟩
        have := H2.out
        rw [EE.out]
        exact this
      case measure => simp [intOf]; omega
end Sh
end Go.Proofs.YtalanjhpacjmmaaGreat
