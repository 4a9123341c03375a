import Derived.Test.YtbnicnhkakbglaaGreatDoorG05
import Derived.Test.YtbnicnhkakbglaaGreatDoorChecked
import Derived.Deep.Slices
import Derived.Lib.LaidU8
import Derived.Lib.LaidTab
import Derived.Lay
import Derived.KernelRfl
import Init

/- The program's readName. -/
namespace Go.Proofs.YtbnicnhkakbglaaGreatDoor
open Go.RowKit
namespace Sj
open Jb Sa Sb Sc Sd Se Sf Sg Sh Si

theorem slice_run (s : ByteArray) (k : Nat) (hk : k ≤ s.size) (y : World) : (Instr.slice 9 (.string s) (some (.int .i64 (k : Nat))) none none).run Tryz.prog y = .ok (.string (ba ((bl s).drop k))) y := by
  rw [run_slice_string_l y 9 s Tryz.underlying9 .i64 (k : Nat) (by omega) (by omega)]
  have e : s.extract ((k : Nat) : Int).toNat s.size = ba ((bl s).drop k) := by
    apply bl_inj
    rw [bl_ba]
    have hl := bl_len s
    unfold bl at *
    simp only [Int.toNat_natCast, ByteArray.data_extract, Array.toList_extract, List.extract_eq_take_drop]
    rw [List.take_of_length_le (by rw [List.length_drop]; omega)]
  rw [e]
/-- What a name's reading answers. -/
def rn (t : List UInt8) : ByteArray × ByteArray × Bool := match prt t with
  | none => (⟨#[]⟩, ⟨#[]⟩, false)
  | some (n, r) => (ba n, ba r, true)
theorem rn_some {t n r : List UInt8} (h : prt t = some (n, r)) : rn t = (ba n, ba r, true) := by unfold rn; rw [h]
theorem rn_none {t : List UInt8} (h : prt t = none) : rn t = (⟨#[]⟩, ⟨#[]⟩, false) := by unfold rn; rw [h]
theorem at_cons {l : List UInt8} {k : Nat} {acc : List UInt8} (h : prt l = (prt (l.drop k)).map fun x => (acc ++ x.1, x.2)) {n r : List UInt8} (h1 : prt (l.drop k) = some (n, r)) : prt l = some (acc ++ n, r) := by rw [h, h1]; rfl
set_option maxRecDepth 100000 in
theorem readName31 (w : World) (s : ByteArray) (hs : s.size ≤ 70368744177664) :
    Calls Tryz.prog 239 #[.string s] w fun e w' => e = .returned (.tuple #[.string (rn (bl s)).1, .string (rn (bl s)).2.1, .bool (rn (bl s)).2.2]) ∧ Below w.heap.size w w' := by
  have HQ := Lib.hid (fun (y : World) (k : Nat) (hk : k < s.size) => idx y s k hk)
  have SL := Lib.hid (fun (k : Nat) (hk : k ≤ s.size) => slice_run s k hk)
  obtain ⟨n, hn⟩ : ∃ n, n = s.size := ⟨_, rfl⟩
  have hlen : ∀ (ty : TypeId) (y : World), (Builtin.len_ #[9] ty #[.string s]).run Tryz.prog y = .ok (.int .i64 (n : Nat)) y := fun ty y => by rw [hn]; exact run_len_string y 9 ty s Tryz.underlying9
  obtain ⟨A1, hA1⟩ : ∃ A, A = (rn (bl s)).1 := ⟨_, rfl⟩
  obtain ⟨A2, hA2⟩ : ∃ A, A = (rn (bl s)).2.1 := ⟨_, rfl⟩
  obtain ⟨A3, hA3⟩ : ∃ A, A = (rn (bl s)).2.2 := ⟨_, rfl⟩
  rw [← hA1, ← hA2, ← hA3]
  have YES := Lib.hid (fun m r (h : prt (bl s) = some (m, r)) => (show A1 = ba m ∧ A2 = ba r ∧ A3 = true by rw [hA1, hA2, hA3, rn_some h]; exact ⟨rfl, rfl, rfl⟩))
  have NO := Lib.hid (fun (h : prt (bl s) = none) => (show A1 = ⟨#[]⟩ ∧ A2 = ⟨#[]⟩ ∧ A3 = false by rw [hA1, hA2, hA3, rn_none h]; exact ⟨rfl, rfl, rfl⟩))
  rw [← hn] at hs SL HQ
  have HN := Lib.hid hn
  have HS := Lib.hid hs
  have EB := Lib.hid (fun (y : World) (c : Nat) => isEscaped29 y c)
  have hn9 : n ≤ 140737488355328 := by omega
  obtain ⟨b, hb⟩ : ∃ b, b = w.heap.size := ⟨_, rfl⟩
  obtain ⟨w1, hw1⟩ : ∃ w1, w1 = w.alloc (.cells #[.pointer none, .slice none 0 0] 121) := ⟨_, rfl⟩
  have D0 := Lib.hid (show Bd w1 b b [] by rw [hw1, hb]; exact bd_new w)
  have N1 := Lib.hid (show Below b w w1 by rw [hw1, hb]; exact (Below.refl _ w).alloc (Nat.le_refl _) _)
  have HBB := Lib.hid hb
  rw [← hb]
  clear hn hs hA1 hA2 hA3
  go_enter Tryz.func239, Tryz.ntmps239
  go_upto_region 2 with (fail)
  rw [← hw1, ← hb]
  clear hw1 hb
  go_wp2_with fail
  go_loopw [6] (fun i wr => ∃ (k : Nat) (acc : List UInt8), k ≤ n ∧ i = .int .i64 (k : Nat) ∧ Hid (acc.length ≤ k) ∧ Hid (prt (bl s) = (prt ((bl s).drop k)).map fun x => (acc ++ x.1, x.2)) ∧ Hid (Bd wr b b acc) ∧ Hid (Below b w wr)) (fun i _ => n - (intOf i).toNat)
  case atStart => exact ⟨0, [], Nat.zero_le _, rfl, Lib.hid (Nat.le_refl _), Lib.hid (by simp), D0, N1⟩
  case round =>
    obtain ⟨k, acc, hk, rfl, HAL, HP, HD, BW⟩ := hrel
    have HBr := Lib.hid (Nat.le_of_lt (bd_lt HD.out))
    by_cases hkn : k < n
    case neg =>
      obtain rfl : k = n := by omega
      have e := YES.out acc [] (by
        have := at_cons HP.out (n := []) (r := []) (by rw [List.drop_of_length_le (by rw [bl_len, ← HN.out]; exact Nat.le_refl _)]; exact part_nil)
        rwa [List.append_nil] at this)
      obtain ⟨e1, e2, e3⟩ := e
      have ST := Lib.hid (bd_string HD.out HBr.out)
      rw [← e1] at ST
      have e2' : A2 = ⟨#[]⟩ := e2
      subst e2' e3
      clear hkn e1 e2
      go_wp2_with (go_at_call 80; refine ST.out.mono ?_; clear ST; rintro e w4 ⟨rfl, _, b4⟩; have B4 := Lib.hid b4; clear b4)
      go_ret3
      exact ⟨rfl, BW.out.trans B4.out⟩
    have hi := fun (y : World) => HQ.out y k hkn
    obtain ⟨c, hc1, hc2, hc3⟩ := drop_cons s k (by rw [← HN.out]; exact hkn)
    obtain ⟨q, hq⟩ : ∃ q, q = by8 s k := ⟨_, rfl⟩
    rw [← hq] at hi hc2
    have hk0 : (0 : Int) ≤ (k : Int) := by omega
    have HC := Lib.hid hc2
    have HC1 := Lib.hid hc1
    have EB1 := Lib.hid (fun (y : World) => EB.out y q)
    have LA := Lib.hid (show acc.length + 1 ≤ 140737488355328 by have := HAL.out; have := HS.out; omega)
    clear hq hc1 hc2 hc3
    by_cases hq92 : q = 92
    · have g1 : ((q : Int) == 92) = true := by simp; omega
      by_cases hk1 : k + 1 = n
      · have e := NO.out (by
          rw [HP.out, HC1.out, List.drop_of_length_le (by rw [bl_len, ← HN.out]; omega), part_end c (by rw [HC.out]; exact hq92)]; rfl)
        obtain ⟨e1, e2, e3⟩ := e
        subst e1 e2 e3
        have g2 : ((k : Int) + 1 == (n : Int)) = true := by simp; omega
        clear hq92 hk1
        go_wp2_with fail
        go_ret3
        exact ⟨rfl, BW.out⟩
      have hkn1 : k + 1 < n := by omega
      have g2 : ((k : Int) + 1 == (n : Int)) = false := by simp; omega
      have hi1 := fun (y : World) => HQ.out y (k + 1) hkn1
      obtain ⟨d, hd1, hd2, _⟩ := drop_cons s (k + 1) (by rw [← HN.out]; exact hkn1)
      obtain ⟨p, hp⟩ : ∃ p, p = by8 s (k + 1) := ⟨_, rfl⟩
      rw [← hp] at hi1 hd2
      have hi2 : ∀ (y : World), (Instr.index 9 (.string s) (.int .i64 ((k : Int) + 1))).run Tryz.prog y = .ok (.int .u8 (p : Nat)) y := hi1
      have HD1 := Lib.hid hd1
      have HD2 := Lib.hid hd2
      have EP := Lib.hid (fun (y : World) => EB.out y p)
      clear hp hd1 hd2 hk1
      by_cases hs : spn p = true
      · rw [hs] at EP
        have W1 := Lib.hid (show Calls Tryz.prog 79 #[.pointer (some ⟨b, 0, none⟩), .int .u8 (p : Nat)] wr _ from HD2.out ▸ bd_write HD.out d LA.out HBr.out)
        have PN := Lib.hid (show prt (bl s) = (prt ((bl s).drop (k + 2))).map fun x => ((acc ++ [d]) ++ x.1, x.2) by
          rw [HP.out, HC1.out, HD1.out, part_esc2 c d _ (by rw [HC.out]; exact hq92) (by unfold sp; rw [HD2.out]; exact hs), Option.map_map]
          congr 1
          funext x
          simp)
        clear hs hq92
        go_wp2_with (first
          | (go_at_call 121; refine (EP.out _).mono ?_; clear EP; rintro e wr ⟨rfl, rfl⟩)
          | (go_at_call 79; refine W1.out.mono ?_; clear W1; rintro e w2 ⟨rfl, d1, b1, _⟩; have D1 := Lib.hid d1; have B1 := Lib.hid b1; clear d1 b1))
        go_roundw
        case rel => exact ⟨k + 2, acc ++ [d], by omega, by go_num, Lib.hid (by have := HAL.out; simp; omega), PN, D1, Lib.hid (BW.out.trans B1.out)⟩
        case measure => simp [intOf]; omega
      · have hs' : spn p = false := by simpa using hs
        rw [hs'] at EP
        have e := NO.out (by
          rw [HP.out, HC1.out, HD1.out, part_bad c d _ (by rw [HC.out]; exact hq92) (by unfold sp; rw [HD2.out]; exact hs')]; rfl)
        obtain ⟨e1, e2, e3⟩ := e
        subst e1 e2 e3
        clear hs hs' hq92
        go_wp2_with (first
          | (go_at_call 121; refine (EP.out _).mono ?_; clear EP; rintro e wr ⟨rfl, rfl⟩))
        go_ret3
        exact ⟨rfl, BW.out⟩
    have g1 : ((q : Int) == 92) = false := by simp; omega
    by_cases hs : spn q = true
    · have e := YES.out acc ((bl s).drop k) (by
        have := at_cons HP.out (n := []) (r := (bl s).drop k) (by rw [HC1.out]; exact part_stop _ _ (by rw [HC.out]; exact hq92) (by unfold sp; rw [HC.out]; exact hs))
        rwa [List.append_nil] at this)
      obtain ⟨e1, e2, e3⟩ := e
      have ST := Lib.hid (bd_string HD.out HBr.out)
      rw [← e1] at ST
      have sl := SL.out k (Nat.le_of_lt hkn)
      rw [← e2] at sl
      have STq := Lib.hid (bd_string (w := wr.drew) HD.out HBr.out)
      rw [← e1] at STq
      subst e3
      rw [hs] at EB1
      clear e1 e2 hq92 hs ST
      go_wp2_with (first
        | (go_at_call 121; refine (EB1.out _).mono ?_; clear EB1; rintro e wr ⟨rfl, rfl⟩))
      go_region_with (go_at_call 80; refine STq.out.mono ?_; rintro e w4 ⟨rfl, _, b4⟩; have B4 := Lib.hid b4; clear b4)
      all_goals
        go_wp2_with fail
        go_ret3
        exact ⟨rfl, BW.out.trans (show Below b wr _ from ⟨B4.out.os, B4.out.tape, B4.out.output, B4.out.size, B4.out.block⟩)⟩
    · have hs' : spn q = false := by simpa using hs
      rw [hs'] at EB1
      have W1 := Lib.hid (show Calls Tryz.prog 79 #[.pointer (some ⟨b, 0, none⟩), .int .u8 (q : Nat)] wr _ from HC.out ▸ bd_write HD.out c LA.out HBr.out)
      have PN := Lib.hid (show prt (bl s) = (prt ((bl s).drop (k + 1))).map fun x => ((acc ++ [c]) ++ x.1, x.2) by
        rw [HP.out, HC1.out, part_plain c _ (by unfold sp; rw [HC.out]; exact hs'), Option.map_map]
        congr 1
        funext x
        simp)
      clear hs hs' hq92
      go_wp2_with (first
        | (go_at_call 121; refine (EB1.out _).mono ?_; clear EB1; rintro e wr ⟨rfl, rfl⟩)
        | (go_at_call 79; refine W1.out.mono ?_; clear W1; rintro e w2 ⟨rfl, d1, b1, _⟩; have D1 := Lib.hid d1; have B1 := Lib.hid b1; clear d1 b1))
      go_roundw
      case rel => exact ⟨k + 1, acc ++ [c], by omega, by go_num, Lib.hid (by have := HAL.out; simp; exact this), PN, D1, Lib.hid (BW.out.trans B1.out)⟩
      case measure => simp [intOf]; omega
end Sj
end Go.Proofs.YtbnicnhkakbglaaGreatDoor

/- What is laid, read: plain readings of tables. -/
namespace Go.Proofs.YtbnicnhkakbglaaGreatDoor
open Go.ChangeShapes Go.WideShapes Go.Deep Go.RowKit
namespace Mc

section
variable {P : Program} {W : World} {enc : TypeId × Value → Unit} {sp : Nat → Bool}
theorem lit_int {held : Bool} {n : Nat} {e : TypeId} {k k' : IntKind} {z : Int} {v : Value} {q : List MemPlace} (ht : P.underlying e = some (.int k)) (h : DataW.trod enc P W 0 sp held n e [v] = some (.lit (.int k' z), q)) : v = .int k z := by
  cases n with
  | zero => simp [DataW.trod] at h
  | succ n =>
    unfold DataW.trod at h
    rw [ht] at h
    split at h <;> simp_all
theorem lit_float {held : Bool} {n : Nat} {e : TypeId} {k k' : FloatKind} {z : Nat} {v : Value} {q : List MemPlace} (ht : P.underlying e = some (.float k)) (h : DataW.trod enc P W 0 sp held n e [v] = some (.lit (.float k' z), q)) : v = .float k z := by
  cases n with
  | zero => simp [DataW.trod] at h
  | succ n =>
    unfold DataW.trod at h
    rw [ht] at h
    split at h <;> simp_all
theorem lit_bool {held : Bool} {n : Nat} {e : TypeId} {z : Bool} {v : Value} {q : List MemPlace} (ht : P.underlying e = some .bool) (h : DataW.trod enc P W 0 sp held n e [v] = some (.lit (.bool z), q)) : v = .bool z := by
  cases n with
  | zero => simp [DataW.trod] at h
  | succ n =>
    unfold DataW.trod at h
    rw [ht] at h
    split at h <;> simp_all
theorem lit_string {held : Bool} {n : Nat} {e : TypeId} {z : List UInt8} {v : Value} {q : List MemPlace} (ht : P.underlying e = some .string) (h : DataW.trod enc P W 0 sp held n e [v] = some (.lit (.string z), q)) : v = .string ⟨z.toArray⟩ := by
  cases n with
  | zero => simp [DataW.trod] at h
  | succ n =>
    unfold DataW.trod at h
    rw [ht] at h
    split at h <;> simp_all
    obtain ⟨_, h1, _⟩ := h
    rw [← h1]
theorem lit_iface {n : Nat} {e : TypeId} {ms} {nm : String} {d : DataW Unit} {cs : List Value} {q : List MemPlace} (ht : P.underlying e = some (.interface ms)) (h : DataW.trod enc P W 0 sp false n e cs = some (.iface nm d, q)) : ∃ u v, cs = [.iface u v] := by
  cases n with
  | zero => simp [DataW.trod] at h
  | succ n =>
    unfold DataW.trod at h
    rw [ht] at h
    split at h <;> simp_all
/-- A slice that is laid, its elements of one size. -/
theorem slice_of {fuel : Nat} {t e : TypeId} {k : Nat} {cs : List Value} {l : List (DataW Unit)} {p : List MemPlace} (ht : P.underlying t = some (.slice e)) (hk : P.cellsOf e = k) (hk0 : 0 < k) (hl : 0 < l.length)
    (h : DataW.trod enc P W 0 (fun _ => true) false fuel t cs = some (.slice l [], p)) :
    ∃ tb ob, cs = [.slice (some ⟨tb, ob, none⟩) l.length l.length] ∧ ∀ i d, l[i]? = some d → ∃ cs' n q, cs'.length = k ∧ (∀ j, j < k → W.cell? ⟨tb, ob + i * k + j, none⟩ = cs'[j]?) ∧ DataW.trod enc P W 0 (fun _ => true) false n e cs' = some (d, q) := by
  rcases open_slice ht h with ⟨_, hx⟩ | ⟨a, len, cap, m, n, D, Pl, rfl, _, hlc, _, hm, hx, hi⟩
  · cases hx
  · injection hx with hx1 hx2
    injection hx1 with h1 h2
    have hm' : m = cap := by simpa using hm
    have hr : m - len = 0 := by
      have := congrArg List.length h2
      simp at this
      omega
    have hcl : cap = len := by omega
    have hll : l.length = len := by rw [h1]; simp
    rw [hk] at hi
    obtain ⟨b, off, spot⟩ := a
    have hspot : spot = none := by
      obtain ⟨cs', g1, _⟩ := hi 0 (by omega)
      obtain ⟨_, g3, g4⟩ := World.cells?_some g1
      have g5 := g4 0 hk0
      have hc0 : cs'[0]? = some (cs'[0]'(by omega)) := List.getElem?_eq_getElem (by omega)
      rw [hc0] at g5
      simpa [Addr.add] using World.cell?_spot g5
    subst hspot
    refine ⟨b, off, by rw [hll, hcl], fun i d hd => ?_⟩
    have hil : i < len := by rw [← hll]; exact (List.getElem?_eq_some_iff.1 hd).1
    obtain ⟨cs', g1, g2⟩ := hi i (by omega)
    obtain ⟨_, g3, g4⟩ := World.cells?_some g1
    refine ⟨cs', n, Pl i, g3, fun j hj => ?_, ?_⟩
    · have := g4 j hj
      have ea : ((⟨b, off, none⟩ : Addr).add (i * k)).add j = ⟨b, off + i * k + j, none⟩ := by
        unfold Addr.add
        split <;> split <;> simp_all
      rw [ea] at this
      exact this
    · rw [g2]
      have hd2 : D i = d := by
        rw [h1, List.getElem?_map, List.getElem?_range hil] at hd
        simpa using hd
      rw [hd2]
theorem bool_one {held : Bool} {n : Nat} {e : TypeId} {z : Bool} {cs : List Value} {q : List MemPlace} (h : DataW.trod enc P W 0 sp held n e cs = some (.lit (.bool z), q)) : ∃ v, cs = [v] := by
  cases n with
  | zero => simp [DataW.trod] at h
  | succ n =>
    unfold DataW.trod at h
    split at h <;> simp_all
    all_goals (first | (split at h <;> simp_all) | skip)
end
end Mc
end Go.Proofs.YtbnicnhkakbglaaGreatDoor

/- Texts of floats, and what reading one tells: plain mathematics. -/
namespace Go.Proofs.YtbnicnhkakbglaaGreatDoor
namespace Rm

/-- What has been read of the digits. -/
structure Rs where
  dot : Bool
  sd : Bool
  nd : Nat
  nm : Nat
  dp : Int
  m : Nat
  tr : Bool
def zero : Rs := ⟨false, false, 0, 0, 0, 0, false⟩
def rstep (s : Rs) (c : Nat) : Rs :=
  if c = 46 then { s with dot := true, dp := (s.nd : Int) }
  else if c = 48 ∧ s.nd = 0 then { s with sd := true, dp := s.dp - 1 }
  else if s.nm < 19 then { s with sd := true, nd := s.nd + 1, nm := s.nm + 1, m := s.m * 10 + (c - 48) }
  else { s with sd := true, nd := s.nd + 1, tr := s.tr || decide (c ≠ 48) }
def rst (l : List Nat) : Rs := l.foldl rstep zero
theorem take_snoc (l : List Nat) (k : Nat) (h : k < l.length) : l.take (k + 1) = l.take k ++ [l.getD k 0] := by
  rw [List.take_add_one, List.getElem?_eq_getElem h, List.getD_eq_getElem?_getD, List.getElem?_eq_getElem h]
  rfl
theorem rst_succ (l : List Nat) (k : Nat) (h : k < l.length) : rst (l.take (k + 1)) = rstep (rst (l.take k)) (l.getD k 0) := by
  rw [take_snoc l k h]
  unfold rst
  rw [List.foldl_append]
  rfl
theorem rst_zero (l : List Nat) : rst (l.take 0) = zero := rfl

def Dig (c : Nat) : Prop := 48 ≤ c ∧ c ≤ 57
def Digits (l : List Nat) : Prop := l ≠ [] ∧ ∀ c ∈ l, Dig c
def Mantissa (l : List Nat) : Prop := Digits l ∨ ∃ a b, l = a ++ 46 :: b ∧ Digits a ∧ Digits b
def Expo (l : List Nat) : Prop := l = [] ∨ ∃ c s d, l = c :: (s ++ d) ∧ (c = 69 ∨ c = 101) ∧ (s = [] ∨ s = [43] ∨ s = [45]) ∧ Digits d
def FloatText (bs sg mn ex : List Nat) : Prop := bs = sg ++ (mn ++ ex) ∧ (sg = [] ∨ sg = [45]) ∧ Mantissa mn ∧ Expo ex

theorem mem_get {l : List Nat} {k : Nat} (h : k < l.length) : l.getD k 0 ∈ l := by
  rw [List.getD_eq_getElem?_getD, List.getElem?_eq_getElem h]
  exact List.getElem_mem h
theorem mant_char {l : List Nat} (h : Mantissa l) (k : Nat) (hk : k < l.length) : Dig (l.getD k 0) ∨ l.getD k 0 = 46 := by
  have hm := mem_get hk
  rcases h with h | ⟨a, b, e, ha, hb⟩
  · exact .inl (h.2 _ hm)
  · rw [e] at hm
    rw [e]
    rcases List.mem_append.1 hm with h1 | h1
    · exact .inl (ha.2 _ h1)
    · rcases List.mem_cons.1 h1 with h2 | h2
      · exact .inr h2
      · exact .inl (hb.2 _ h2)
theorem step_inv {s : Rs} {c k : Nat} (hc : Dig c ∨ c = 46) (h : s.m < 10 ^ s.nm ∧ s.nm ≤ 19 ∧ s.nm ≤ s.nd ∧ s.nd ≤ k ∧ -(k : Int) ≤ s.dp ∧ s.dp ≤ (k : Int)) :
    (rstep s c).m < 10 ^ (rstep s c).nm ∧ (rstep s c).nm ≤ 19 ∧ (rstep s c).nm ≤ (rstep s c).nd ∧ (rstep s c).nd ≤ k + 1 ∧ -((k + 1 : Nat) : Int) ≤ (rstep s c).dp ∧ (rstep s c).dp ≤ ((k + 1 : Nat) : Int) := by
  obtain ⟨h1, h2, h3, h4, h5, h6⟩ := h
  unfold rstep
  split
  · exact ⟨h1, h2, h3, by dsimp only; omega, by dsimp only; omega, by dsimp only; omega⟩
  · split
    · exact ⟨h1, h2, h3, by dsimp only; omega, by dsimp only; omega, by dsimp only; omega⟩
    · split
      · refine ⟨?_, by dsimp only; omega, by dsimp only; omega, by dsimp only; omega, by dsimp only; omega, by dsimp only; omega⟩
        dsimp only
        rw [Nat.pow_succ]
        rcases hc with hc | hc
        · have := hc.2; have := hc.1; omega
        · omega
      · exact ⟨h1, h2, by dsimp only; omega, by dsimp only; omega, by dsimp only; omega, by dsimp only; omega⟩
theorem rst_inv {l : List Nat} (hl : Mantissa l) (k : Nat) (hk : k ≤ l.length) :
    (rst (l.take k)).m < 10 ^ (rst (l.take k)).nm ∧ (rst (l.take k)).nm ≤ 19 ∧ (rst (l.take k)).nm ≤ (rst (l.take k)).nd ∧ (rst (l.take k)).nd ≤ k ∧ -(k : Int) ≤ (rst (l.take k)).dp ∧ (rst (l.take k)).dp ≤ (k : Int) := by
  induction k with
  | zero => simp [rst, zero]
  | succ k ih =>
    rw [rst_succ l k (by omega)]
    exact step_inv (mant_char hl k (by omega)) (ih (by omega))
theorem no_dot {l : List Nat} (h : ∀ c ∈ l, Dig c) (s : Rs) (hs : s.dot = false) : (l.foldl rstep s).dot = false := by
  induction l generalizing s with
  | nil => exact hs
  | cons c r ih =>
    refine ih (fun x hx => h x (List.mem_cons_of_mem _ hx)) _ ?_
    have hc := h c (List.mem_cons_self ..)
    unfold rstep
    rw [if_neg (by have := hc.1; omega)]
    split
    · exact hs
    · split
      · exact hs
      · exact hs
theorem dot_once {l : List Nat} (h : Mantissa l) (k : Nat) (hk : k < l.length) (h46 : l.getD k 0 = 46) : (rst (l.take k)).dot = false := by
  rcases h with h | ⟨a, b, e, ha, hb⟩
  · have := (h.2 _ (mem_get hk)).2
    have := (h.2 _ (mem_get hk)).1
    omega
  · subst e
    have hka : k ≤ a.length := by
      by_cases hka : k ≤ a.length
      · exact hka
      · exfalso
        have e1 : (a ++ 46 :: b).getD k 0 = b.getD (k - a.length - 1) 0 := by
          rw [List.getD_eq_getElem?_getD, List.getD_eq_getElem?_getD, List.getElem?_append_right (by omega), show k - a.length = (k - a.length - 1) + 1 from by omega, List.getElem?_cons_succ]
          rfl
        simp only [List.length_append, List.length_cons] at hk
        have := hb.2 _ (mem_get (k := k - a.length - 1) (by omega))
        rw [← e1, h46] at this
        have := this.1
        omega
    rw [List.take_append_of_le_length hka]
    exact no_dot (fun c hc => ha.2 c (List.mem_of_mem_take hc)) zero rfl
theorem sd_keep (l : List Nat) (s : Rs) (hs : s.sd = true) : (l.foldl rstep s).sd = true := by
  induction l generalizing s with
  | nil => exact hs
  | cons c r ih =>
    refine ih _ ?_
    unfold rstep
    split
    · exact hs
    · split
      · rfl
      · split <;> rfl
theorem sd_true {l : List Nat} (h : Mantissa l) : (rst l).sd = true := by
  have first : ∀ c r, Dig c → (rst (c :: r)).sd = true := fun c r hc => by
    refine sd_keep r _ ?_
    unfold rstep
    rw [if_neg (by have := hc.1; omega)]
    split
    · rfl
    · split <;> rfl
  rcases h with h | ⟨a, b, rfl, ha, hb⟩
  · cases l with
    | nil => exact absurd rfl h.1
    | cons c r => exact first c r (h.2 c (List.mem_cons_self ..))
  · cases a with
    | nil => exact absurd rfl ha.1
    | cons c r => exact first c _ (ha.2 c (List.mem_cons_self ..))

def estep (e c : Nat) : Nat := if e < 10000 then e * 10 + (c - 48) else e
def est (l : List Nat) : Nat := l.foldl estep 0
theorem est_succ (l : List Nat) (k : Nat) (h : k < l.length) : est (l.take (k + 1)) = estep (est (l.take k)) (l.getD k 0) := by
  rw [take_snoc l k h]
  unfold est
  rw [List.foldl_append]
  rfl
theorem est_le {l : List Nat} (h : ∀ c ∈ l, Dig c) (k : Nat) (hk : k ≤ l.length) : est (l.take k) ≤ 99999 := by
  induction k with
  | zero => simp [est]
  | succ k ih =>
    rw [est_succ l k (by omega)]
    have := ih (by omega)
    have hc := (h _ (mem_get (l := l) (k := k) (by omega))).2
    unfold estep
    split <;> omega

/-- The exponent that is written. -/
def expOf (ex : List Nat) : Int :=
  match ex with
  | [] => 0
  | _ :: 45 :: d => -(est d : Int)
  | _ :: 43 :: d => (est d : Int)
  | _ :: d => (est d : Int)
/-- What readFloat tells of a text. -/
def mantOf (mn : List Nat) : Nat := (rst mn).m
def dpOf (mn : List Nat) : Int := if (rst mn).dot then (rst mn).dp else ((rst mn).nd : Int)
def powOf (mn ex : List Nat) : Int := if mantOf mn ≠ 0 then dpOf mn + expOf ex - ((rst mn).nm : Int) else 0
def truncOf (mn : List Nat) : Bool := (rst mn).tr
end Rm
end Go.Proofs.YtbnicnhkakbglaaGreatDoor

/- The form of a float, by lists: plain mathematics. -/
namespace Go.Proofs.YtbnicnhkakbglaaGreatDoor
namespace Fm
open Rm

/-- How many digits a list begins with. -/
def lead : List Nat → Nat
  | [] => 0
  | c :: r => if 48 ≤ c ∧ c ≤ 57 then lead r + 1 else 0
theorem lead_le : ∀ l, lead l ≤ l.length
  | [] => Nat.le_refl _
  | c :: r => by
    unfold lead
    split
    · have := lead_le r; simp; omega
    · omega
theorem lead_dig : ∀ (l : List Nat) (k : Nat), k < lead l → Dig (l.getD k 0)
  | [], k, h => by cases h
  | c :: r, k, h => by
    unfold lead at h
    split at h
    · rename_i hc
      cases k with
      | zero => exact hc
      | succ k => rw [List.getD_cons_succ]; exact lead_dig r k (by omega)
    · cases h
theorem lead_stop : ∀ (l : List Nat), lead l < l.length → ¬ (48 ≤ l.getD (lead l) 0 ∧ l.getD (lead l) 0 ≤ 57)
  | [], h => by cases h
  | c :: r, h => by
    unfold lead at h ⊢
    split
    · rename_i hc
      rw [if_pos hc] at h
      rw [List.getD_cons_succ]
      exact lead_stop r (by simp at h; omega)
    · rename_i hc
      exact hc
theorem lead_take : ∀ (l : List Nat), ∀ c ∈ l.take (lead l), Dig c
  | [] => by intro c h; cases h
  | c :: r => by
    unfold lead
    split
    · rename_i hc
      intro x hx
      rw [List.take_succ_cons] at hx
      rcases List.mem_cons.1 hx with rfl | hx
      · exact hc
      · exact lead_take r x hx
    · intro x hx; cases hx
/-- Digits, some, and what is behind them. -/
def some1 (l : List Nat) : Option (List Nat) := if lead l = 0 then none else some (l.drop (lead l))
def sgl (l : List Nat) : List Nat := if l.head? = some 45 then l.tail else l
def pnt (l : List Nat) : Option (List Nat) := if l.head? = some 46 then some1 l.tail else some l
def sgx (l : List Nat) : List Nat := if l.head? = some 43 ∨ l.head? = some 45 then l.tail else l
def exq (l : List Nat) : Option (List Nat) := if l.head? = some 69 ∨ l.head? = some 101 then some1 (sgx l.tail) else some l
def fform (bs : List Nat) : Prop := ∃ a b, some1 (sgl bs) = some a ∧ pnt a = some b ∧ exq b = some []
theorem some1_digits {l r : List Nat} (h : some1 l = some r) : ∃ d, l = d ++ r ∧ Digits d := by
  unfold some1 at h
  split at h
  · cases h
  · rename_i h0
    injection h with h
    refine ⟨l.take (lead l), by rw [← h, List.take_append_drop], ?_, lead_take l⟩
    intro e
    have := congrArg List.length e
    rw [List.length_take, List.length_nil] at this
    have := lead_le l
    omega
theorem head_cons {l : List Nat} {c : Nat} (h : l.head? = some c) : l = c :: l.tail := by
  cases l with
  | nil => cases h
  | cons a r => simp at h; rw [h]; rfl
theorem fform_text {bs : List Nat} (h : fform bs) : ∃ sg mn ex, FloatText bs sg mn ex := by
  obtain ⟨a, b, h1, h2, h3⟩ := h
  obtain ⟨d1, e1, g1⟩ := some1_digits h1
  have hs : ∃ sg, bs = sg ++ sgl bs ∧ (sg = [] ∨ sg = [45]) := by
    unfold sgl
    split
    · rename_i h
      exact ⟨[45], head_cons h, .inr rfl⟩
    · exact ⟨[], rfl, .inl rfl⟩
  obtain ⟨sg, hs1, hs2⟩ := hs
  have hm : ∃ mn, sgl bs = mn ++ b ∧ Mantissa mn := by
    unfold pnt at h2
    split at h2
    · rename_i h
      obtain ⟨d2, e2, g2⟩ := some1_digits h2
      refine ⟨d1 ++ 46 :: d2, ?_, .inr ⟨d1, d2, rfl, g1, g2⟩⟩
      rw [e1, List.append_assoc, List.cons_append, ← e2, ← head_cons h]
    · injection h2 with h2
      exact ⟨d1, by rw [e1, h2], .inl g1⟩
  obtain ⟨mn, hm1, hm2⟩ := hm
  have hx : Expo b := by
    unfold exq at h3
    split at h3
    · rename_i h
      obtain ⟨d3, e3, g3⟩ := some1_digits h3
      rw [List.append_nil] at e3
      have hsx : ∃ s, b.tail = s ++ sgx b.tail ∧ (s = [] ∨ s = [43] ∨ s = [45]) := by
        unfold sgx
        split
        · rename_i h4
          rcases h4 with h4 | h4
          · exact ⟨[43], head_cons h4, .inr (.inl rfl)⟩
          · exact ⟨[45], head_cons h4, .inr (.inr rfl)⟩
        · exact ⟨[], rfl, .inl rfl⟩
      obtain ⟨s, hs, hs2⟩ := hsx
      rw [e3] at hs
      rcases h with h | h
      · exact .inr ⟨69, s, d3, by rw [← hs]; exact head_cons h, .inl rfl, hs2, g3⟩
      · exact .inr ⟨101, s, d3, by rw [← hs]; exact head_cons h, .inr rfl, hs2, g3⟩
    · injection h3 with h3
      exact .inl h3
  exact ⟨sg, mn, b, by rw [← hm1, ← hs1], hs2, hm2, hx⟩
end Fm
end Go.Proofs.YtbnicnhkakbglaaGreatDoor
