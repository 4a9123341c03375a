/- The disk's Append. -/
import Derived.Test.YtdaknlmnelfedaaGreatDoorJg
namespace Go.Proofs.YtdaknlmnelfedaaGreatDoor
open Go.RowKit Go.Maps Go.ChangeMaps Go.MapKept
namespace Jh
open Jb Jm Jd Jw Jx Jn Je Jf Jg

def Vw.free (v : Vw) : Nat := v.room - v.used
def old (v : Vw) (s : ByteArray) : List Nat × Nat := (v.F s).getD ([], 0)
def appE (v : Vw) (s : ByteArray) (l : Nat) : Nat := if v.down then 8 else if isNm s then (if v.lost then 8 else if Vw.free v < l then 7 else 0) else 1
def appN (v : Vw) (s : ByteArray) (l : Nat) : Nat := if v.down then 0 else if isNm s then (if v.lost then 0 else min l (Vw.free v)) else 0
def appV (v : Vw) (s : ByteArray) (bs : List Nat) : Vw :=
  if v.down then v else if isNm s then (if v.lost then v.op else
    { v.op with F := fun x => if x = s then some ((old v s).1 ++ bs.take (min bs.length (Vw.free v)), (old v s).2) else v.F x, used := v.used + min bs.length (Vw.free v) }) else v

def offV (v : Vw) (s : ByteArray) : Vw := if v.down then v else if isNm s then v.op else v
/-- An append to a slice of one's own, as one step of a region that draws. -/
theorem step_append {P : Program} {ops : Array Oper} {o : Oper} {a : Act} {w : World} {K : Act → World → Prop} {Q : Exit → Act → World → Prop} {E : Prop}
    (hg : o.guard = none) (s x : Operand) (t : TypeId) (hop : o.op = Op.call { callee := Callee.builtin Builtin.append, args := #[s, x], argTypes := #[t, t] })
    (v y : Value) (hs : a.eval s = v) (hx : a.eval x = y) (R : Value → World → Prop) (hrun : ∀ ty, ∃ v' w', (Builtin.append_ #[t, t] ty #[v, y]).run P w = .ok v' w' ∧ R v' w')
    (hK : ∀ v' w', R v' w' → K (a.put o.dst v') w') :
    if Region.wanted o (yielded ops a.tmps) = true then Oper.wp P o a w K Q else E := by
  have hw : Region.wanted o (yielded ops a.tmps) = true := by simp [Region.wanted, hg]
  rw [if_pos hw]
  obtain ⟨v', w', hr, r1⟩ := hrun o.type
  unfold Oper.wp
  simp [execOp, hop, resolve, invoke, builtin, hs, hx, hr, Result.andThen]
  exact hK v' w' r1

/-- The first n bytes of a source, appended to what a file owns. -/
theorem run_append (w : World) (v : Value) (xs : List Nat) (hown : w.ownsRow 0 5 1 v xs.length (u8s xs)) (R : Nat → Prop) (ad : Option Addr) (c : Nat) (bs : List Nat) (hsrc : Src w R (.slice ad bs.length c) bs) (n : Nat) (hn : n ≤ bs.length)
    (hnil : ad = none → c = 0) (hb : xs.length + n ≤ 140737488355328) (ty : TypeId) :
    ∃ v' w', (Builtin.append_ #[36, 36] ty #[v, .slice ad n c]).run Tryz.prog w = .ok v' w' ∧ w'.ownsRow 0 5 1 v' (xs.length + (bs.take n).length) (u8s (xs ++ bs.take n)) ∧ w.grownBy w' v.ownBlock ∧ (v'.ownBlock = v.ownBlock ∨ v'.ownBlock = some w.heap.size) := by
  obtain ⟨i0, hi, hz0, hz1, hz2⟩ := info_parts info5
  have hl : (bs.take n).length = n := by rw [List.length_take]; omega
  rw [hl, u8s_app]
  cases ad with
  | none =>
    have hc := hnil rfl
    rcases hsrc with ⟨rfl, _⟩ | ⟨h0, b, off, c', e, _⟩
    · obtain rfl : n = 0 := by simpa using hn
      subst hc
      have hrun := run_append_owned_none (P := Tryz.prog) (w := w) 0 36 ty 5 i0 1 Tryz.underlying36 hi v _ _ hown
      exact ⟨v, w, hrun, by simpa [u8s] using hown, World.grownBy.refl _ _, .inl rfl⟩
    · cases e
  | some a =>
    have hcell : ∀ j u, (u8s (bs.take n))[j]? = some u → w.cell? (a.add j) = some u := by
      intro j u hj
      have hjn : j < n := by have := (List.getElem?_eq_some_iff.1 hj).1; simpa [u8s_len, hl] using this
      rcases hsrc with ⟨rfl, _⟩ | ⟨h0, b, off, c', e, _, _, hcc⟩
      · simp at hn; omega
      · cases e
        have e1 : (Addr.add ⟨b, off, none⟩ j) = ⟨b, off + j, none⟩ := by by_cases hi0 : j = 0 <;> simp [Addr.add, hi0]
        rw [e1, hcc j (by omega)]
        rw [← hj, u8s_get _ _ (by omega)]
        simp [g, List.getD_eq_getElem?_getD, hjn]
    obtain ⟨v', w', hrun, r1, r2, _, r4⟩ := run_append_own_at (P := Tryz.prog) w 0 36 ty 5 i0 (.int .u8 0) 1 1 Tryz.underlying36 hi hz0 hz1 hz2 rfl (by decide) v _ _ hown a n c (u8s (bs.take n)) (by rw [u8s_len, hl, Nat.mul_one]) hcell (u8s_one _) (by unfold maxLen; omega) (by omega) (Nat.zero_le _)
    exact ⟨v', w', hrun, r1, r2, r4⟩
theorem append_nil (w : World) (s : ByteArray) (v : Value) : Calls Tryz.prog 48 #[.pointer none, .string s, v] w fun e w' => e = .returned (.tuple #[.int .i64 0, .int .i64 8]) ∧ w' = w := by
  go_enter Tryz.func48, Tryz.ntmps48
  go_wp2_with (go_at_call 12; refine (down24_nil _).mono ?_; rintro e w' ⟨rfl, rfl⟩)
  refine bodyPost_ret (v := .tuple #[.int .i64 0, .int .i64 8]) (by simp [results, Tryz.results48, go_sem]) rfl ⟨rfl, rfl⟩
set_option maxRecDepth 100000 in
theorem append_off (w : World) (S : Nat → Prop) (g N : Nat) (d : St) (h : Dk w S g N d) (s : ByteArray) (hs : s.size ≤ 140737488355328) (v : Value) (l : Nat) (hoff : d.down = true ∨ isNm s = false ∨ (vw d).lost = true) :
    Calls Tryz.prog 48 #[.pointer (some ⟨g, 0, none⟩), .string s, v] w fun e w' => e = .returned (.tuple #[.int .i64 0, .int .i64 (appE (vw d) s l : Nat)]) ∧ ∃ d', vw d' = offV (vw d) s ∧ Dk w' S g N d' ∧ Chg w w' S := by
  have D := Lib.hid (down24 w g d h.cs)
  have I := Lib.hid (isName39 w s hs)
  have O := Lib.hid (operate40 w g d h.cs)
  have HH := Lib.hid h
  by_cases hd : d.down = true
  · have e1 : appE (vw d) s l = 8 := if_pos hd
    rw [e1]
    rw [hd] at D
    have fin : ∃ d', vw d' = offV (vw d) s ∧ Dk w S g N d' ∧ Chg w w S := ⟨d, by unfold offV; rw [if_pos (show (vw d).down = true from hd)], h, Chg.refl _ _⟩
    have FIN := Lib.hid fin
    clear hoff h fin hd e1 hs
    go_enter Tryz.func48, Tryz.ntmps48
    go_wp2_with (go_at_call 12; refine (D.out).mono ?_; rintro e w' ⟨rfl, rfl⟩)
    refine bodyPost_ret (v := .tuple #[.int .i64 0, .int .i64 8]) (by simp [results, Tryz.results48, go_sem]) rfl ⟨rfl, FIN.out⟩
  have hd' : d.down = false := by simpa using hd
  rw [hd'] at D
  by_cases hn : isNm s = true
  · have hlost : (vw d).lost = true := by rcases hoff with e | e | e; exact absurd e hd; rw [hn] at e; cases e; exact e
    have e1 : appE (vw d) s l = 8 := by unfold appE; rw [if_neg (by simp [vw, hd']), if_pos hn, if_pos hlost]
    have e2 : opE d = 8 := by rw [opE_eq, if_pos hlost]
    rw [e1]
    rw [e2] at O
    rw [hn] at I
    have fin : ∀ w', Cs w' g (opD d) → Chg w w' (fun k => k = g) → ∃ d', vw d' = offV (vw d) s ∧ Dk w' S g N d' ∧ Chg w w' S := fun w' c1 c2 =>
      ⟨opD d, by unfold offV; rw [if_neg (show ¬ (vw d).down = true from hd), if_pos hn, vw_op], h.nums c2 c1 (opD_fv d) (opD_F d), c2.imp fun k hk _ => hk ▸ h.sg⟩
    have FIN := Lib.hid fin
    clear hoff h fin hd hd' hn hlost e1 e2 hs
    go_enter Tryz.func48, Tryz.ntmps48
    go_wp2_with (first | (go_at_call 12; refine (D.out).mono ?_; rintro e w' ⟨rfl, rfl⟩) | (go_at_call 62; refine (I.out).mono ?_; rintro e w' ⟨rfl, rfl⟩) | (go_at_call 63; refine (O.out).mono ?_; rintro e w' ⟨rfl, k1, k2⟩))
    refine bodyPost_ret (v := .tuple #[.int .i64 0, .int .i64 8]) (by simp [results, Tryz.results48, go_sem]) rfl ⟨rfl, FIN.out _ k1 k2⟩
  · have hn' : isNm s = false := by simpa using hn
    have e1 : appE (vw d) s l = 1 := by unfold appE; rw [if_neg (by simp [vw, hd']), if_neg hn]
    rw [e1]
    rw [hn'] at I
    have fin : ∃ d', vw d' = offV (vw d) s ∧ Dk w S g N d' ∧ Chg w w S := ⟨d, by unfold offV; rw [if_neg (show ¬ (vw d).down = true from hd), if_neg hn], h, Chg.refl _ _⟩
    have FIN := Lib.hid fin
    clear hoff h fin hd hd' hn hn' e1 hs
    go_enter Tryz.func48, Tryz.ntmps48
    go_wp2_with (first | (go_at_call 12; refine (D.out).mono ?_; rintro e w' ⟨rfl, rfl⟩) | (go_at_call 62; refine (I.out).mono ?_; rintro e w' ⟨rfl, rfl⟩))
    refine bodyPost_ret (v := .tuple #[.int .i64 0, .int .i64 1]) (by simp [results, Tryz.results48, go_sem]) rfl ⟨rfl, FIN.out⟩
end Jh
end Go.Proofs.YtdaknlmnelfedaaGreatDoor
