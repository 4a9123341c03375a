import Derived.Test.YtcjfdebjgaohlaaG03
import Derived.Deep.RegionLaw

/- The disk's Append. -/
namespace Go.Proofs.Ytcjfdebjgaohlaa
open Go.RowKit Go.Maps Go.ChangeMaps Go.MapKept
namespace Jh
open Jb Jm Jd Jw Jx Jn Je Jf Jg

def Vw.free (v : Vw) : Nat := v.room - v.used
def old (v : Vw) (s : ByteArray) : List Nat × Nat := (v.F s).getD ([], 0)
def appE (v : Vw) (s : ByteArray) (l : Nat) : Nat := if v.down then 8 else if isNm s then (if v.lost then 8 else if Vw.free v < l then 7 else 0) else 1
def appN (v : Vw) (s : ByteArray) (l : Nat) : Nat := if v.down then 0 else if isNm s then (if v.lost then 0 else min l (Vw.free v)) else 0
def appV (v : Vw) (s : ByteArray) (bs : List Nat) : Vw :=
  if v.down then v else if isNm s then (if v.lost then v.op else
    { v.op with F := fun x => if x = s then some ((old v s).1 ++ bs.take (min bs.length (Vw.free v)), (old v s).2) else v.F x, used := v.used + min bs.length (Vw.free v) }) else v

def offV (v : Vw) (s : ByteArray) : Vw := if v.down then v else if isNm s then v.op else v
/-- An append to a slice of one's own, as one step of a region that draws. -/
theorem step_append {P : Program} {ops : Array Oper} {o : Oper} {a : Act} {w : World} {K : Act → World → Prop} {Q : Exit → Act → World → Prop} {E : Prop}
    (hg : o.guard = none) (s x : Operand) (t : TypeId) (hop : o.op = Op.call { callee := Callee.builtin Builtin.append, args := #[s, x], argTypes := #[t, t] })
    (v y : Value) (hs : a.eval s = v) (hx : a.eval x = y) (R : Value → World → Prop) (hrun : ∀ ty, ∃ v' w', (Builtin.append_ #[t, t] ty #[v, y]).run P w = .ok v' w' ∧ R v' w')
    (hK : ∀ v' w', R v' w' → K (a.put o.dst v') w') :
    if Region.wanted o (yielded ops a.tmps) = true then Oper.wp P o a w K Q else E := by
  have hw : Region.wanted o (yielded ops a.tmps) = true := by simp [Region.wanted, hg]
  rw [if_pos hw]
  obtain ⟨v', w', hr, r1⟩ := hrun o.type
  unfold Oper.wp
  simp [execOp, hop, resolve, invoke, builtin, hs, hx, hr, Result.andThen]
  exact hK v' w' r1

/-- The first n bytes of a source, appended to what a file owns. -/
theorem run_append (w : World) (v : Value) (xs : List Nat) (hown : w.ownsRow 0 5 1 v xs.length (u8s xs)) (R : Nat → Prop) (ad : Option Addr) (c : Nat) (bs : List Nat) (hsrc : Src w R (.slice ad bs.length c) bs) (n : Nat) (hn : n ≤ bs.length)
    (hnil : ad = none → c = 0) (hb : xs.length + n ≤ 140737488355328) (ty : TypeId) :
    ∃ v' w', (Builtin.append_ #[29, 29] ty #[v, .slice ad n c]).run Try.prog w = .ok v' w' ∧ w'.ownsRow 0 5 1 v' (xs.length + (bs.take n).length) (u8s (xs ++ bs.take n)) ∧ w.grownBy w' v.ownBlock ∧ (v'.ownBlock = v.ownBlock ∨ v'.ownBlock = some w.heap.size) := by
  obtain ⟨i0, hi, hz0, hz1, hz2⟩ := info_parts info5
  have hl : (bs.take n).length = n := by rw [List.length_take]; omega
  rw [hl, u8s_app]
  cases ad with
  | none =>
    have hc := hnil rfl
    rcases hsrc with ⟨rfl, _⟩ | ⟨h0, b, off, c', e, _⟩
    · obtain rfl : n = 0 := by simpa using hn
      subst hc
      have hrun := run_append_owned_none (P := Try.prog) (w := w) 0 29 ty 5 i0 1 Try.underlying29 hi v _ _ hown
      exact ⟨v, w, hrun, by simpa [u8s] using hown, World.grownBy.refl _ _, .inl rfl⟩
    · cases e
  | some a =>
    have hcell : ∀ j u, (u8s (bs.take n))[j]? = some u → w.cell? (a.add j) = some u := by
      intro j u hj
      have hjn : j < n := by have := (List.getElem?_eq_some_iff.1 hj).1; simpa [u8s_len, hl] using this
      rcases hsrc with ⟨rfl, _⟩ | ⟨h0, b, off, c', e, _, _, hcc⟩
      · simp at hn; omega
      · cases e
        have e1 : (Addr.add ⟨b, off, none⟩ j) = ⟨b, off + j, none⟩ := by by_cases hi0 : j = 0 <;> simp [Addr.add, hi0]
        rw [e1, hcc j (by omega)]
        rw [← hj, u8s_get _ _ (by omega)]
        simp [g, List.getD_eq_getElem?_getD, hjn]
    obtain ⟨v', w', hrun, r1, r2, _, r4⟩ := run_append_own_at (P := Try.prog) w 0 29 ty 5 i0 (.int .u8 0) 1 1 Try.underlying29 hi hz0 hz1 hz2 rfl (by decide) v _ _ hown a n c (u8s (bs.take n)) (by rw [u8s_len, hl, Nat.mul_one]) hcell (u8s_one _) (by unfold maxLen; omega) (by omega) (Nat.zero_le _)
    exact ⟨v', w', hrun, r1, r2, r4⟩
theorem append_nil (w : World) (s : ByteArray) (v : Value) : Calls Try.prog 9 #[.pointer none, .string s, v] w fun e w' => e = .returned (.tuple #[.int .i64 0, .int .i64 8]) ∧ w' = w := by
  go_enter Try.func9, Try.ntmps9
  go_wp2_with (go_at_call 29; refine (down24_nil _).mono ?_; rintro e w' ⟨rfl, rfl⟩)
  refine bodyPost_ret (v := .tuple #[.int .i64 0, .int .i64 8]) (by simp [results, Try.results9, go_sem]) rfl ⟨rfl, rfl⟩
set_option maxRecDepth 100000 in
theorem append_off (w : World) (S : Nat → Prop) (g N : Nat) (d : St) (h : Dk w S g N d) (s : ByteArray) (hs : s.size ≤ 140737488355328) (v : Value) (l : Nat) (hoff : d.down = true ∨ isNm s = false ∨ (vw d).lost = true) :
    Calls Try.prog 9 #[.pointer (some ⟨g, 0, none⟩), .string s, v] w fun e w' => e = .returned (.tuple #[.int .i64 0, .int .i64 (appE (vw d) s l : Nat)]) ∧ ∃ d', vw d' = offV (vw d) s ∧ Dk w' S g N d' ∧ Chg w w' S := by
  have D := Lib.hid (down24 w g d h.cs)
  have I := Lib.hid (isName39 w s hs)
  have O := Lib.hid (operate40 w g d h.cs)
  have HH := Lib.hid h
  by_cases hd : d.down = true
  · have e1 : appE (vw d) s l = 8 := if_pos hd
    rw [e1]
    rw [hd] at D
    have fin : ∃ d', vw d' = offV (vw d) s ∧ Dk w S g N d' ∧ Chg w w S := ⟨d, by unfold offV; rw [if_pos (show (vw d).down = true from hd)], h, Chg.refl _ _⟩
    have FIN := Lib.hid fin
    clear hoff h fin hd e1 hs
    go_enter Try.func9, Try.ntmps9
    go_wp2_with (go_at_call 29; refine (D.out).mono ?_; rintro e w' ⟨rfl, rfl⟩)
    refine bodyPost_ret (v := .tuple #[.int .i64 0, .int .i64 8]) (by simp [results, Try.results9, go_sem]) rfl ⟨rfl, FIN.out⟩
  have hd' : d.down = false := by simpa using hd
  rw [hd'] at D
  by_cases hn : isNm s = true
  · have hlost : (vw d).lost = true := by rcases hoff with e | e | e; exact absurd e hd; rw [hn] at e; cases e; exact e
    have e1 : appE (vw d) s l = 8 := by unfold appE; rw [if_neg (by simp [vw, hd']), if_pos hn, if_pos hlost]
    have e2 : opE d = 8 := by rw [opE_eq, if_pos hlost]
    rw [e1]
    rw [e2] at O
    rw [hn] at I
    have fin : ∀ w', Cs w' g (opD d) → Chg w w' (fun k => k = g) → ∃ d', vw d' = offV (vw d) s ∧ Dk w' S g N d' ∧ Chg w w' S := fun w' c1 c2 =>
      ⟨opD d, by unfold offV; rw [if_neg (show ¬ (vw d).down = true from hd), if_pos hn, vw_op], h.nums c2 c1 (opD_fv d) (opD_F d), c2.imp fun k hk _ => hk ▸ h.sg⟩
    have FIN := Lib.hid fin
    clear hoff h fin hd hd' hn hlost e1 e2 hs
    go_enter Try.func9, Try.ntmps9
    go_wp2_with (first | (go_at_call 29; refine (D.out).mono ?_; rintro e w' ⟨rfl, rfl⟩) | (go_at_call 34; refine (I.out).mono ?_; rintro e w' ⟨rfl, rfl⟩) | (go_at_call 35; refine (O.out).mono ?_; rintro e w' ⟨rfl, k1, k2⟩))
    refine bodyPost_ret (v := .tuple #[.int .i64 0, .int .i64 8]) (by simp [results, Try.results9, go_sem]) rfl ⟨rfl, FIN.out _ k1 k2⟩
  · have hn' : isNm s = false := by simpa using hn
    have e1 : appE (vw d) s l = 1 := by unfold appE; rw [if_neg (by simp [vw, hd']), if_neg hn]
    rw [e1]
    rw [hn'] at I
    have fin : ∃ d', vw d' = offV (vw d) s ∧ Dk w S g N d' ∧ Chg w w S := ⟨d, by unfold offV; rw [if_neg (show ¬ (vw d).down = true from hd), if_neg hn], h, Chg.refl _ _⟩
    have FIN := Lib.hid fin
    clear hoff h fin hd hd' hn hn' e1 hs
    go_enter Try.func9, Try.ntmps9
    go_wp2_with (first | (go_at_call 29; refine (D.out).mono ?_; rintro e w' ⟨rfl, rfl⟩) | (go_at_call 34; refine (I.out).mono ?_; rintro e w' ⟨rfl, rfl⟩))
    refine bodyPost_ret (v := .tuple #[.int .i64 0, .int .i64 1]) (by simp [results, Try.results9, go_sem]) rfl ⟨rfl, FIN.out⟩
end Jh
end Go.Proofs.Ytcjfdebjgaohlaa

/- The disk's Append, where it is done. -/
namespace Go.Proofs.Ytcjfdebjgaohlaa
open Go.RowKit Go.Maps Go.ChangeMaps Go.MapKept
namespace Jk
open Jb Jm Jd Jw Jx Jn Je Jf Jg Jh

theorem vw_ext {a b : Vw} (h1 : ∀ x, a.F x = b.F x) (h2 : a.used = b.used) (h3 : a.room = b.room) (h4 : a.fused = b.fused) (h5 : a.fuse = b.fuse) (h6 : a.down = b.down) : a = b := by
  obtain ⟨F, u, r, c, f, d⟩ := a
  obtain ⟨F', u', r', c', f', d'⟩ := b
  obtain rfl : F = F' := funext h1
  simp only at h2 h3 h4 h5 h6
  subst h2 h3 h4 h5 h6
  rfl
/-- All that the walk asks behind the append. -/
def After (w2 : World) (g : Nat) (f : Fi) (U : Nat) (cs : List Nat) (v' : Value) (w3 : World) : Prop :=
  w2.grownBy w3 f.v.ownBlock ∧ (v'.ownBlock = f.v.ownBlock ∨ v'.ownBlock = some w2.heap.size) ∧ w3.ownsRow 0 5 1 v' (f.bs.length + cs.length) (u8s (f.bs ++ cs)) ∧
  w3.cell? ⟨f.blk, 0, none⟩ = some f.v ∧ w3.frozen? ⟨f.blk, 0, none⟩ = false ∧ w3.cell? ⟨g, 1, none⟩ = some (.int .i64 (U : Nat)) ∧ w3.frozen? ⟨g, 1, none⟩ = false
set_option maxRecDepth 100000 in
set_option maxHeartbeats 1000000 in
theorem append_on (w : World) (S : Nat → Prop) (g N : Nat) (d : St) (h : Dk w S g N d) (s : ByteArray) (R : Nat → Prop) (hR : ∀ k, R k → ¬ S k) (v : Value) (bs : List Nat) (hv : Src w R v bs) (hcap : ∀ c, v = .slice none bs.length c → c = 0) (hby : ∀ x ∈ bs, x < 256)
    (hN : N ≤ 140737488353000) (hd : d.down = false) (hn : isNm s = true) (hlost : (vw d).lost = false) (hB : (old (vw d) s).1.length + bs.length ≤ 140737488355328) (hU : d.used + bs.length ≤ 9223372036854775807) :
    Calls Try.prog 9 #[.pointer (some ⟨g, 0, none⟩), .string s, v] w fun e w' => e = .returned (.tuple #[.int .i64 (appN (vw d) s bs.length : Nat), .int .i64 (appE (vw d) s bs.length : Nat)]) ∧
      ∃ d', vw d' = appV (vw d) s bs ∧ Dk w' (New S w w') g (N + 1) d' ∧ Chg w w' S := by
  have hs : s.size ≤ 64 := by
    have := of_decide_eq_true (show decide _ = true from hn)
    exact this.2.1
  have D := Lib.hid (down24 w g d h.cs)
  have I := Lib.hid (isName39 w s (by omega))
  have O := operate40 w g d h.cs
  rw [opE_eq, hlost, if_neg (by simp)] at O
  replace O := Lib.hid O
  rw [hd] at D
  rw [hn] at I
  obtain ⟨ad, c, hvf⟩ := hv.forms
  obtain ⟨l, hl⟩ : ∃ l, l = bs.length := ⟨_, rfl⟩
  obtain ⟨U, hUe⟩ : ∃ U, U = d.used := ⟨_, rfl⟩
  obtain ⟨Rm, hRe⟩ : ∃ Rm, Rm = d.room := ⟨_, rfl⟩
  obtain ⟨fr, hfr⟩ : ∃ fr, fr = Rm - U := ⟨_, rfl⟩
  obtain ⟨n, hne⟩ : ∃ n, n = min l fr := ⟨_, rfl⟩
  have bu := h.cs.bu
  have br := h.cs.br
  have hnc : n ≤ c := by
    rcases hv with ⟨e0, _⟩ | ⟨_, b, off, c', e, hc, _⟩
    · rw [e0] at hl; simp at hl; omega
    · rw [hvf] at e; cases e; omega
  have q1 : IntKind.i64.wrap ((Rm : Int) - (U : Nat)) = (Rm : Int) - U := by rw [IntKind.wrap_i64]; omega
  have hmx : ∀ (ty : TypeId) (y : World), (Builtin.max_ #[3, 3] ty #[.int .i64 ((Rm : Int) - U), .int .i64 0]).run Try.prog y = .ok (.int .i64 (fr : Nat)) y := by
    intro ty y
    rw [run_max_int2]
    have e : (if (0 : Int) > (Rm : Int) - U then 0 else (Rm : Int) - U) = (fr : Nat) := by split <;> omega
    rw [e]
  have hmn : ∀ (ty : TypeId) (y : World), (Builtin.min_ #[3, 3] ty #[.int .i64 (l : Nat), .int .i64 (fr : Nat)]).run Try.prog y = .ok (.int .i64 (n : Nat)) y := by
    intro ty y
    rw [run_min_int2]
    have e : (if (fr : Int) < (l : Int) then (fr : Int) else (l : Int)) = (n : Nat) := by split <;> omega
    rw [e]
  have q3 : IntKind.i64.wrap ((U : Int) + (n : Nat)) = ((U + n : Nat) : Int) := by rw [IntKind.wrap_i64]; omega
  have RC := Lib.hid (fun (w1 : World) (k1 : Cs w1 g (opD d)) => show w1.cell? ⟨g, 1, none⟩ = some (.int .i64 (U : Nat)) ∧ w1.cell? ⟨g, 2, none⟩ = some (.int .i64 (Rm : Nat)) from ⟨by rw [hUe, ← opD_used d]; exact k1.c1, by rw [hRe, ← opD_room d]; exact k1.c2⟩)
  have DK1 : Hid (∀ w1, Cs w1 g (opD d) → Chg w w1 (fun k => k = g) → Dk w1 S g N (opD d) ∧ Chg w w1 S) := Lib.hid fun w1 c1 c2 => ⟨h.nums c2 c1 (opD_fv d) (opD_F d), c2.imp fun k hk _ => hk ▸ h.sg⟩
  have MD := Lib.hid (fun w1 (k : Dk w1 S g N (opD d)) => made41 w1 S g N (opD d) k s hs hN)
  have EN : appN (vw d) s l = n := by unfold appN; rw [if_neg (by simp [vw, hd]), if_pos hn, if_neg (by simp [hlost]), hne, hfr, hRe, hUe]; rfl
  have EE : appE (vw d) s l = if fr < l then 7 else 0 := by unfold appE; rw [if_neg (by simp [vw, hd]), if_pos hn, if_neg (by simp [hlost]), hfr, hRe, hUe]; rfl
  -- behind made: the append
  have APP : Hid (∀ w1 w2 d2 f, Chg w w1 S → Chg w1 w2 S → Dk w2 (New S w1 w2) g (N + 1) d2 → d2.F s = some f → ab f = ((vw (opD d)).F s).getD ([], 0) → d2.used = (opD d).used →
      (∀ ty, ∃ v' w3, (Builtin.append_ #[29, 29] ty #[f.v, .slice ad n c]).run Try.prog w2.drew = .ok v' w3 ∧ After w2 g f U (bs.take n) v' w3) ∧ w2.cell? ⟨f.blk, 0, none⟩ = some f.v ∧ (∃ a c, f.v = .slice a f.bs.length c) ∧ f.blk ≠ g) := Lib.hid fun w1 w2 d2 f h01 h12 k2 hf hab hu => by
    obtain ⟨fm, fg, fs⟩ := k2.fm s f hf
    have hold : f.bs = (old (vw d) s).1 := by
      have : f.bs = (ab f).1 := rfl
      rw [this, hab, vw_op, Vw.op_F]; rfl
    refine ⟨fun ty => ?_, fm.c0, own_forms fm.own, fun e => fg (.inl e.symm)⟩
    have hsrc : Src w2.drew R (.slice ad bs.length c) bs := by
      rw [← hvf]
      exact hv.move fun k hk hkl => (h12.block k (Nat.lt_of_lt_of_le hkl h01.size) (hR k hk)).trans (h01.block k hkl (hR k hk))
    obtain ⟨v', w3, hrun, r1, r2, r3⟩ := run_append w2.drew f.v f.bs fm.own R ad c bs hsrc n (by omega) (fun e => hcap c (by rw [hvf, e])) (by rw [hold]; omega) ty
    have r2' : w2.grownBy w3 f.v.ownBlock := ⟨r2.os, r2.tape, r2.output, r2.size, r2.block⟩
    have hbw : f.blk < w2.heap.size := fm.lt (.inl rfl)
    have hb3 : w3.heap[f.blk]? = w2.heap[f.blk]? := r2'.block _ hbw (fun e => fm.apart e.symm)
    have hg3 : w3.heap[g]? = w2.heap[g]? := r2'.block _ (k2.lt g k2.sg) (fun e => fg (.inr e.symm))
    exact ⟨v', w3, hrun, r2', r3, r1, (World.cell?_of_block hb3).trans fm.c0, (World.frozen?_of_block hb3).trans fm.z0, by rw [hUe, ← opD_used d, ← hu]; exact (World.cell?_of_block hg3).trans k2.cs.c1, (World.frozen?_of_block hg3).trans (k2.cs.z 1)⟩
  have FIN : Hid (∀ w1 w2 d2 f w3 w5 v', Chg w w1 S → Chg w1 w2 S → Dk w2 (New S w1 w2) g (N + 1) d2 → d2.F s = some f → ab f = ((vw (opD d)).F s).getD ([], 0) → (∀ x, x ≠ s → d2.F x = (opD d).F x) →
      (d2.used = (opD d).used ∧ d2.room = (opD d).room ∧ d2.fused = (opD d).fused ∧ d2.fuse = (opD d).fuse ∧ d2.down = (opD d).down) → After w2 g f U (bs.take n) v' w3 →
      w5 = (w3.setCell ⟨f.blk, 0, none⟩ v').setCell ⟨g, 1, none⟩ (.int .i64 (U + n : Nat)) → ∃ d', vw d' = appV (vw d) s bs ∧ Dk w5 (New S w w5) g (N + 1) d' ∧ Chg w w5 S) := Lib.hid fun w1 w2 d2 f w3 w5 v' h01 h12 k2 hf hab hoth hnum haf h5 => by
    obtain ⟨a1, a2, a3, _⟩ := haf
    obtain ⟨r1, r2⟩ := append_end k2 hf (fun x hx => hby x (List.mem_of_mem_take hx)) (u := U + n) (by omega) a1 a2 a3 h5
    have s1 := h01.size
    have s2 := h12.size
    have s3 := r2.size
    refine ⟨_, ?_, r1.set (fun k hk => ?_) (fun k hk => ?_), ?_⟩
    · have ef : appV (vw d) s bs = { (vw d).op with F := fun x => if x = s then some ((old (vw d) s).1 ++ bs.take n, (old (vw d) s).2) else (vw d).F x, used := (vw d).used + n } := by
        unfold appV
        rw [if_neg (by simp [vw, hd]), if_pos hn, if_neg (by simp [hlost]), hne, hfr, hRe, hUe, hl]; rfl
      rw [ef]
      have e0 := vw_op d
      refine vw_ext (fun x => ?_) (by show U + n = d.used + n; rw [hUe]) ?_ ?_ ?_ ?_
      · dsimp only [vw]
        by_cases e : x = s
        · rw [if_pos e, if_pos e]
          have e2 : ab f = old (vw d) s := by rw [hab, vw_op, Vw.op_F]; rfl
          exact congrArg some (show (f.bs ++ bs.take n, f.syn) = ((old (vw d) s).1 ++ bs.take n, (old (vw d) s).2) by rw [← e2]; rfl)
        · rw [if_neg e, if_neg e, hoth x e, opD_F]
      · rw [← e0]; exact hnum.2.1
      · rw [← e0]; exact hnum.2.2.1
      · rw [← e0]; exact hnum.2.2.2.1
      · rw [← e0]; exact hnum.2.2.2.2
    · have := hk.imp (fun x => x) (fun x => x)
      rcases hk with (hk | hk) | hk
      · exact .inl hk
      · exact .inr ⟨by omega, by omega⟩
      · exact .inr ⟨by omega, hk.2⟩
    · rcases hk with hk | hk
      · have := h.lt k hk; omega
      · exact hk.2
    · exact (h01.trans h12 fun k hk _ => hk).trans r2 fun k hk hl => hk.elim id (fun e => by omega)
  rw [← hl, EN, EE, hvf, ← hl]
  have HNQ := Lib.hid hne
  clear h hv hcap hB hU hUe hRe hne hfr bu br EN EE hd hn hlost hs hvf hl hN hR hby
  by_cases hq : fr < l
  · have q4 : n < l := by have := HNQ.out; omega
    rw [if_pos hq]
    clear hq
    go_enter Try.func9, Try.ntmps9
    go_wp2_with (first | (go_at_call 29; refine (D.out).mono ?_; rintro e w ⟨rfl, rfl⟩) | (go_at_call 34; refine (I.out).mono ?_; rintro e w ⟨rfl, rfl⟩) | (go_at_call 35; refine (O.out).mono ?_; rintro e w1 ⟨rfl, k1, k2⟩; have r12 := RC.out w1 k1; have K1 := Lib.hid (DK1.out w1 k1 k2); obtain ⟨r1, r2⟩ := r12; clear k1 k2))
    go_quiet (fail)
    have K1d : Hid (Dk (w1.drewN nq) S g N (opD d) ∧ Chg w (w1.drewN nq) S) := Lib.hid ⟨K1.out.1.move (Nat.le_refl _) (fun _ _ => rfl), K1.out.2.drewN nq⟩
    clear r1 r2 K1
    obtain ⟨wa, hwa⟩ : ∃ wa, wa = w1.drewN nq := ⟨_, rfl⟩
    rw [← hwa] at K1d ⊢
    clear hwa
    go_wp2_with (go_at_call 36; refine (MD.out wa K1d.out.1).mono ?_; rintro e w2 ⟨d2, f, rfl, hf, hab, hoth, hnum, hdk, hchg⟩)
    obtain ⟨ap, c0, ⟨va, vc, hva⟩, hbg⟩ := APP.out wa w2 d2 f K1d.out.2 hchg hdk hf hab hnum.1
    have E2 := Lib.hid (fun w3 w5 v' => FIN.out wa w2 d2 f w3 w5 v' K1d.out.2 hchg hdk hf hab hoth hnum)
    rw [hva] at c0 ap
    obtain ⟨b, hb⟩ : ∃ b, b = f.blk := ⟨_, rfl⟩
    obtain ⟨m, hm⟩ : ∃ m, m = f.bs.length := ⟨_, rfl⟩
    rw [← hm] at c0 ap
    rw [← hb] at c0 hbg ⊢
    have HB := Lib.hid hb
    have HM := Lib.hid hm
    have HVA := Lib.hid hva
    have APR := Lib.hid ap
    clear hf hab hoth hnum hdk hchg hva hb hm ap
    go_region_law (first | (refine step_append rfl (.tmp 43) (.tmp 46) 29 rfl (.slice va m vc) (.slice ad n c) (by simp [Act.eval]) (by simp [Act.eval]) (After w2 g f U (bs.take n)) APR.out ?_; intro v' w3 haf; obtain ⟨x1, x2, x3, x4, x5, x6, x7⟩ := id haf; rw [HVA.out, ← HB.out, ← HM.out] at x4; rw [← HB.out] at x5; obtain ⟨ya, yc, hy⟩ := own_forms x3; obtain ⟨yn, hyn⟩ : ∃ yn, yn = f.bs.length + (bs.take n).length := ⟨_, rfl⟩; rw [← hyn] at hy; subst hy; have AF := Lib.hid haf; clear haf x1 x2 x3 hyn))
    all_goals
      go_wp2_with fail
      refine bodyPost_ret (v := .tuple #[.int .i64 (n : Nat), .int .i64 7]) (by simp [results, Try.results9, go_sem]) rfl ⟨rfl, ?_⟩
      exact E2.out _ _ _ AF.out (by rw [HB.out, Int.natCast_add])
  · have q4 : ¬ n < l := by have := HNQ.out; omega
    rw [if_neg hq]
    clear hq
    go_enter Try.func9, Try.ntmps9
    go_wp2_with (first | (go_at_call 29; refine (D.out).mono ?_; rintro e w ⟨rfl, rfl⟩) | (go_at_call 34; refine (I.out).mono ?_; rintro e w ⟨rfl, rfl⟩) | (go_at_call 35; refine (O.out).mono ?_; rintro e w1 ⟨rfl, k1, k2⟩; have r12 := RC.out w1 k1; have K1 := Lib.hid (DK1.out w1 k1 k2); obtain ⟨r1, r2⟩ := r12; clear k1 k2))
    go_quiet (fail)
    have K1d : Hid (Dk (w1.drewN nq) S g N (opD d) ∧ Chg w (w1.drewN nq) S) := Lib.hid ⟨K1.out.1.move (Nat.le_refl _) (fun _ _ => rfl), K1.out.2.drewN nq⟩
    clear r1 r2 K1
    obtain ⟨wa, hwa⟩ : ∃ wa, wa = w1.drewN nq := ⟨_, rfl⟩
    rw [← hwa] at K1d ⊢
    clear hwa
    go_wp2_with (go_at_call 36; refine (MD.out wa K1d.out.1).mono ?_; rintro e w2 ⟨d2, f, rfl, hf, hab, hoth, hnum, hdk, hchg⟩)
    obtain ⟨ap, c0, ⟨va, vc, hva⟩, hbg⟩ := APP.out wa w2 d2 f K1d.out.2 hchg hdk hf hab hnum.1
    have E2 := Lib.hid (fun w3 w5 v' => FIN.out wa w2 d2 f w3 w5 v' K1d.out.2 hchg hdk hf hab hoth hnum)
    rw [hva] at c0 ap
    obtain ⟨b, hb⟩ : ∃ b, b = f.blk := ⟨_, rfl⟩
    obtain ⟨m, hm⟩ : ∃ m, m = f.bs.length := ⟨_, rfl⟩
    rw [← hm] at c0 ap
    rw [← hb] at c0 hbg ⊢
    have HB := Lib.hid hb
    have HM := Lib.hid hm
    have HVA := Lib.hid hva
    have APR := Lib.hid ap
    clear hf hab hoth hnum hdk hchg hva hb hm ap
    go_region_law (first | (refine step_append rfl (.tmp 43) (.tmp 46) 29 rfl (.slice va m vc) (.slice ad n c) (by simp [Act.eval]) (by simp [Act.eval]) (After w2 g f U (bs.take n)) APR.out ?_; intro v' w3 haf; obtain ⟨x1, x2, x3, x4, x5, x6, x7⟩ := id haf; rw [HVA.out, ← HB.out, ← HM.out] at x4; rw [← HB.out] at x5; obtain ⟨ya, yc, hy⟩ := own_forms x3; obtain ⟨yn, hyn⟩ : ∃ yn, yn = f.bs.length + (bs.take n).length := ⟨_, rfl⟩; rw [← hyn] at hy; subst hy; have AF := Lib.hid haf; clear haf x1 x2 x3 hyn))
    all_goals
      go_wp2_with fail
      refine bodyPost_ret (v := .tuple #[.int .i64 (n : Nat), .int .i64 0]) (by simp [results, Try.results9, go_sem]) rfl ⟨rfl, ?_⟩
      exact E2.out _ _ _ AF.out (by rw [HB.out, Int.natCast_add])
end Jk
end Go.Proofs.Ytcjfdebjgaohlaa

/- The disk's Read, Sync, Cut, Remove. -/
namespace Go.Proofs.Ytcjfdebjgaohlaa
open Go.RowKit Go.Maps Go.ChangeMaps Go.MapKept
namespace Jl
open Jb Jm Jd Jw Jx Jn Je Jf Jg Jh Jk Jc

def finE (v : Vw) (s : ByteArray) : Nat := if v.down then 8 else if (v.F s).isNone then 6 else 0
theorem finE_cases (v : Vw) (s : ByteArray) : finE v s = 8 ∨ finE v s = 6 ∨ finE v s = 0 := by unfold finE; split; exact .inl rfl; split; exact .inr (.inl rfl); exact .inr (.inr rfl)
theorem finE_some {d : St} {s : ByteArray} (h : finE (vw d) s = 0) : d.down = false ∧ ∃ f, d.F s = some f := by
  unfold finE at h
  split at h
  · cases h
  · split at h
    · cases h
    · rename_i h1 h2
      refine ⟨by simpa [vw] using h1, ?_⟩
      cases hf : d.F s with
      | none => exact absurd (by simp [vw, hf]) h2
      | some f => exact ⟨f, rfl⟩
theorem finE_zero {d : St} {s : ByteArray} {f : Fi} (hd : d.down = false) (h : d.F s = some f) : finE (vw d) s = 0 := by
  unfold finE; rw [if_neg (by simp [vw, hd]), if_neg (by simp [vw, h])]
theorem find_bad (w : World) (S : Nat → Prop) (g N : Nat) (d : St) (h : Dk w S g N d) (s : ByteArray) (hs : s.size ≤ 140737488355328) (hE : finE (vw d) s ≠ 0) :
    Calls Try.prog 37 #[.pointer (some ⟨g, 0, none⟩), .string s] w fun e w' => e = .returned (.tuple #[.pointer none, .int .i64 (finE (vw d) s : Nat)]) ∧ w' = w := by
  by_cases hd : d.down = true
  · have e : finE (vw d) s = 8 := if_pos hd
    rw [e]
    exact find42_down w g s d h.cs hd
  · have hd' : d.down = false := by simpa using hd
    cases hF : d.F s with
    | none =>
      have e : finE (vw d) s = 6 := by unfold finE; rw [if_neg (by simp [vw, hd']), if_pos (by simp [vw, hF])]
      rw [e]
      exact find42_none w S g N s (by unfold maxLen; omega) d h hd' hF
    | some f => exact absurd (finE_zero hd' hF) hE
/-- The operation's part: done. -/
theorem op_on (w : World) (S : Nat → Prop) (g N : Nat) (d : St) (h : Dk w S g N d) (hl : (vw d).lost = false) :
    Calls Try.prog 35 #[.pointer (some ⟨g, 0, none⟩)] w fun e w' => e = .returned (.int .i64 0) ∧ Dk w' S g N (opD d) ∧ Chg w w' S := by
  have O := operate40 w g d h.cs
  rw [opE_eq, hl, if_neg (by simp)] at O
  refine O.mono ?_
  rintro e w' ⟨rfl, k1, k2⟩
  exact ⟨rfl, h.nums k2 k1 (opD_fv d) (opD_F d), k2.imp fun k hk _ => hk ▸ h.sg⟩
theorem op_off (w : World) (S : Nat → Prop) (g N : Nat) (d : St) (h : Dk w S g N d) (hl : (vw d).lost = true) :
    Calls Try.prog 35 #[.pointer (some ⟨g, 0, none⟩)] w fun e w' => e = .returned (.int .i64 8) ∧ Dk w' S g N (opD d) ∧ Chg w w' S := by
  have O := operate40 w g d h.cs
  rw [opE_eq, hl, if_pos rfl] at O
  refine O.mono ?_
  rintro e w' ⟨rfl, k1, k2⟩
  exact ⟨rfl, h.nums k2 k1 (opD_fv d) (opD_F d), k2.imp fun k hk _ => hk ▸ h.sg⟩
theorem read_nil (w : World) (s : ByteArray) : Calls Try.prog 26 #[.pointer none, .string s] w fun e w' => e = .returned (.tuple #[.slice none 0 0, .int .i64 8]) ∧ w' = w := by
  go_enter Try.func26, Try.ntmps26
  go_wp2_with (go_at_call 37; refine (find42_nil _ _).mono ?_; rintro e w' ⟨rfl, rfl⟩)
  refine bodyPost_ret (v := .tuple #[.slice none 0 0, .int .i64 8]) (by simp [results, Try.results26, go_sem]) rfl ⟨rfl, rfl⟩
theorem read_bad (w : World) (S : Nat → Prop) (g N : Nat) (d : St) (h : Dk w S g N d) (s : ByteArray) (hs : s.size ≤ 140737488355328) (hE : finE (vw d) s ≠ 0) :
    Calls Try.prog 26 #[.pointer (some ⟨g, 0, none⟩), .string s] w fun e w' => e = .returned (.tuple #[.slice none 0 0, .int .i64 (finE (vw d) s : Nat)]) ∧ w' = w := by
  have B := Lib.hid (find_bad w S g N d h s hs hE)
  rcases finE_cases (vw d) s with e | e | e
  · rw [e] at B ⊢
    clear h hs hE e
    go_enter Try.func26, Try.ntmps26
    go_wp2_with (go_at_call 37; refine (B.out).mono ?_; rintro e w' ⟨rfl, rfl⟩)
    refine bodyPost_ret (v := .tuple #[.slice none 0 0, .int .i64 8]) (by simp [results, Try.results26, go_sem]) rfl ⟨rfl, rfl⟩
  · rw [e] at B ⊢
    clear h hs hE e
    go_enter Try.func26, Try.ntmps26
    go_wp2_with (go_at_call 37; refine (B.out).mono ?_; rintro e w' ⟨rfl, rfl⟩)
    refine bodyPost_ret (v := .tuple #[.slice none 0 0, .int .i64 6]) (by simp [results, Try.results26, go_sem]) rfl ⟨rfl, rfl⟩
  · exact absurd e hE
theorem sync_nil (w : World) (s : ByteArray) : Calls Try.prog 11 #[.pointer none, .string s] w fun e w' => e = .returned (.int .i64 8) ∧ w' = w := by
  go_enter Try.func11, Try.ntmps11
  go_wp2_with (go_at_call 37; refine (find42_nil _ _).mono ?_; rintro e w' ⟨rfl, rfl⟩)
  go_ret
  first | trivial | exact ⟨rfl, rfl⟩
theorem sync_bad (w : World) (S : Nat → Prop) (g N : Nat) (d : St) (h : Dk w S g N d) (s : ByteArray) (hs : s.size ≤ 140737488355328) (hE : finE (vw d) s ≠ 0) :
    Calls Try.prog 11 #[.pointer (some ⟨g, 0, none⟩), .string s] w fun e w' => e = .returned (.int .i64 (finE (vw d) s : Nat)) ∧ w' = w := by
  have B := Lib.hid (find_bad w S g N d h s hs hE)
  rcases finE_cases (vw d) s with e | e | e
  · rw [e] at B ⊢
    clear h hs hE e
    go_enter Try.func11, Try.ntmps11
    go_wp2_with (go_at_call 37; refine (B.out).mono ?_; rintro e w' ⟨rfl, rfl⟩)
    go_ret
    first | trivial | exact ⟨rfl, rfl⟩
  · rw [e] at B ⊢
    clear h hs hE e
    go_enter Try.func11, Try.ntmps11
    go_wp2_with (go_at_call 37; refine (B.out).mono ?_; rintro e w' ⟨rfl, rfl⟩)
    go_ret
    first | trivial | exact ⟨rfl, rfl⟩
  · exact absurd e hE
theorem cut_nil (w : World) (s : ByteArray) (n : Int) : Calls Try.prog 19 #[.pointer none, .string s, .int .i64 n] w fun e w' => e = .returned (.int .i64 8) ∧ w' = w := by
  go_enter Try.func19, Try.ntmps19
  go_wp2_with (go_at_call 37; refine (find42_nil _ _).mono ?_; rintro e w' ⟨rfl, rfl⟩)
  go_ret
  first | trivial | exact ⟨rfl, rfl⟩
theorem cut_bad (w : World) (S : Nat → Prop) (g N : Nat) (d : St) (h : Dk w S g N d) (s : ByteArray) (n : Int) (hs : s.size ≤ 140737488355328) (hE : finE (vw d) s ≠ 0) :
    Calls Try.prog 19 #[.pointer (some ⟨g, 0, none⟩), .string s, .int .i64 n] w fun e w' => e = .returned (.int .i64 (finE (vw d) s : Nat)) ∧ w' = w := by
  have B := Lib.hid (find_bad w S g N d h s hs hE)
  rcases finE_cases (vw d) s with e | e | e
  · rw [e] at B ⊢
    clear h hs hE e
    go_enter Try.func19, Try.ntmps19
    go_wp2_with (go_at_call 37; refine (B.out).mono ?_; rintro e w' ⟨rfl, rfl⟩)
    go_ret
    first | trivial | exact ⟨rfl, rfl⟩
  · rw [e] at B ⊢
    clear h hs hE e
    go_enter Try.func19, Try.ntmps19
    go_wp2_with (go_at_call 37; refine (B.out).mono ?_; rintro e w' ⟨rfl, rfl⟩)
    go_ret
    first | trivial | exact ⟨rfl, rfl⟩
  · exact absurd e hE
theorem remove_nil (w : World) (s : ByteArray) : Calls Try.prog 17 #[.pointer none, .string s] w fun e w' => e = .returned (.int .i64 8) ∧ w' = w := by
  go_enter Try.func17, Try.ntmps17
  go_wp2_with (go_at_call 37; refine (find42_nil _ _).mono ?_; rintro e w' ⟨rfl, rfl⟩)
  go_ret
  first | trivial | exact ⟨rfl, rfl⟩
theorem remove_bad (w : World) (S : Nat → Prop) (g N : Nat) (d : St) (h : Dk w S g N d) (s : ByteArray) (hs : s.size ≤ 140737488355328) (hE : finE (vw d) s ≠ 0) :
    Calls Try.prog 17 #[.pointer (some ⟨g, 0, none⟩), .string s] w fun e w' => e = .returned (.int .i64 (finE (vw d) s : Nat)) ∧ w' = w := by
  have B := Lib.hid (find_bad w S g N d h s hs hE)
  rcases finE_cases (vw d) s with e | e | e
  · rw [e] at B ⊢
    clear h hs hE e
    go_enter Try.func17, Try.ntmps17
    go_wp2_with (go_at_call 37; refine (B.out).mono ?_; rintro e w' ⟨rfl, rfl⟩)
    go_ret
    first | trivial | exact ⟨rfl, rfl⟩
  · rw [e] at B ⊢
    clear h hs hE e
    go_enter Try.func17, Try.ntmps17
    go_wp2_with (go_at_call 37; refine (B.out).mono ?_; rintro e w' ⟨rfl, rfl⟩)
    go_ret
    first | trivial | exact ⟨rfl, rfl⟩
  · exact absurd e hE
theorem rename_nil (w : World) (s : ByteArray) (t : ByteArray) : Calls Try.prog 15 #[.pointer none, .string s, .string t] w fun e w' => e = .returned (.int .i64 8) ∧ w' = w := by
  go_enter Try.func15, Try.ntmps15
  go_wp2_with (go_at_call 37; refine (find42_nil _ _).mono ?_; rintro e w' ⟨rfl, rfl⟩)
  go_ret
  first | trivial | exact ⟨rfl, rfl⟩
theorem rename_bad (w : World) (S : Nat → Prop) (g N : Nat) (d : St) (h : Dk w S g N d) (s : ByteArray) (t : ByteArray) (hs : s.size ≤ 140737488355328) (hE : finE (vw d) s ≠ 0) :
    Calls Try.prog 15 #[.pointer (some ⟨g, 0, none⟩), .string s, .string t] w fun e w' => e = .returned (.int .i64 (finE (vw d) s : Nat)) ∧ w' = w := by
  have B := Lib.hid (find_bad w S g N d h s hs hE)
  rcases finE_cases (vw d) s with e | e | e
  · rw [e] at B ⊢
    clear h hs hE e
    go_enter Try.func15, Try.ntmps15
    go_wp2_with (go_at_call 37; refine (B.out).mono ?_; rintro e w' ⟨rfl, rfl⟩)
    go_ret
    first | trivial | exact ⟨rfl, rfl⟩
  · rw [e] at B ⊢
    clear h hs hE e
    go_enter Try.func15, Try.ntmps15
    go_wp2_with (go_at_call 37; refine (B.out).mono ?_; rintro e w' ⟨rfl, rfl⟩)
    go_ret
    first | trivial | exact ⟨rfl, rfl⟩
  · exact absurd e hE
theorem sync_lost (w : World) (S : Nat → Prop) (g N : Nat) (d : St) (h : Dk w S g N d) (s : ByteArray) (hs : s.size ≤ 140737488355328) (f : Fi) (hd : d.down = false) (hF : d.F s = some f) (hl : (vw d).lost = true) :
    Calls Try.prog 11 #[.pointer (some ⟨g, 0, none⟩), .string s] w fun e w' => e = .returned (.int .i64 8) ∧ Dk w' S g N (opD d) ∧ Chg w w' S := by
  have FS := Lib.hid (find42_some w S g N s (by unfold maxLen; omega) d h hd f hF)
  have O := Lib.hid (op_off w S g N d h hl)
  clear h hs hd hF hl
  go_enter Try.func11, Try.ntmps11
  go_wp2_with (first | (go_at_call 37; refine (FS.out).mono ?_; rintro e w ⟨rfl, rfl⟩) | (go_at_call 35; refine (O.out).mono ?_; rintro e w' ⟨rfl, k1, k2⟩))
  go_ret
  exact ⟨rfl, k1, k2⟩
theorem remove_lost (w : World) (S : Nat → Prop) (g N : Nat) (d : St) (h : Dk w S g N d) (s : ByteArray) (hs : s.size ≤ 140737488355328) (f : Fi) (hd : d.down = false) (hF : d.F s = some f) (hl : (vw d).lost = true) :
    Calls Try.prog 17 #[.pointer (some ⟨g, 0, none⟩), .string s] w fun e w' => e = .returned (.int .i64 8) ∧ Dk w' S g N (opD d) ∧ Chg w w' S := by
  have FS := Lib.hid (find42_some w S g N s (by unfold maxLen; omega) d h hd f hF)
  have O := Lib.hid (op_off w S g N d h hl)
  clear h hs hd hF hl
  go_enter Try.func17, Try.ntmps17
  go_wp2_with (first | (go_at_call 37; refine (FS.out).mono ?_; rintro e w ⟨rfl, rfl⟩) | (go_at_call 35; refine (O.out).mono ?_; rintro e w' ⟨rfl, k1, k2⟩))
  go_ret
  exact ⟨rfl, k1, k2⟩
theorem cut_lost (w : World) (S : Nat → Prop) (g N : Nat) (d : St) (h : Dk w S g N d) (s : ByteArray) (n : Nat) (hs : s.size ≤ 140737488355328) (f : Fi) (hd : d.down = false) (hF : d.F s = some f) (hn : n ≤ f.bs.length) (hl : (vw d).lost = true) :
    Calls Try.prog 19 #[.pointer (some ⟨g, 0, none⟩), .string s, .int .i64 (n : Nat)] w fun e w' => e = .returned (.int .i64 8) ∧ Dk w' S g N (opD d) ∧ Chg w w' S := by
  have FS := Lib.hid (find42_some w S g N s (by unfold maxLen; omega) d h hd f hF)
  have O := Lib.hid (op_off w S g N d h hl)
  obtain ⟨fm, _, _⟩ := h.fm s f hF
  have f0 := fm.c0
  obtain ⟨va, vc, hva⟩ := own_forms fm.own
  rw [hva] at f0
  obtain ⟨L, hL⟩ : ∃ L, L = f.bs.length := ⟨_, rfl⟩
  obtain ⟨b, hb⟩ : ∃ b, b = f.blk := ⟨_, rfl⟩
  rw [← hL] at f0 hn
  rw [← hb] at f0 FS
  have q1 : ¬ (L : Int) < (n : Int) := by omega
  have q2 : ¬ L < n := by omega
  have q3 : ¬ (n : Int) < 0 := by omega
  clear h hs hd hF hl fm hva hL hb hn
  go_enter Try.func19, Try.ntmps19
  go_wp2_with (first | (go_at_call 37; refine (FS.out).mono ?_; rintro e w ⟨rfl, rfl⟩) | (go_at_call 35; refine (O.out).mono ?_; rintro e w' ⟨rfl, k1, k2⟩))
  go_ret
  exact ⟨rfl, k1, k2⟩
theorem rename_lost (w : World) (S : Nat → Prop) (g N : Nat) (d : St) (h : Dk w S g N d) (s : ByteArray) (t : ByteArray) (hs : s.size ≤ 140737488355328) (f : Fi) (hd : d.down = false) (hF : d.F s = some f) (ht : isNm t = true) (hts : t.size ≤ 140737488355328) (hl : (vw d).lost = true) :
    Calls Try.prog 15 #[.pointer (some ⟨g, 0, none⟩), .string s, .string t] w fun e w' => e = .returned (.int .i64 8) ∧ Dk w' S g N (opD d) ∧ Chg w w' S := by
  have FS := Lib.hid (find42_some w S g N s (by unfold maxLen; omega) d h hd f hF)
  have O := Lib.hid (op_off w S g N d h hl)
  have I := isName39 w t hts
  rw [ht] at I
  replace I := Lib.hid I
  clear h hs hd hF hl ht hts
  go_enter Try.func15, Try.ntmps15
  go_wp2_with (first | (go_at_call 37; refine (FS.out).mono ?_; rintro e w ⟨rfl, rfl⟩) | (go_at_call 35; refine (O.out).mono ?_; rintro e w' ⟨rfl, k1, k2⟩) | (go_at_call 34; refine (I.out).mono ?_; rintro e w ⟨rfl, rfl⟩))
  go_ret
  exact ⟨rfl, k1, k2⟩
theorem cut_range (w : World) (S : Nat → Prop) (g N : Nat) (d : St) (h : Dk w S g N d) (s : ByteArray) (n : Int) (hs : s.size ≤ 140737488355328) (f : Fi) (hd : d.down = false) (hF : d.F s = some f) (hn : n < 0 ∨ (f.bs.length : Int) < n) :
    Calls Try.prog 19 #[.pointer (some ⟨g, 0, none⟩), .string s, .int .i64 n] w fun e w' => e = .returned (.int .i64 3) ∧ w' = w := by
  have FS := Lib.hid (find42_some w S g N s (by unfold maxLen; omega) d h hd f hF)
  obtain ⟨fm, _, _⟩ := h.fm s f hF
  have f0 := fm.c0
  obtain ⟨va, vc, hva⟩ := own_forms fm.own
  rw [hva] at f0
  obtain ⟨L, hL⟩ : ∃ L, L = f.bs.length := ⟨_, rfl⟩
  obtain ⟨b, hb⟩ : ∃ b, b = f.blk := ⟨_, rfl⟩
  rw [← hL] at f0 hn
  rw [← hb] at f0 FS
  by_cases h0 : n < 0
  · clear h hs hd hF fm hva hL hb hn
    go_enter Try.func19, Try.ntmps19
    go_wp2_with (go_at_call 37; refine (FS.out).mono ?_; rintro e w ⟨rfl, rfl⟩)
    go_ret
    first | trivial | exact ⟨rfl, rfl⟩
  · have h1 : (L : Int) < n := by omega
    clear h hs hd hF fm hva hL hb hn
    go_enter Try.func19, Try.ntmps19
    go_wp2_with (go_at_call 37; refine (FS.out).mono ?_; rintro e w ⟨rfl, rfl⟩)
    go_ret
    first | trivial | exact ⟨rfl, rfl⟩
/-- Read. -/
theorem read_on (w : World) (S : Nat → Prop) (g N : Nat) (d : St) (h : Dk w S g N d) (s : ByteArray) (hs : s.size ≤ 140737488355328) (f : Fi) (hd : d.down = false) (hF : d.F s = some f) (hb : f.bs.length ≤ 140737488355328) :
    Calls Try.prog 26 #[.pointer (some ⟨g, 0, none⟩), .string s] w fun e w' => ∃ v, e = .returned (.tuple #[v, .int .i64 0]) ∧ w'.ownsRow w.heap.size 5 1 v f.bs.length (u8s f.bs) ∧ Below w.heap.size w w' := by
  have FS := Lib.hid (find42_some w S g N s (by unfold maxLen; omega) d h hd f hF)
  obtain ⟨fm, _, _⟩ := h.fm s f hF
  have f0 := fm.c0
  obtain ⟨va, vc, hva⟩ := own_forms fm.own
  have CL := Lib.hid (clone45 w _ f.v f.bs (src_own fm.own) hb)
  rw [hva] at f0 CL
  obtain ⟨L, hL⟩ : ∃ L, L = f.bs.length := ⟨_, rfl⟩
  obtain ⟨b, hb⟩ : ∃ b, b = f.blk := ⟨_, rfl⟩
  rw [← hL] at f0 CL ⊢
  rw [← hb] at f0 FS
  clear h hs hd hF fm hva hL hb
  go_enter Try.func26, Try.ntmps26
  go_wp2_with (first | (go_at_call 37; refine (FS.out).mono ?_; rintro e w ⟨rfl, rfl⟩) | (go_at_call 48; refine (CL.out).mono ?_; rintro e w' ⟨v, rfl, hrow, hbl⟩))
  refine bodyPost_ret (v := .tuple #[v, .int .i64 0]) (by simp [results, Try.results26, go_sem]) rfl ⟨v, rfl, hrow, hbl⟩
end Jl
end Go.Proofs.Ytcjfdebjgaohlaa
