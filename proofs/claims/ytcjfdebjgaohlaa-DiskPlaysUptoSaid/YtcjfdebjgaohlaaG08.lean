import Derived.Test.YtcjfdebjgaohlaaG07
import Derived.RegionTactic

/- The document's disk: its small calls. -/
namespace Go.Proofs.Ytcjfdebjgaohlaa
open Go.RowKit Go.Maps Go.ChangeMaps Go.MapKept
namespace Ya
open Jb Jm Jd Jw Jx Jn J1 J9

set_option maxRecDepth 100000
theorem down35 (w : World) (g : Nat) (t : Dt) (h : Wc w g t) : Calls Try.prog 30 #[.pointer (some ⟨g, 0, none⟩)] w fun e w' => e = .returned (.bool t.down) ∧ w' = w := by
  have c4 := h.c4
  clear h
  go_enter Try.func30, Try.ntmps30
  go_wp2_with fail
  go_ret
  trivial
theorem setRoom31 (w : World) (g : Nat) (t : Dt) (n : Int) (hn : -9223372036854775808 ≤ n ∧ n ≤ 9223372036854775807) (h : Wc w g t) :
    Calls Try.prog 21 #[.pointer (some ⟨g, 0, none⟩), .int .i64 n] w fun e w' => e = .returned (.tuple #[]) ∧ Wc w' g { t with room := n.toNat } ∧ Chg w w' (fun k => k = g) := by
  have c1 := h.c1
  have z1 := h.z 1
  have H := Lib.hid h
  clear h
  obtain ⟨m, hme⟩ : ∃ m, m = n.toNat := ⟨_, rfl⟩
  have hm : ∀ (ty : TypeId) (y : World), (Builtin.max_ #[3, 3] ty #[.int .i64 n, .int .i64 0]).run Try.prog y = .ok (.int .i64 (m : Nat)) y := by
    intro ty y
    rw [run_max_int2]
    have e : (if (0 : Int) > n then 0 else n) = (m : Nat) := by split <;> omega
    rw [e]
  rw [← hme]
  have HMB := Lib.hid (show m ≤ 9223372036854775807 by omega)
  clear hme
  go_enter Try.func21, Try.ntmps21
  go_wp2_with fail
  refine bodyPost_end (v := .tuple #[]) (by simp [results, Try.results21, go_sem]) rfl ⟨rfl, H.out.set1 _ HMB.out, (Chg.refl w (fun k => k = g)).setCell rfl _⟩
theorem setFuse32 (w : World) (g : Nat) (t : Dt) (n : Int) (hn : -9223372036854775808 ≤ n ∧ n ≤ 9223372036854775807) (h : Wc w g t) :
    Calls Try.prog 23 #[.pointer (some ⟨g, 0, none⟩), .int .i64 n] w fun e w' => e = .returned (.tuple #[]) ∧ Wc w' g { t with lit := decide (0 ≤ n), fuse := n } ∧ Chg w w' (fun k => k = g) := by
  have c2 := h.c2
  have z2 := h.z 2
  have c3 := h.c3
  have z3 := h.z 3
  have H := Lib.hid h
  have HN := Lib.hid hn
  clear h hn
  go_enter Try.func23, Try.ntmps23
  all_goals
    go_wp2_with fail
    refine bodyPost_end (v := .tuple #[]) (by simp [results, Try.results23, go_sem]) rfl ⟨rfl, ?_, ?_⟩
    · exact H.out.set23 _ _ HN.out (fun e => by simpa using e)
    · exact (((Chg.refl w (fun k => k = g)).setCell rfl _).setCell rfl _)
def opT (t : Dt) : Dt := if t.lit then (if t.fuse = 0 then { t with down := true } else { t with fuse := t.fuse - 1 }) else t
def opTE (t : Dt) : Nat := if t.lit = true ∧ t.fuse = 0 then 8 else 0
theorem operation48 (w : World) (g : Nat) (t : Dt) (h : Wc w g t) : Calls Try.prog 39 #[.pointer (some ⟨g, 0, none⟩)] w fun e w' => e = .returned (.int .i64 (opTE t : Nat)) ∧ Wc w' g (opT t) ∧ Chg w w' (fun k => k = g) := by
  have c2 := h.c2
  have c3 := h.c3
  have c4 := h.c4
  have z3 := h.z 3
  have z4 := h.z 4
  have bf := h.bf
  have fz := h.fz
  have H := Lib.hid h
  clear h
  by_cases hf : t.lit = true
  · rw [hf] at c2
    have f0 := fz hf
    have HLIT := Lib.hid hf
    by_cases h0 : t.fuse = 0
    · have e1 : opTE t = 8 := if_pos ⟨hf, h0⟩
      have e2 : opT t = { t with down := true } := by unfold opT; rw [if_pos hf, if_pos h0]
      rw [e1, e2]
      rw [h0] at c3
      clear hf h0 e1 e2 bf fz f0
      go_enter Try.func39, Try.ntmps39
      go_wp2_with fail
      go_ret
      exact ⟨rfl, H.out.set4 true, (Chg.refl w (fun k => k = g)).setCell rfl _⟩
    · have e1 : opTE t = 0 := if_neg (fun x => h0 x.2)
      have e2 : opT t = { t with fuse := t.fuse - 1 } := by unfold opT; rw [if_pos hf, if_neg h0]
      obtain ⟨F, hF⟩ : ∃ F, F = t.fuse := ⟨_, rfl⟩
      have HF := Lib.hid hF
      rw [e1, e2, ← hF]
      rw [← hF] at c3 bf f0 h0
      have q : (F == 0) = false := by simpa using h0
      have q2 : IntKind.i64.wrap (F - 1) = F - 1 := by rw [IntKind.wrap_i64]; omega
      have HB := Lib.hid (show (-9223372036854775808 ≤ F - 1 ∧ F - 1 ≤ 9223372036854775807) ∧ 0 ≤ F - 1 by omega)
      clear hf h0 e1 e2 hF bf f0 fz
      go_enter Try.func39, Try.ntmps39
      go_wp2_with fail
      go_ret
      exact ⟨rfl, H.out.set3 _ HB.out.1 (fun _ => HB.out.2), (Chg.refl w (fun k => k = g)).setCell rfl _⟩
  · have hf' : t.lit = false := by simpa using hf
    have e1 : opTE t = 0 := if_neg (fun x => hf x.1)
    have e2 : opT t = t := if_neg hf
    rw [e1, e2]
    rw [hf'] at c2
    clear hf hf' e1 e2 bf fz
    go_enter Try.func39, Try.ntmps39
    go_wp2_with fail
    go_ret
    exact ⟨rfl, H.out, Chg.refl w _⟩
theorem opT_fvv (t : Dt) : (opT t).fvv = t.fvv := by unfold opT; split; split <;> rfl; rfl
theorem opT_L (t : Dt) : (opT t).L = t.L := by unfold opT; split; split <;> rfl; rfl
theorem opT_room (t : Dt) : (opT t).room = t.room := by unfold opT; split; split <;> rfl; rfl
/-- A disk without files. -/
def dt0 (room : Nat) : Dt := ⟨.slice none 0 0, [], room, false, 0, false⟩
theorem newr10 (w : World) (n : Int) (hn : -9223372036854775808 ≤ n ∧ n ≤ 9223372036854775807) :
    Calls Try.prog 6 #[.int .i64 n] w fun e w' => e = .returned (.pointer (some ⟨w.heap.size, 0, none⟩)) ∧ Wk w' (fun k => w.heap.size ≤ k ∧ k < w'.heap.size) w.heap.size (dt0 n.toNat) ∧ Below w.heap.size w w' := by
  obtain ⟨m, hme⟩ : ∃ m, m = n.toNat := ⟨_, rfl⟩
  have hm : ∀ (ty : TypeId) (y : World), (Builtin.max_ #[3, 3] ty #[.int .i64 n, .int .i64 0]).run Try.prog y = .ok (.int .i64 (m : Nat)) y := by
    intro ty y
    rw [run_max_int2]
    have e : (if (0 : Int) > n then 0 else n) = (m : Nat) := by split <;> omega
    rw [e]
  rw [← hme]
  have HMB := Lib.hid (show m ≤ 9223372036854775807 by omega)
  clear hme
  go_enter Try.func6, Try.ntmps6
  go_wp2_with fail
  go_ret
  refine ⟨rfl, ⟨⟨new_cell _ _ _ 0 _ rfl, new_cell _ _ _ 1 _ rfl, new_cell _ _ _ 2 _ rfl, new_cell _ _ _ 3 _ rfl, new_cell _ _ _ 4 _ rfl, fun i => frozen_of_row _ _ _ _ _ (heap_alloc_new _ _), HMB.out, by simp [dt0], (fun e => by cases e)⟩, ⟨Nat.le_refl _, by simp⟩, fun k hk => hk.2, World.ownsRow_nil _ _ _ _, (fun k hk => by cases hk), (fun e he => by cases he)⟩, (Below.refl _ w).alloc (Nat.le_refl _) _⟩
end Ya
end Go.Proofs.Ytcjfdebjgaohlaa

/- The document's disk: find, there, Used, List. -/
namespace Go.Proofs.Ytcjfdebjgaohlaa
open Go.RowKit Go.Maps Go.ChangeMaps Go.MapKept
namespace Yb
open Jb Jm Jd Jw Jx Jn J1 J9 Ya

theorem beq_ne {s t : ByteArray} (h : s ≠ t) : (s.toList == t.toList) = false := by
  rw [beq_eq_false_iff_ne]
  intro e
  rw [ByteArray.toList_eq, ByteArray.toList_eq] at e
  exact h (ByteArray.ext (Array.toList_inj.1 e))
theorem beq_same (s : ByteArray) : (s.toList == s.toList) = true := by simp
/-- The first place of the name, or none. -/
def At1 (L : List En) (s : ByteArray) (A : Nat) : Prop := A ≤ L.length ∧ (A < L.length → (L.getD A e0).name = s) ∧ ∀ j, j < A → (L.getD j e0).name ≠ s
theorem at1 (L : List En) (s : ByteArray) : ∃ A, At1 L s A := by
  induction L with
  | nil => exact ⟨0, Nat.le_refl _, fun h => by simp at h, fun j hj => by omega⟩
  | cons x r ih =>
    by_cases h : x.name = s
    · exact ⟨0, Nat.zero_le _, fun _ => h, fun j hj => by omega⟩
    · obtain ⟨A, h1, h2, h3⟩ := ih
      refine ⟨A + 1, by simpa using h1, fun hA => ?_, fun j hj => ?_⟩
      · have := h2 (by simpa using hA)
        simpa [List.getD_eq_getElem?_getD] using this
      · cases j with
        | zero => simpa [List.getD_eq_getElem?_getD] using h
        | succ j =>
          have := h3 j (by omega)
          simpa [List.getD_eq_getElem?_getD] using this
def atI (L : List En) (A : Nat) : Int := if A < L.length then (A : Int) else -1
set_option maxRecDepth 100000
theorem find49 (w : World) (T : Nat → Prop) (g : Nat) (t : Dt) (h : Wk w T g t) (s : ByteArray) (A : Nat) (hA : At1 t.L s A) (hb : t.L.length ≤ 1000000000) :
    Calls Try.prog 40 #[.pointer (some ⟨g, 0, none⟩), .string s] w fun e w' => e = .returned (.int .i64 (atI t.L A)) ∧ w' = w := by
  have c0 := h.cs.c0
  obtain ⟨a1, a2, a3⟩ := hA
  rcases row_at h.row with ⟨hL, a, c, hv⟩ | ⟨q, c, hv, hc, hq, _, _, hcell⟩
  · have hR : atI t.L A = -1 := by unfold atI; rw [hL]; simp
    rw [hR]
    rw [hv] at c0
    clear h hv hL a1 a2 a3 hR hb
    go_enter Try.func40, Try.ntmps40
    go_wp2_with fail
    refine wp_loop_rounds 1 ?_
    rw [rounds_succ]
    go_wp2_with fail
    go_ret
    first | trivial | exact ⟨rfl, rfl⟩
  · rw [hv] at c0
    obtain ⟨n, hn⟩ : ∃ n, n = t.L.length := ⟨_, rfl⟩
    obtain ⟨R, hR⟩ : ∃ R, R = atI t.L A := ⟨_, rfl⟩
    have HR : Hid (R = if A < n then (A : Int) else -1) := Lib.hid (by rw [hR, hn]; rfl)
    rw [← hR]
    rw [← hn] at c0 hc a1 a2 hcell hb
    have HC := Lib.hid hcell
    have H2 := Lib.hid a2
    have H3 := Lib.hid a3
    clear h hv hn hR hcell a2 a3 hq
    go_enter Try.func40, Try.ntmps40
    go_wp2_with fail
    go_loopw [5, 11] (fun _ i wr => ∃ k, k ≤ A ∧ i = .int .i64 (k : Nat) ∧ wr = w) (fun _ i _ => n - (intOf i).toNat)
    case atStart => exact ⟨0, Nat.zero_le _, rfl, by first | rfl | trivial⟩
    case round =>
      obtain ⟨k, hk, rfl, rfl⟩ := hrel
      by_cases hkn : k < n
      · have cn := (HC.out k hkn).1
        obtain ⟨x, hx⟩ : ∃ x, x = (t.L.getD k e0).name := ⟨_, rfl⟩
        rw [← hx] at cn
        by_cases hkA : k < A
        · have e := beq_ne (hx ▸ H3.out k hkA)
          clear hx
          go_wp2_with fail
          go_roundw
          case rel => exact ⟨k + 1, by omega, by go_num, by first | rfl | trivial⟩
          case measure => simp [intOf]; omega
        · have ek : A = k := by omega
          have hxs : x = s := by rw [hx]; have := H2.out (by omega); rwa [ek] at this
          have e : R = (k : Int) := by rw [HR.out, if_pos (by omega), ek]
          have e2 := beq_same s
          subst e
          clear hx
          subst hxs
          clear hkA
          go_wp2_with fail
          go_ret
          first | trivial | exact ⟨rfl, rfl⟩
      · have e : R = -1 := by rw [HR.out, if_neg (by omega)]
        have ek : n = k := by omega
        subst e
        subst ek
        clear hkn
        go_wp2_with fail
        go_ret
        first | trivial | exact ⟨rfl, rfl⟩
theorem there_down (w : World) (g : Nat) (s : ByteArray) (t : Dt) (h : Wc w g t) (hd : t.down = true) : Calls Try.prog 42 #[.pointer (some ⟨g, 0, none⟩), .string s] w fun e w' => e = .returned (.tuple #[.int .i64 0, .int .i64 8]) ∧ w' = w := by
  have c4 := h.c4
  rw [hd] at c4
  clear h hd
  go_enter Try.func42, Try.ntmps42
  go_wp2_with fail
  refine bodyPost_ret (v := .tuple #[.int .i64 0, .int .i64 8]) (by simp [results, Try.results42, go_sem]) rfl ⟨rfl, rfl⟩
theorem there_none (w : World) (T : Nat → Prop) (g : Nat) (s : ByteArray) (t : Dt) (h : Wk w T g t) (hd : t.down = false) (hA : At1 t.L s t.L.length) (hb : t.L.length ≤ 1000000000) :
    Calls Try.prog 42 #[.pointer (some ⟨g, 0, none⟩), .string s] w fun e w' => e = .returned (.tuple #[.int .i64 0, .int .i64 6]) ∧ w' = w := by
  have F := find49 w T g t h s _ hA hb
  rw [show atI t.L t.L.length = -1 by unfold atI; simp] at F
  have FH := Lib.hid F
  have c4 := h.cs.c4
  rw [hd] at c4
  clear h hd F hA hb
  go_enter Try.func42, Try.ntmps42
  go_wp2_with (go_at_call 40; refine (FH.out).mono ?_; rintro e w ⟨rfl, rfl⟩)
  refine bodyPost_ret (v := .tuple #[.int .i64 0, .int .i64 6]) (by simp [results, Try.results42, go_sem]) rfl ⟨rfl, rfl⟩
theorem there_some (w : World) (T : Nat → Prop) (g : Nat) (s : ByteArray) (t : Dt) (h : Wk w T g t) (hd : t.down = false) (A : Nat) (hA : At1 t.L s A) (hlt : A < t.L.length) (hb : t.L.length ≤ 1000000000) :
    Calls Try.prog 42 #[.pointer (some ⟨g, 0, none⟩), .string s] w fun e w' => e = .returned (.tuple #[.int .i64 (A : Nat), .int .i64 0]) ∧ w' = w := by
  have F := find49 w T g t h s _ hA hb
  rw [show atI t.L A = (A : Int) by unfold atI; rw [if_pos hlt]] at F
  have FH := Lib.hid F
  have c4 := h.cs.c4
  rw [hd] at c4
  have hA0 : ¬ (A : Int) < 0 := by omega
  clear h hd F hA hb hlt
  go_enter Try.func42, Try.ntmps42
  go_wp2_with (go_at_call 40; refine (FH.out).mono ?_; rintro e w ⟨rfl, rfl⟩)
  refine bodyPost_ret (v := .tuple #[.int .i64 (A : Nat), .int .i64 0]) (by simp [results, Try.results42, go_sem]) rfl ⟨rfl, rfl⟩
/-- The sum of all lengths. -/
def sumL (L : List En) : Nat := (L.map fun e => e.bs.length).sum
theorem sumL_take (L : List En) (k : Nat) (hk : k < L.length) : sumL (L.take (k + 1)) = sumL (L.take k) + (L.getD k e0).bs.length := by
  unfold sumL
  rw [List.take_succ_eq_append_getElem hk, List.map_append, List.sum_append]
  have e : L.getD k e0 = L[k] := by simp [List.getD_eq_getElem?_getD, hk]
  rw [e]
  rfl
theorem sumL_le (L : List En) (k : Nat) : sumL (L.take k) ≤ sumL L := by
  have : sumL L = sumL (L.take k) + sumL (L.drop k) := by
    unfold sumL
    rw [← List.sum_append, ← List.map_append, List.take_append_drop]
  omega
theorem used36 (w : World) (T : Nat → Prop) (g : Nat) (t : Dt) (h : Wk w T g t) (hb : t.L.length ≤ 1000000000) (hs : sumL t.L ≤ 140737488355328) :
    Calls Try.prog 31 #[.pointer (some ⟨g, 0, none⟩)] w fun e w' => e = .returned (.int .i64 (sumL t.L : Nat)) ∧ w' = w := by
  have c0 := h.cs.c0
  rcases row_at h.row with ⟨hL, a, c, hv⟩ | ⟨q, c, hv, hc, hq, _, _, hcell⟩
  · rw [hL]
    rw [hv] at c0
    clear h hv hL hb hs
    go_enter Try.func31, Try.ntmps31
    go_wp2_with fail
    refine wp_loop_rounds 1 ?_
    rw [rounds_succ]
    go_wp2_with fail
    go_ret
    first | trivial | exact ⟨rfl, rfl⟩
  · rw [hv] at c0
    have HE : Hid (∀ k, k < t.L.length → ∃ a cc, (t.L.getD k e0).bv = .slice a (t.L.getD k e0).bs.length cc) := Lib.hid fun k hk => by
      have hm : t.L.getD k e0 ∈ t.L := by rw [List.getD_eq_getElem?_getD, List.getElem?_eq_getElem hk]; exact List.getElem_mem _
      exact (h.ent _ hm).1.forms
    obtain ⟨n, hn⟩ : ∃ n, n = t.L.length := ⟨_, rfl⟩
    have HTK : Hid (sumL (t.L.take n) = sumL t.L) := Lib.hid (by rw [hn, List.take_length])
    rw [← hn] at c0 hc hcell hb HE
    have HN := Lib.hid hn
    have HC := Lib.hid hcell
    have HS := Lib.hid hs
    clear h hv hn hcell hq hs
    go_enter Try.func31, Try.ntmps31
    go_wp2_with fail
    go_loopw [3, 4, 10] (fun u _ i wr => ∃ k, k ≤ n ∧ i = .int .i64 (k : Nat) ∧ u = .int .i64 (sumL (t.L.take k) : Nat) ∧ wr = w) (fun _ _ i _ => n - (intOf i).toNat)
    case atStart => exact ⟨0, Nat.zero_le _, rfl, rfl, by first | rfl | trivial⟩
    case round =>
      obtain ⟨k, hk, rfl, rfl, rfl⟩ := hrel
      by_cases hkn : k < n
      · have cn := (HC.out k hkn).2.1
        obtain ⟨ea, ecc, he⟩ := HE.out k hkn
        have hst := sumL_take t.L k (by rw [← HN.out]; exact hkn)
        have hle := sumL_le t.L (k + 1)
        obtain ⟨l, hl⟩ : ∃ l, l = (t.L.getD k e0).bs.length := ⟨_, rfl⟩
        obtain ⟨U, hU⟩ : ∃ U, U = sumL (t.L.take k) := ⟨_, rfl⟩
        rw [he, ← hl] at cn
        rw [← hl, ← hU] at hst
        rw [← hU]
        have q : IntKind.i64.wrap ((U : Int) + (l : Nat)) = ((U + l : Nat) : Int) := by have := HS.out; rw [IntKind.wrap_i64]; omega
        have HST := Lib.hid hst
        clear he hl hU hst hle
        go_wp2_with fail
        go_roundw
        case rel => exact ⟨k + 1, by omega, by go_num, by rw [HST.out, Int.natCast_add], by first | rfl | trivial⟩
        case measure => simp [intOf]; omega
      · have ek : n = k := by omega
        subst ek
        clear hkn
        go_wp2_with fail
        go_ret
        rw [HTK.out]
        first | trivial | exact ⟨rfl, rfl⟩
end Yb
end Go.Proofs.Ytcjfdebjgaohlaa

/- The document's disk: one file of the row turns; Read, Sync, Cut. -/
namespace Go.Proofs.Ytcjfdebjgaohlaa
open Go.RowKit Go.Maps Go.ChangeMaps Go.MapKept
namespace Yc
open Jb Jm Jd Jw Jx Jn J1 J9 Ya Yb

theorem ecs_set (L : List En) : ∀ (A : Nat) (bv' : Value) (bs' : List Nat) (k' : Nat), A < L.length →
    ((ecs L).set (A * 3 + 1) bv').set (A * 3 + 2) (.int .i64 (k' : Nat)) = ecs (L.set A ⟨(L.getD A e0).name, bv', bs', k'⟩) := by
  induction L with
  | nil => intro A _ _ _ h; simp at h
  | cons x r ih =>
    intro A bv' bs' k' h
    have e : ecs (x :: r) = .string x.name :: x.bv :: .int .i64 (x.syn : Nat) :: ecs r := rfl
    cases A with
    | zero => rfl
    | succ A =>
      have e2 : ecs ((x :: r).set (A + 1) ⟨((x :: r).getD (A + 1) e0).name, bv', bs', k'⟩) = .string x.name :: x.bv :: .int .i64 (x.syn : Nat) :: ecs (r.set A ⟨(r.getD A e0).name, bv', bs', k'⟩) := by
        simp [ecs, ec, List.getD_eq_getElem?_getD]
      rw [e2, ← ih A bv' bs' k' (by simpa using h), e]
      rw [show (A + 1) * 3 + 1 = (A * 3 + 1) + 1 + 1 + 1 by omega, show (A + 1) * 3 + 2 = (A * 3 + 2) + 1 + 1 + 1 by omega]
      rfl
theorem ecs_set2 (L : List En) (A k' : Nat) (h : A < L.length) : (ecs L).set (A * 3 + 2) (.int .i64 (k' : Nat)) = ecs (L.set A ⟨(L.getD A e0).name, (L.getD A e0).bv, (L.getD A e0).bs, k'⟩) := by
  have h1 := ecs_set L A (L.getD A e0).bv (L.getD A e0).bs k' h
  have h2 : (ecs L).set (A * 3 + 1) (L.getD A e0).bv = ecs L := by
    have hg := ecs_get L A 1 h (by decide)
    apply List.ext_getElem?
    intro i
    by_cases hi : i = A * 3 + 1
    · subst hi
      rw [List.getElem?_set]
      simp only [if_true]
      rw [hg]
      have : A * 3 + 1 < (ecs L).length := by rw [ecs_len]; omega
      rw [if_pos this]
      rfl
    · rw [List.getElem?_set, if_neg (fun e => hi e.symm)]
  rw [h2] at h1
  exact h1
/-- One file's slice and number have turned in the row. -/
theorem Wk.turn {w w' : World} {T : Nat → Prop} {g q c A : Nat} {t : Dt} (h : Wk w T g t) (hv : t.fvv = .slice (some ⟨q, 0, none⟩) t.L.length c) (_ : A < t.L.length) {bv' : Value} {bs' : List Nat} {k' : Nat} {T' : Nat → Prop}
    (hw : w'.heap.size = w.heap.size) (hg : w'.heap[g]? = w.heap[g]?) (ho : w'.ownsRow 0 65 3 t.fvv t.L.length (ecs (t.L.set A ⟨(t.L.getD A e0).name, bv', bs', k'⟩))) (hb : ∀ k, k ≠ q → w'.heap[k]? = w.heap[k]?)
    (hT : ∀ k, T k → T' k) (hl : ∀ k, T' k → k < w.heap.size) (hs : Src w (fun k => T' k ∧ k ≠ g ∧ t.fvv.ownBlock ≠ some k) bv' bs') (hc : ∀ c, bv' = .slice none bs'.length c → c = 0) (hby : ∀ x ∈ bs', x < 256) (hk : k' ≤ bs'.length) :
    Wk w' T' g { t with L := t.L.set A ⟨(t.L.getD A e0).name, bv', bs', k'⟩ } := by
  have hq : t.fvv.ownBlock = some q := by rw [hv]; rfl
  refine ⟨⟨(World.cell?_of_block hg).trans h.cs.c0, (World.cell?_of_block hg).trans h.cs.c1, (World.cell?_of_block hg).trans h.cs.c2, (World.cell?_of_block hg).trans h.cs.c3, (World.cell?_of_block hg).trans h.cs.c4, fun i => (World.frozen?_of_block hg).trans (h.cs.z i), h.cs.br, h.cs.bf, h.cs.fz⟩,
    hT g h.tg, fun k hk => by rw [hw]; exact hl k hk, by rw [List.length_set]; exact ho, fun k hk => ⟨hT k (h.rb k hk).1, (h.rb k hk).2⟩, fun x hx => ?_⟩
  have hne : ∀ k, t.fvv.ownBlock ≠ some k → k ≠ q := fun k hk e => hk (by rw [hq, e])
  rcases List.mem_or_eq_of_mem_set hx with hx | hx
  · obtain ⟨a, r⟩ := h.ent x hx
    exact ⟨(a.imp fun k hk => ⟨hT k hk.1, hk.2⟩).move fun k hk _ => hb k (hne k hk.2.2), r⟩
  · subst hx
    exact ⟨hs.move fun k hk _ => hb k (hne k hk.2.2), hc, hby, hk⟩
theorem mem_getD {L : List En} {A : Nat} (h : A < L.length) : L.getD A e0 ∈ L := by rw [List.getD_eq_getElem?_getD, List.getElem?_eq_getElem h]; exact List.getElem_mem _
set_option maxRecDepth 100000
theorem rread_down (w : World) (T : Nat → Prop) (g : Nat) (s : ByteArray) (t : Dt) (h : Wk w T g t) (hd : t.down = true) :
    Calls Try.prog 27 #[.pointer (some ⟨g, 0, none⟩), .string s] w fun e w' => e = .returned (.tuple #[.slice none 0 0, .int .i64 8]) ∧ w' = w := by
  have F := Lib.hid (there_down w g s t h.cs hd)
  clear h hd
  go_enter Try.func27, Try.ntmps27
  go_wp2_with (go_at_call 42; refine (F.out).mono ?_; rintro e w ⟨rfl, rfl⟩)
  refine bodyPost_ret (v := .tuple #[.slice none 0 0, .int .i64 8]) (by simp [results, Try.results27, go_sem]) rfl ⟨rfl, rfl⟩
theorem rread_none (w : World) (T : Nat → Prop) (g : Nat) (s : ByteArray) (t : Dt) (h : Wk w T g t) (hd : t.down = false) (hA : At1 t.L s t.L.length) (hb : t.L.length ≤ 1000000000) :
    Calls Try.prog 27 #[.pointer (some ⟨g, 0, none⟩), .string s] w fun e w' => e = .returned (.tuple #[.slice none 0 0, .int .i64 6]) ∧ w' = w := by
  have F := Lib.hid (there_none w T g s t h hd hA hb)
  clear h hd hA hb
  go_enter Try.func27, Try.ntmps27
  go_wp2_with (go_at_call 42; refine (F.out).mono ?_; rintro e w ⟨rfl, rfl⟩)
  refine bodyPost_ret (v := .tuple #[.slice none 0 0, .int .i64 6]) (by simp [results, Try.results27, go_sem]) rfl ⟨rfl, rfl⟩
theorem rread_some (w : World) (T : Nat → Prop) (g : Nat) (s : ByteArray) (t : Dt) (h : Wk w T g t) (hd : t.down = false) (A : Nat) (hA : At1 t.L s A) (hlt : A < t.L.length) (hb : t.L.length ≤ 1000000000) :
    Calls Try.prog 27 #[.pointer (some ⟨g, 0, none⟩), .string s] w fun e w' => e = .returned (.tuple #[(t.L.getD A e0).bv, .int .i64 0]) ∧ w' = w := by
  have F := Lib.hid (there_some w T g s t h hd A hA hlt hb)
  have c0 := h.cs.c0
  obtain ⟨ea, ec, he⟩ := (h.ent _ (mem_getD hlt)).1.forms
  rcases row_at h.row with ⟨hL, _⟩ | ⟨q, c, hv, hc, hq, _, _, hcell⟩
  · rw [hL] at hlt; simp at hlt
  have cn := (hcell A hlt).2.1
  rw [he] at cn ⊢
  rw [hv] at c0
  obtain ⟨n, hn⟩ : ∃ n, n = t.L.length := ⟨_, rfl⟩
  obtain ⟨l, hl⟩ : ∃ l, l = (t.L.getD A e0).bs.length := ⟨_, rfl⟩
  rw [← hl] at cn ⊢
  rw [← hn] at c0 hlt
  have hA0 : (0 : Int) ≤ (A : Int) := by omega
  clear h hd hA hb hv hcell he hn hl hc hq
  go_enter Try.func27, Try.ntmps27
  go_wp2_with (go_at_call 42; refine (F.out).mono ?_; rintro e w ⟨rfl, rfl⟩)
  refine bodyPost_ret (v := .tuple #[.slice ea l ec, .int .i64 0]) (by simp [results, Try.results27, go_sem]) rfl ⟨rfl, rfl⟩
end Yc
end Go.Proofs.Ytcjfdebjgaohlaa
