/- The keys of a map from places, one after another. -/
import Derived.Test.YtloiclmngmnbdaaCk
import Derived.RangeFuncNested
import Derived.RangeFuncBound
import Derived.RangeFuncCalls
import Derived.RangeFuncLeaves
import Derived.RangeFuncStops
import Derived.RangeFuncBox
import Derived.Shelf.Abstract
import Derived.OwnWalkIn
import Derived.TacticsInMore
import Derived.LoopNIn
import Derived.LoopIn
import Derived.Sort.MapsRangeIn
import Derived.Sort.KeysCollected
import Derived.Maps.AppendAt
namespace Go.Proofs.Ytloiclmngmnbdaa
open Go.RowKit Go.Maps Go.ChangeMaps Go.MapKept Go.Shelf
attribute [local go_sem] Oper.semAt_some
namespace Sk
open Jb Ca Ck

theorem cells65 : Try.prog.cellsOf 65 = 2 := by kernel_rfl
set_option maxRecDepth 100000 in
theorem lit9 {m : Nat} {a : Value} {ls : List Lit} (h : Try.prog.keyLits (m + 1) 9 [a] = some ls) : ∃ s : ByteArray, a = .string s ∧ ls = [.string s.data.toList] := by
  unfold Program.keyLits at h
  rw [Try.underlying9] at h
  split at h <;> simp_all
set_option maxRecDepth 100000 in
/-- What reads as a key is a place. -/
theorem keyOf_inv {v : Value} {kl : Lit} (h : keyOf Try.prog 65 v = some kl) : ∃ s : Ky, v = kv s ∧ kl = key s := by
  have hz : Try.prog.types.size = 161 := by kernel_rfl
  obtain ⟨m, hm⟩ : ∃ m, Try.prog.types.size + 1 = m + 1 + 1 := ⟨160, by rw [hz]⟩
  unfold keyOf at h
  simp only [Try.underlying65] at h
  rw [hm] at h
  split at h
  · rename_i hc
    simp only [Bool.and_eq_true] at hc
    obtain ⟨_, hf⟩ := hc
    cases v with
    | agg cs =>
      simp only [Value.formed, Try.underlying65, cells65, beq_iff_eq] at hf
      obtain ⟨l⟩ := cs
      match l, hf with
      | [a, b], _ =>
        obtain ⟨ls, h1, h2⟩ := Option.map_eq_some_iff.1 h
        unfold Program.keyLits at h1
        simp only [Try.underlying65, Value.cells, cells65] at h1
        split at h1
        · obtain ⟨lls, h3, h4⟩ := Option.map_eq_some_iff.1 h1
          simp only [List.mapM_cons, List.mapM_nil, show Try.prog.cellsOf 9 = 1 from by kernel_rfl, List.drop_zero, List.drop_succ_cons, List.take_succ_cons, List.take_zero] at h3
          cases e1 : Try.prog.keyLits (m + 1) 9 [a] with
          | none => simp [e1] at h3
          | some l1 =>
            cases e2 : Try.prog.keyLits (m + 1) 9 [b] with
            | none => simp [e1, e2] at h3
            | some l2 =>
              obtain ⟨s, rfl, rfl⟩ := lit9 e1
              obtain ⟨f, rfl, rfl⟩ := lit9 e2
              simp [e1, e2] at h3
              subst h3
              subst h4
              exact ⟨(s, f), rfl, h2.symm⟩
        · cases h1
    | _ => simp [Value.formed, Try.underlying65] at hf
  · cases h
/-- What has come, and what is still to come. -/
def Col (D : DataW Unit) (left : Lit → Bool) (ss : List Ky) : Prop := ss.Nodup ∧ ∀ x, x ∈ ss ↔ (ok x ∧ Maps.has D (key x) = true ∧ left (key x) = false)
theorem Col.start (D : DataW Unit) : Col D (Maps.has D) [] := ⟨List.nodup_nil, fun x => by cases Maps.has D (key x) <;> simp⟩
theorem sameKey_str (a b : List UInt8) : (Lit.string a).sameKey (.string b) = true ↔ a = b := by simp [Lit.sameKey]
theorem Col.step {D : DataW Unit} {left : Lit → Bool} {ss : List Ky} (h : Col D left ss) {x : Ky} {y : DataW Unit} (hx : ok x) (hlk : left (key x) = true) (hat : ∀ zd, D.atKey (key x) zd = y) : Col D (fun z => left z && !z.sameKey (key x)) (ss ++ [x]) := by
  have hhas : Maps.has D (key x) = true := has_true_of_atKey hat
  have hnew : x ∉ ss := fun hm => by have := ((h.2 x).1 hm).2.2; rw [hlk] at this; cases this
  refine ⟨List.nodup_append.2 ⟨h.1, by simp, fun a ha b hb => by simp at hb; subst hb; exact fun e => hnew (e ▸ ha)⟩, fun y => ?_⟩
  by_cases hy : y = x
  · subst hy
    have : (key y).sameKey (key y) = true := by unfold key; exact (sameKey_str _ _).2 rfl
    simp [hx, hhas, this]
  · rw [List.mem_append, h.2 y]
    simp only [List.mem_singleton, hy, or_false]
    constructor
    · rintro ⟨q1, q2, q3⟩
      exact ⟨q1, q2, by rw [q3]; rfl⟩
    · rintro ⟨q1, q2, q3⟩
      refine ⟨q1, q2, ?_⟩
      have hs : (key y).sameKey (key x) = false := by
        cases hs : (key y).sameKey (key x) with
        | false => rfl
        | true =>
          have : key y = key x := by unfold key at hs ⊢; rw [(sameKey_str _ _).1 hs]
          exact absurd (key_inj q1 hx this) hy
      rw [hs] at q3
      simpa using q3
/-- The places that a map has, each once. -/
def All (F : Ky → Option Nat) (nn : Nat) (ss : List Ky) : Prop := ss.Nodup ∧ (∀ x, x ∈ ss ↔ F x ≠ none) ∧ ss.length ≤ nn
theorem has_ok {F : Ky → Option Nat} {D : DataW Unit} (h3 : ∀ l, Maps.has D l = true → ∃ s, F s ≠ none ∧ l = key s) (h2 : ∀ s, F s ≠ none → ok s) {x : Ky} {kl : Lit} (hk : keyOf Try.prog 65 (kv x) = some kl) (hh : Maps.has D kl = true) : ok x ∧ kl = key x := by
  obtain ⟨s, hs, rfl⟩ := h3 kl hh
  have e : x = s := kv_inj (law.inj hk (keyOf_s (h2 s hs)))
  exact ⟨e ▸ h2 s hs, by rw [e]⟩
set_option maxRecDepth 100000 in
set_option maxHeartbeats 1000000 in
/-- What the function that gives the keys does, whatever the loop's body. -/
theorem keys47 (F : Fence) (n : Nat) (h47 : F.fn 47) (hro : F.round = none) (hn : 1 ≤ n) (l Bm b nn : Nat) (G : Ky → Option Nat) (J Jx : List Ky → World → Prop)
    (hY : ∀ pre x W, J pre W → pre.length < nn → YieldAt F (n - 1) Try.prog l #[kv x] W fun e W' =>
      (e = .returned (.bool true) ∧ J (pre ++ [x]) W' ∧ KeepsWalks W W') ∨ (e = .returned (.bool false) ∧ Jx (pre ++ [x]) W'))
    (W : World) (hJ : AbidesFrom W.heap.size J) (hm : W.cell? ⟨Bm, 0, none⟩ = some (.map (some b))) (hown : Is W b nn G) (h0 : J [] W) :
    CallsIn F n Try.prog 47 #[.func (.yield l) #[] #[], .pointer (some ⟨Bm, 0, none⟩)] W fun e W' => (∃ v, e = .returned v) ∧
      ((∃ ss : List Ky, All G nn ss ∧ J ss W') ∨ (∃ pre : List Ky, pre.Nodup ∧ Jx pre W')) := by
  obtain ⟨D0, hown, hG, hH, hA⟩ := hown
  have hD := hown.size_le
  have hfin : ∀ left ss, Col D0 left ss → (∀ kl, left kl = false) → ss.length ≤ nn → All G nn ss := fun left ss hC hl hle => ⟨hC.1, fun x => by
    rw [hC.2 x]
    constructor
    · rintro ⟨q1, q2, _⟩ e
      rw [((hA x q1).1 e)] at q2
      cases q2
    · intro e
      have q1 := hG x e
      refine ⟨q1, ?_, hl _⟩
      cases e' : G x with
      | none => exact absurd e' e
      | some q => exact ((hA x q1).2 q e').1, hle⟩
  have HF := Lib.hid hfin
  have HH := Lib.hid (And.intro hG (And.intro hH hA))
  clear hfin hG hH hA
  refine callsIn_of_wp Try.func47 rfl h47 ?_ hro
  simp only [Try.ntmps47, List.size_toArray, List.length_cons, List.length_nil, Nat.reduceAdd, Nat.reduceSub, Array.replicate_succ, Array.replicate_zero, List.push_toArray, List.append_toArray, List.nil_append, List.cons_append]
  gi_wp2_with (first
    | (gi_at_range; refine wpListIn_range_own _ rfl _ 58 rfl 65 62 law Try.underlying58 R b nn _ rfl hown ?_; intro w0 hrg0 hg0 hs0)
    | gi_in)
  go_frame
  gi_loopw [3] (fun _ wr => ∃ (left : Lit → Bool) (cnt : Nat) (ss : List Ky), wr.ranges Try.prog 65 R b W.heap.size nn D0 left cnt ∧ ss.length + cnt ≤ Maps.size D0 ∧ Col D0 left ss ∧ J ss wr)
    (fun _ wr => wr.rangeLeft b W.heap.size)
  case atStart =>
    exact ⟨_, _, [], hrg0, by simp, Col.start D0, hJ [] W w0 none h0 hg0 (fun r e => by cases e)⟩
  case round =>
    obtain ⟨left, cnt, ss, hrg, hcs, hC, hJs⟩ := hrel
    gi_wp2_with (first
      | (gi_at_next; refine wpListIn_next_ranges _ rfl _ rfl 65 law R kv id (fun key kl hk => by obtain ⟨x, hx, _⟩ := keyOf_inv hk; exact ⟨x, hx⟩) (fun v _ _ => ⟨v, rfl⟩) b W.heap.size nn _ _ _ rfl hrg ?_ ?_)
      | gi_in)
    · intro hc0 hl0
      gi_wp2
      go_end0
      exact ⟨⟨_, rfl⟩, .inl ⟨ss, HF.out _ _ hC hl0 (by omega), hJs⟩⟩
    · intro x1 x2 c kl yd yp w2 cnt2 hkey hlk hv hat hrg2 hlt hg2 hs2 hen
      obtain ⟨x, hx⟩ : ∃ x : Ky, x = (x1, x2) := ⟨_, rfl⟩
      rw [← hx] at hkey hen
      obtain rfl : x1 = x.1 := by rw [hx]
      obtain rfl : x2 = x.2 := by rw [hx]
      clear hx
      have hhas : Maps.has D0 kl = true := has_true_of_atKey hat
      obtain ⟨hok, rfl⟩ := has_ok HH.out.2.1 HH.out.1 hkey hhas
      have hJ2 : J ss w2 := hJ ss wr w2 (some W.heap.size) hJs hg2 (fun r e => by cases e; exact ⟨Nat.le_refl _, hrg.iter_walk⟩)
      have hJ3 : J ss (w2.alloc (.cells #[.string x.1, .string x.2] 65)) := hJ ss w2 _ none hJ2 (World.grownBy_alloc _ _ none) (fun r e => by cases e)
      obtain ⟨fn, tmps, assign, body, hy, hR⟩ := hY ss x _ hJ3 (by omega)
      unfold kv at hen hy
      clear hs2
      gi_wp2
      refine hR.mono ?_
      have hC2 := hC.step hok hlk hat
      rintro e W3 (⟨rfl, hJ4, hk3⟩ | ⟨rfl, hJx3⟩)
      · gi_wp2
        have hrg3 := (hrg2.of_walks (KeepsWalks.alloc w2 (.cells #[.string x.1, .string x.2] 65))).of_walks hk3
        go_roundw
        case rel => exact ⟨_, cnt2, ss ++ [x], hrg3, by simp; omega, hC2, hJ4⟩
        case measure => rw [hrg3.left_eq, hrg.left_eq]; exact hlt
      · gi_wp2
        refine bodyPost_ret (results_none rfl _ _ _) rfl ?_
        exact ⟨⟨_, rfl⟩, .inr ⟨ss ++ [x], hC2.1, hJx3⟩⟩
set_option maxRecDepth 100000 in
set_option maxHeartbeats 1000000 in
/-- So it does where there is no map. -/
theorem keys47_nil (F : Fence) (n : Nat) (h47 : F.fn 47) (hro : F.round = none) (l Bm : Nat) (J : List Ky → World → Prop) (W : World) (hJ : AbidesFrom W.heap.size J) (hm : W.cell? ⟨Bm, 0, none⟩ = some (.map none)) (h0 : J [] W) :
    CallsIn F n Try.prog 47 #[.func (.yield l) #[] #[], .pointer (some ⟨Bm, 0, none⟩)] W fun e W' => (∃ v, e = .returned v) ∧ J [] W' := by
  refine callsIn_of_wp Try.func47 rfl h47 ?_ hro
  simp only [Try.ntmps47, List.size_toArray, List.length_cons, List.length_nil, Nat.reduceAdd, Nat.reduceSub, Array.replicate_succ, Array.replicate_zero, List.push_toArray, List.append_toArray, List.nil_append, List.cons_append]
  have hrg := run_range_nilMap (P := Try.prog) W 58 65 62 Try.underlying58
  have hnx : ∀ ty, (Instr.next (.pointer (some ⟨W.heap.size, 0, none⟩)) false ty).run Try.prog (W.alloc (.mapIter none 0 #[] 0)) = _ := fun ty => run_next_nilMap _ ty 0 0 #[]
  gi_wp2
  refine wpIn_loop_rounds 1 ?_
  rw [roundsIn_succ]
  gi_wp2
  go_end0
  exact ⟨⟨_, rfl⟩, hJ [] W _ none h0 (World.grownBy_alloc W _ none) (fun r e => by cases e)⟩
/-- What a cache's map has, be there one or not. -/
def Mv (w : World) (mb : Option Nat) (nn : Nat) (G : Ky → Option Nat) : Prop := match mb with | none => G = fun _ => none | some b => Is w b nn G
theorem stops47 (F : Fence) (n : Nat) (h47 : F.fn 47) (hro : F.round = none) (hn : 1 ≤ n) (Bm : Nat) (mb : Option Nat) (nn : Nat) (G : Ky → Option Nat) (w : World) (hBm : Bm < w.heap.size) (hm : w.cell? ⟨Bm, 0, none⟩ = some (.map mb)) (hown : Mv w mb nn G) :
    SeqStopsA F n Try.prog 47 #[.pointer (some ⟨Bm, 0, none⟩)] (fun x : Ky => #[kv x]) (All G nn) (fun _ => True) nn w := fun l J Jx W hW hJ _ hY h0 => by
  cases mb with
  | none =>
    refine (keys47_nil F n h47 hro l Bm J W hJ ((hW.cell (p := ⟨Bm, 0, none⟩) hBm).trans hm) h0).mono fun _ _ ⟨he, hj⟩ => ⟨he, .inl ⟨[], ?_, hj⟩⟩
    have e : G = fun _ => none := hown
    exact ⟨List.nodup_nil, fun x => by rw [e]; simp, Nat.zero_le _⟩
  | some b =>
    have hb := Is.lt hown
    exact (keys47 F n h47 hro hn l Bm b nn G J Jx hY W hJ ((hW.cell (p := ⟨Bm, 0, none⟩) hBm).trans hm) (Is.of_block hown (hW.block b hb)) h0).mono fun _ _ ⟨he, hj⟩ => ⟨he, hj.imp id (fun ⟨pre, _, h⟩ => ⟨pre, trivial, h⟩)⟩
end Sk
end Go.Proofs.Ytloiclmngmnbdaa
