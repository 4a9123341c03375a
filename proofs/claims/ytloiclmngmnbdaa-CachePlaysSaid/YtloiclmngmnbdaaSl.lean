/- The keys of a map, collected. -/
import Derived.Test.YtloiclmngmnbdaaSk
import Derived.Test.YtloiclmngmnbdaaLi
namespace Go.Proofs.Ytloiclmngmnbdaa
open Go.RowKit Go.Maps Go.ChangeMaps Go.MapKept Go.Shelf
attribute [local go_sem] Oper.semAt_some
namespace Sl
open Jb Ca Ck Sk Li

def kc (x : Ky) : List Value := [.string x.1, .string x.2]
def kcs (l : List Ky) : List Value := l.flatMap kc
theorem kcs_snoc (l : List Ky) (x : Ky) : kcs (l ++ [x]) = kcs l ++ [.string x.1, .string x.2] := by simp [kcs, kc]
theorem info65 : (Try.prog.info? 65).map (fun i => (i.zero, i.size, i.bytes)) = some (some (.agg #[.string ⟨#[]⟩, .string ⟨#[]⟩]), 2, 32) := by kernel_rfl
/-- A place's box. -/
def Bk (W : World) (B : Nat) (x : Ky) : Prop := W.heap[B]? = some (.cells #[.string x.1, .string x.2] 65)
set_option maxRecDepth 100000 in
set_option maxHeartbeats 2000000 in
theorem append61 (F : Fence) (n : Nat) (h61 : F.fn 61) (h47 : F.fn 47) (hro : F.round = none) (hn : 2 ≤ n) (Bm nn : Nat) (G : Ky → Option Nat) (hnn : nn ≤ 140737488355) (w : World)
    (hS : SeqStopsA F (n - 1) Try.prog 47 #[.pointer (some ⟨Bm, 0, none⟩)] (fun x : Ky => #[kv x]) (All G nn) (fun _ => True) nn w) :
    CallsIn F n Try.prog 61 #[.slice none 0 0, .func (.func 47) #[] #[.pointer (some ⟨Bm, 0, none⟩)]] w fun e W' => ∃ v xs, e = .returned v ∧ All G nn xs ∧ W'.ownsRow w.heap.size 65 2 v xs.length (kcs xs) ∧ Below w.heap.size w W' := by
  have h1 : 1 ≤ n := by omega
  obtain ⟨i0, hi, hz0, hz1, hz2⟩ := info_parts info65
  refine callsIn_of_wp_marks Try.func61 rfl h61 ?_ hro
  simp only [Try.ntmps61, List.size_toArray, List.length_cons, List.length_nil, Nat.reduceAdd, Nat.reduceSub, Array.replicate_succ, Array.replicate_zero, List.push_toArray, List.append_toArray, List.nil_append, List.cons_append]
  gi_wp2
  have bO := Boxed.new w 69 (.slice none 0 0)
  have hB0 : Below w.heap.size w (w.alloc (.cells #[.slice none 0 0] 69)) := (Below.refl _ w).alloc (Nat.le_refl _) _
  refine wpIn_rangeFunc_ownH hro h1 (gf := 47) (lb := #[.pointer (some ⟨Bm, 0, none⟩)]) rfl h47 (enters_of Try.func47 (by kernel_rfl) rfl)
    hS walksK_t walksK_b hB0 (fun _ => rfl)
    (fun pre W => (∃ v, Boxed W w.heap.size 69 v ∧ W.ownsRow w.heap.size 65 2 v pre.length (kcs pre) ∧ True) ∧ Below w.heap.size w W)
    (fun _ _ _ => False)
    (OwnFrom.and (Own.from (holdsRow_own w.heap.size w.heap.size 69 65 2 (fun pre : List Ky => pre.length) (fun pre => kcs pre) (fun _ _ => True)) _) (ownFrom_below (Nat.le_refl _) (by simp)))
    (fun _ _ _ _ _ hs _ _ => hs)
    ⟨⟨_, bO, World.ownsRow_nil _ _ _ _, trivial⟩, hB0⟩
    (fun x a' W => ∃ Bx, w.heap.size < Bx ∧ Bk W Bx x ∧ a' = { tmps := #[.slice none 0 0, .func (.func 47) #[] #[.pointer (some ⟨Bm, 0, none⟩)], .pointer (some ⟨w.heap.size, 0, none⟩), undef, .slice none 0 0, .pointer (some ⟨Bx, 0, none⟩), .func (.func 47) #[] #[.pointer (some ⟨Bm, 0, none⟩)], .agg #[.string x.1, .string x.2], undef, undef, undef, undef, undef], defers := [] })
    (fun x a' _ X Y row hs hg hr => by
      obtain ⟨Bx, h1, h2, h3⟩ := hs
      refine ⟨Bx, h1, (hg.block Bx (Array.getElem?_eq_some_iff.1 h2).1 (fun e => ?_)).trans h2, h3⟩
      obtain ⟨o, ho, hc⟩ := (hr Bx e.symm).2
      rw [h2] at ho; cases ho; cases hc)
    ?assign ?body ?done ?stop
  case assign =>
    rintro l pre x W K ⟨⟨v, hv, hrow, _⟩, hB⟩ hK
    unfold kv
    gi_wp2
    exact hK _ _ ((KeepsOthers.alloc _ _).from _) (KeepsWalks.alloc _ _) ⟨⟨v, hv.alloc _, hrow.alloc _, trivial⟩, hB.alloc hB.size _⟩ ⟨W.heap.size, hv.lt, World.alloc_heap_new W _, rfl⟩
  case body =>
    rintro l pre x a' W hl ⟨r, hr⟩ ⟨⟨v, hv, hrow, _⟩, hB⟩ ⟨Bx, hBx, bX, rfl⟩ hlt
    have hc := hv.cell
    have x0 := cell_at bX 0
    have x1 := cell_at bX 1
    simp at x0 x1
    have HC : ∀ j u, [Value.string x.1, Value.string x.2][j]? = some u → (W.alloc (.cells #[.string x.1, .string x.2] 65)).cell? ((⟨W.heap.size, 0, none⟩ : Addr).add j) = some u := fun j u hj => by
      have hb := heap_alloc_new W (.cells #[.string x.1, .string x.2] 65)
      match j, hj with
      | 0, hj => cases hj; simp [Addr.add, cell_at hb 0]
      | 1, hj => cases hj; simp [Addr.add, cell_at hb 1]
    have hmx : pre.length + 1 ≤ maxLen := by unfold maxLen; omega
    gi_wp2_with (gi_at_builtin; refine wpListIn_append_own _ rfl _ _ 69 rfl w.heap.size 65 i0 _ 2 32 Try.underlying69 hi hz0 hz1 hz2 rfl (by decide) _ _ _ rfl (hrow.alloc _) ⟨W.heap.size, 0, none⟩ 1 1 [.string x.1, .string x.2] rfl rfl HC (by simp [Value.oneCell']) hmx (by omega) (by have := hB.size; simp; omega) ?_; intro v' w1 hown' hgrow _; obtain ⟨g', cap', rfl⟩ := ownsRow_succ hown'; obtain ⟨hv1, hv2, hr2, hk2, hb2⟩ := hv.appended (by decide) hrow hB.size (Nat.le_refl _) hown' hgrow; have hc1 := hv1.cell; have hf1 := hv1.frozen)
    exact ⟨hk2.from _, hk2.walks, ⟨_, hv2, by rw [kcs_snoc]; simpa using hr2, trivial⟩, hB.trans hb2⟩
  case done =>
    rintro D ys W hD hys ⟨⟨v, hv, hrow, _⟩, hB⟩ hK
    have hc := hv.cell
    gi_wp2
    refine ⟨by simp, .inl ⟨_, _, rfl, run_takeDeferred hK, ?_⟩⟩
    exact ⟨_, results_tmp rfl _ _ _, v, ys, rfl, hys, ownsRow_putObj hrow _ hK rfl, hB.trans (belowK_b (w := w) (Nat.le_refl _) W D _ _ (by simp at hD; omega) hK rfl rfl)⟩
  case stop =>
    rintro D c pre W _ _ h _
    exact h.elim
set_option maxHeartbeats 1000000 in
theorem collect45 (F : Fence) (n : Nat) (h45 : F.fn 45) (h61 : F.fn 61) (h47 : F.fn 47) (hro : F.round = none) (hn : 3 ≤ n) (Bm nn : Nat) (G : Ky → Option Nat) (hnn : nn ≤ 140737488355) (w : World)
    (hS : SeqStopsA F (n - 1 - 1) Try.prog 47 #[.pointer (some ⟨Bm, 0, none⟩)] (fun x : Ky => #[kv x]) (All G nn) (fun _ => True) nn w) :
    CallsIn F n Try.prog 45 #[.func (.func 47) #[] #[.pointer (some ⟨Bm, 0, none⟩)]] w fun e W' => ∃ v xs, e = .returned v ∧ All G nn xs ∧ W'.ownsRow w.heap.size 65 2 v xs.length (kcs xs) ∧ Below w.heap.size w W' := by
  have h1 : 1 ≤ n := by omega
  have hcon := append61 F (n - 1) h61 h47 hro (by omega) Bm nn G hnn w hS
  refine callsIn_of_wp Try.func45 rfl h45 ?_ hro
  simp only [Try.ntmps45, List.size_toArray, List.length_cons, List.length_nil, Nat.reduceAdd, Nat.reduceSub, Array.replicate_succ, Array.replicate_zero, List.push_toArray, List.append_toArray, List.nil_append, List.cons_append]
  gi_wp2_with (gi_at_call 61; refine hcon.mono ?_; rintro e w' ⟨v, xs, rfl, ha, ho, hb⟩)
  go_ret
  exact ⟨v, xs, rfl, ha, ho, hb⟩
/-- All keys of a map, collected: whatever map. -/
theorem keys_all (w : World) (Bm : Nat) (mb : Option Nat) (nn : Nat) (G : Ky → Option Nat) (hnn : nn ≤ 140737488355) (hBm : Bm < w.heap.size) (hm : w.cell? ⟨Bm, 0, none⟩ = some (.map mb)) (hown : Mv w mb nn G) :
    Calls Try.prog 45 #[.func (.func 47) #[] #[.pointer (some ⟨Bm, 0, none⟩)]] w fun e W' => ∃ v xs, e = .returned v ∧ All G nn xs ∧ W'.ownsRow w.heap.size 65 2 v xs.length (kcs xs) ∧ Below w.heap.size w W' := by
  refine (callsIn_wide (n := 4)).1 ?_
  exact collect45 _ 4 trivial trivial trivial rfl (by decide) Bm nn G hnn w (stops47 _ 2 trivial rfl (by decide) Bm mb nn G w hBm hm hown)
end Sl
end Go.Proofs.Ytloiclmngmnbdaa
