import Derived.Test.YtcjfdebjgaohlaaG09
import Derived.RegionTactic
import Derived.Sort.Walk0
import Derived.BigQuiet
import Derived.Lib.AppendZeros

/- The document's disk: a file is taken out of the row. -/
namespace Go.Proofs.Ytcjfdebjgaohlaa
open Go.RowKit Go.Maps Go.ChangeMaps Go.MapKept
namespace Yg
open Jb Jm Jd Jw Jx Jn J1 J9 Ya Yb Yc Yd Ye Jh Yf

/-- A new row of these files, behind the world w2. -/
def Rn (w2 : World) (M : List En) (v : Value) (w : World) : Prop :=
  w.ownsRow 0 65 3 v M.length (ecs M) ∧ Below w2.heap.size w2 w ∧ (∀ k, v.ownBlock = some k → w2.heap.size ≤ k ∧ k < w.heap.size) ∧ ∃ a m k, v = .slice a m k
theorem Rn.append {w2 w : World} {M0 M : List En} {v src : Value} (h : Rn w2 M0 v w) (hs : RS w src M) (h1 : ∀ e ∈ M, e.bv.oneCell' = true) (hb : M0.length + M.length ≤ 2000000000) (ty : TypeId) :
    ∃ v' w', (Builtin.append_ #[43, 43] ty #[v, src]).run Try.prog w = .ok v' w' ∧ Rn w2 (M0 ++ M) v' w' := by
  obtain ⟨o, b, hv, _⟩ := h
  obtain ⟨v', w', hrun, r1, r2, r3⟩ := run_append_rows w v M0 o src M hs h1 hb ty
  have bel : Below w2.heap.size w2 w' := Below.grown b r2 b.size (fun r hr => (hv r hr).1)
  refine ⟨v', w', hrun, r1, bel, fun k hk => ?_, ?_⟩
  · refine ⟨?_, (r1.lt k hk).2⟩
    rcases r3 with e | e
    · exact (hv k (by rw [← e]; exact hk)).1
    · rw [e] at hk; cases hk; exact b.size
  · rcases row_at r1 with ⟨_, a, c, e⟩ | ⟨q, c, e, _⟩
    · exact ⟨_, _, _, e⟩
    · exact ⟨_, _, _, e⟩
theorem Rn.new {w2 w : World} (b : Below w2.heap.size w2 w) : Rn w2 [] (.slice (some ⟨w.heap.size, 0, none⟩) 0 0) (w.alloc (.cells #[] 65)).drew := by
  have o := World.ownsRow_lit (base := 0) (e := 65) (size := 3) w #[] 0 (Nat.zero_le _) (by unfold maxLen; omega) rfl
  refine ⟨o.drew, (b.alloc b.size _).drew, fun k hk => ?_, _, _, _, rfl⟩
  cases hk
  exact ⟨b.size, by simp⟩

set_option maxRecDepth 100000
set_option maxHeartbeats 20000000 in
theorem take52 (w : World) (T : Nat → Prop) (g : Nat) (t : Dt) (h : Wk w T g t) (A : Nat) (hA : A < t.L.length) (hb : t.L.length ≤ 1000000000) :
    Calls Try.prog 45 #[.pointer (some ⟨g, 0, none⟩), .int .i64 (A : Nat)] w fun e w' => e = .returned (.agg #[.string (t.L.getD A e0).name, (t.L.getD A e0).bv, .int .i64 ((t.L.getD A e0).syn : Nat)]) ∧
      (∃ v, Wk w' (New T w w') g { t with fvv := v, L := t.L.take A ++ t.L.drop (A + 1) }) ∧ Chg w w' (fun k => k = g) := by
  have hg := h.lt g h.tg
  obtain ⟨ea, ec, he⟩ := (h.ent _ (mem_getD hA)).1.forms
  rcases row_at h.row with ⟨hL, _⟩ | ⟨q, c, hv, hc, hq, _, hz, hcell⟩
  · rw [hL] at hA; simp at hA
  have hqg : q ≠ g := (h.rb q (by rw [hv]; rfl)).2
  obtain ⟨x1, x2, x3⟩ := hcell A hA
  rw [he] at x2 ⊢
  have c0 := h.cs.c0
  rw [hv] at c0
  obtain ⟨n, hn⟩ : ∃ n, n = t.L.length := ⟨_, rfl⟩
  obtain ⟨l, hl⟩ : ∃ l, l = (t.L.getD A e0).bs.length := ⟨_, rfl⟩
  obtain ⟨K, hK⟩ : ∃ K, K = (t.L.getD A e0).syn := ⟨_, rfl⟩
  obtain ⟨S, hS⟩ : ∃ S, S = (t.L.getD A e0).name := ⟨_, rfl⟩
  have B1 : Below w.heap.size w (w.alloc (.cells #[.string ⟨#[]⟩, .slice none 0 0, .int .i64 0] 65)) := (Below.refl _ _).alloc (Nat.le_refl _) _
  have d0 := (B1.cell (p := ⟨g, 0, none⟩) hg).trans c0
  have y1 := (B1.cell (p := ⟨q, A * 3, none⟩) hq).trans x1
  have y2 := (B1.cell (p := ⟨q, A * 3 + 1, none⟩) hq).trans x2
  have y3 := (B1.cell (p := ⟨q, A * 3 + 2, none⟩) hq).trans x3
  rw [← hS] at y1 ⊢
  rw [← hl] at y2 ⊢
  rw [← hK] at y3 ⊢
  rw [← hn] at d0
  have hAn : A < n := by omega
  have hA0 : (0 : Int) ≤ (A : Int) := by omega
  have C0 := Lib.hid (show w.cell? ⟨g, 0, none⟩ = some (.slice (some ⟨q, 0, none⟩) n c) from by rw [hn]; exact c0)
  have HZ0 := Lib.hid (h.cs.z 0)
  have H1 := Lib.hid (fun e (he : e ∈ t.L) => (show e.bv.oneCell' = true from by
    obtain ⟨a, k, r⟩ := (h.ent e he).1.forms
    rw [r]; rfl))
  have HN := Lib.hid hn
  have HL := Lib.hid hl
  have HK := Lib.hid hK
  have HS := Lib.hid hS
  have HWK := Lib.hid h
  have HQC := Lib.hid hcell
  have HBB := Lib.hid (And.intro hb hA)
  have HV := Lib.hid hv
  have HE := Lib.hid he
  rw [← hn] at hc
  obtain ⟨p, hp⟩ : ∃ p, p = A + 1 := ⟨_, rfl⟩
  have hwp : IntKind.i64.wrap ((A : Int) + 1) = (p : Int) := by rw [IntWalk.i64_left]; unfold wrap64; omega
  have HNP := Lib.hid (show c = p → n = p from fun e => by omega)
  have hpn : p ≤ n := by omega
  have hAc : A ≤ c := by omega
  have HP := Lib.hid (And.intro hp hwp)
  clear c0 x1 x2 x3 B1 h hcell hb hn hl hK hS hA hv he hz hp hwp
  go_enter Try.func45, Try.ntmps45
  go_upto_region 2 with (fail)
  have b2 : Below w.heap.size w ((w.alloc (.cells #[.string ⟨#[]⟩, .slice none 0 0, .int .i64 0] 65)).alloc (.cells #[.string S, .slice ea l ec, .int .i64 (K : Nat)] 65)) := ((Below.refl _ _).alloc (Nat.le_refl _) _).alloc (by simp) _
  have z4 : ((w.alloc (.cells #[.string ⟨#[]⟩, .slice none 0 0, .int .i64 0] 65)).alloc (.cells #[.string S, .slice ea l ec, .int .i64 (K : Nat)] 65)).heap[w.heap.size]? = some (.cells #[.string ⟨#[]⟩, .slice none 0 0, .int .i64 0] 65 (0, 0)) := (((Below.refl _ _).alloc (Nat.le_refl _) _).block w.heap.size (by simp)).trans (heap_alloc_new _ _)
  have z5 : ((w.alloc (.cells #[.string ⟨#[]⟩, .slice none 0 0, .int .i64 0] 65)).alloc (.cells #[.string S, .slice ea l ec, .int .i64 (K : Nat)] 65)).heap[w.heap.size + 1]? = some (.cells #[.string S, .slice ea l ec, .int .i64 (K : Nat)] 65 (0, 0)) := by
    have := heap_alloc_new (w.alloc (.cells #[.string ⟨#[]⟩, .slice none 0 0, .int .i64 0] 65)) (.cells #[.string S, .slice ea l ec, .int .i64 (K : Nat)] 65)
    rwa [show (w.alloc (.cells #[.string ⟨#[]⟩, .slice none 0 0, .int .i64 0] 65)).heap.size = w.heap.size + 1 from by simp] at this
  have hsz : ((w.alloc (.cells #[.string ⟨#[]⟩, .slice none 0 0, .int .i64 0] 65)).alloc (.cells #[.string S, .slice ea l ec, .int .i64 (K : Nat)] 65)).heap.size = w.heap.size + 2 := by simp
  clear d0 y1 y2 y3
  obtain ⟨w2, hw2⟩ : ∃ w2, w2 = (w.alloc (.cells #[.string ⟨#[]⟩, .slice none 0 0, .int .i64 0] 65)).alloc (.cells #[.string S, .slice ea l ec, .int .i64 (K : Nat)] 65) := ⟨_, rfl⟩
  rw [← hw2] at b2 z4 z5 hsz ⊢
  clear hw2
  have HY := Lib.hid (fun (y : World) (hy : Below w2.heap.size w2 y) => (show y.cell? ⟨g, 0, none⟩ = some (.slice (some ⟨q, 0, none⟩) n c) ∧ y.frozen? ⟨g, 0, none⟩ = false ∧ Below w.heap.size w y ∧ (∀ i, i < t.L.length → EAt y q (i * 3) (t.L.getD i e0)) from by
    have b := b2.trans (hy.mono b2.size)
    exact ⟨(b.cell hg).trans C0.out, (World.frozen?_of_block (b.block g hg)).trans HZ0.out, b, fun i hi => (HQC.out i hi).of_block (b.block q hq)⟩))
  have hlen : (t.L.take A).length = A := by rw [List.length_take]; have := HBB.out; omega
  have APR1 : Hid (∀ ty, ∃ v' w', (Builtin.append_ #[43, 43] ty #[.slice (some ⟨w2.heap.size, 0, none⟩) 0 0, .slice (some ⟨q, 0, none⟩) A c]).run Try.prog (w2.alloc (.cells #[] 65)).drew = .ok v' w' ∧ Rn w2 (t.L.take A) v' w') := Lib.hid fun ty =>
    Rn.append (M := t.L.take A) (Rn.new (Below.refl _ _)) (rs_take (HY.out _ ((Below.refl _ _).alloc (Nat.le_refl _) _).drew).2.2.2 A (Nat.le_of_lt HBB.out.2)) (fun e he => H1.out e (List.mem_of_mem_take he)) (by rw [hlen]; have := HBB.out; simp; omega) ty
  have APR2 : Hid (∀ o9, (o9 = p * 3 ∨ n = p) → ∀ v1 w3, Rn w2 (t.L.take A) v1 w3 → ∀ ty, ∃ v' w', (Builtin.append_ #[43, 43] ty #[v1, .slice (some ⟨q, o9, none⟩) (n - p) (c - p)]).run Try.prog w3 = .ok v' w' ∧ Rn w2 (t.L.take A ++ t.L.drop (A + 1)) v' w') := Lib.hid fun o9 ho v1 w3 r ty => by
    refine Rn.append r ?_ (fun e he => H1.out e (List.mem_of_mem_drop he)) (by rw [hlen, List.length_drop]; have := HBB.out; omega) ty
    have hn := HN.out
    have hp := HP.out.1
    by_cases e : n = p
    · exact .inl ⟨List.drop_eq_nil_iff.2 (by omega), .inr ⟨⟨q, o9, none⟩, c - p, by rw [show n - p = 0 from by omega]⟩⟩
    · have h1 : o9 = p * 3 := ho.resolve_right e
      rw [h1, hn, hp]
      exact rs_drop (HY.out w3 r.2.1).2.2.2 (A + 1)
  have FIN : Hid (∀ v2 w4 w6, Rn w2 (t.L.take A ++ t.L.drop (A + 1)) v2 w4 → w6.os = w4.os → w6.tape = w4.tape → w6.output = w4.output → w6.heap.size = w4.heap.size → (∀ k, k ≠ g → k ≠ w.heap.size → w6.heap[k]? = w4.heap[k]?) → w6.heap[g]? = (w4.setCell ⟨g, 0, none⟩ v2).heap[g]? →
      (∃ v, Wk w6 (New T w w6) g { t with fvv := v, L := t.L.take A ++ t.L.drop (A + 1) }) ∧ Chg w w6 (fun k => k = g)) := Lib.hid fun v2 w4 w6 r e1 e2 e3 e4 e5 e6 => by
    obtain ⟨_, _, b4, _⟩ := HY.out w4 r.2.1
    have hb : ∀ k, k < w.heap.size → k ≠ g → w6.heap[k]? = w.heap[k]? := fun k hk hn => (e5 k hn (by omega)).trans (b4.block k hk)
    have hs : w.heap.size ≤ w6.heap.size := by rw [e4]; exact b4.size
    have hcs : Wc w4 g t := HWK.out.cs.of_block (b4.block g hg)
    have hrow : w6.ownsRow 0 65 3 v2 (t.L.take A ++ t.L.drop (A + 1)).length (ecs (t.L.take A ++ t.L.drop (A + 1))) := row_of_block r.1 fun k hk => by
      have := (r.2.2.1 k hk).1
      exact e5 k (by have := hsz; omega) (by have := hsz; omega)
    refine ⟨⟨v2, Wk.row_new HWK.out hs ((hcs.set0 v2).of_block e6) hrow hb (fun k hk => ?_) (fun e he => .inl ?_)⟩, ?_⟩
    · have := r.2.2.1 k hk
      rw [e4]
      exact ⟨by omega, this.2⟩
    · rcases List.mem_append.1 he with h | h
      · exact List.mem_of_mem_take h
      · exact List.mem_of_mem_drop h
    · exact ⟨e1.trans b4.os, e2.trans b4.tape, e3.trans b4.output, hs, hb⟩
  have HZZ := Lib.hid (fun (y : World) (hy : Below w2.heap.size w2 y) => (show y.heap[w.heap.size]? = some (.cells #[.string ⟨#[]⟩, .slice none 0 0, .int .i64 0] 65 (0, 0)) ∧ y.heap[w.heap.size + 1]? = some (.cells #[.string S, .slice ea l ec, .int .i64 (K : Nat)] 65 (0, 0)) from
    ⟨(hy.block _ (by omega)).trans z4, (hy.block _ (by omega)).trans z5⟩))
  have e2 := (HY.out w2 (Below.refl _ _)).1
  have hwp := HP.out.2
  have e2a := (HY.out _ ((Below.refl _ _).alloc (Nat.le_refl _) (.cells #[] 65))).1
  clear b2 z4 z5 hsz hlen
  by_cases hcp : c = p
  case' pos =>
    have hnp := Lib.hid (HNP.out hcp)
    subst hcp
    go_region_law (first
      | (refine step_append rfl (.tmp 14) (.tmp 20) 43 rfl (.slice (some ⟨w2.heap.size, 0, none⟩) 0 0) (.slice (some ⟨q, 0, none⟩) A c) (by simp [Act.eval, Act.put]) (by simp [Act.eval, Act.put]) (Rn w2 (t.L.take A)) APR1.out ?_; intro v1 w3 r1; have R3 := Lib.hid r1; have B3 := Lib.hid r1.2.1; clear r1; have e3 := (HY.out w3 B3.out).1)
      | (refine step_append rfl (.tmp 21) (.tmp 28) 43 rfl v1 (.slice (some ⟨q, 0, none⟩) (n - c) (c - c)) (by simp [Act.eval, Act.put]) (by simp [Act.eval, Act.put]; omega) (Rn w2 (t.L.take A ++ t.L.drop (A + 1))) (APR2.out _ (.inr hnp.out) v1 w3 R3.out) ?_; intro v2 w4 r2; have R4 := Lib.hid r2; have B4 := Lib.hid r2.2.1; obtain ⟨_, _, _, ya, ym, yk, hyv⟩ := r2; subst hyv; obtain ⟨e4, f4, _, _⟩ := HY.out w4 B4.out))
  case' neg =>
    go_region_law (first
      | (refine step_append rfl (.tmp 14) (.tmp 20) 43 rfl (.slice (some ⟨w2.heap.size, 0, none⟩) 0 0) (.slice (some ⟨q, 0, none⟩) A c) (by simp [Act.eval, Act.put]) (by simp [Act.eval, Act.put]) (Rn w2 (t.L.take A)) APR1.out ?_; intro v1 w3 r1; have R3 := Lib.hid r1; have B3 := Lib.hid r1.2.1; clear r1; have e3 := (HY.out w3 B3.out).1)
      | (refine step_append rfl (.tmp 21) (.tmp 28) 43 rfl v1 (.slice (some ⟨q, p * 3, none⟩) (n - p) (c - p)) (by simp [Act.eval, Act.put]) (by simp [Act.eval, Act.put]) (Rn w2 (t.L.take A ++ t.L.drop (A + 1))) (APR2.out _ (.inl rfl) v1 w3 R3.out) ?_; intro v2 w4 r2; have R4 := Lib.hid r2; have B4 := Lib.hid r2.2.1; obtain ⟨_, _, _, ya, ym, yk, hyv⟩ := r2; subst hyv; obtain ⟨e4, f4, _, _⟩ := HY.out w4 B4.out))
  all_goals
    clear e2 e2a e3 f4 APR1 APR2 C0 HZ0 H1 HY HQC HBB HV HE HN HL HK HS HNP HP hwp
    obtain ⟨z4, z5⟩ := HZZ.out w4 B4.out
    have hb4 := B4.out.size
    have n5 : w.heap.size + 1 ≠ g := by omega
    have n4 : w.heap.size ≠ g := by omega
    have u5 : (w4.setCell ⟨g, 0, none⟩ (.slice ya ym yk)).heap[w.heap.size + 1]? = some (.cells #[.string S, .slice ea l ec, .int .i64 (K : Nat)] 65 (0, 0)) := (heap_setCell_ne n5).trans z5
    have u4 : (w4.setCell ⟨g, 0, none⟩ (.slice ya ym yk)).heap[w.heap.size]? = some (.cells #[.string ⟨#[]⟩, .slice none 0 0, .int .i64 0] 65 (0, 0)) := (heap_setCell_ne n4).trans z4
    have a0 := Go.Joins.cell_of_block u5 0
    have a1 := Go.Joins.cell_of_block u5 1
    have a2 := Go.Joins.cell_of_block u5 2
    have b0 := Go.Joins.cell_of_block u4 0
    have b1 := Go.Joins.cell_of_block u4 1
    have b2 := Go.Joins.cell_of_block u4 2
    have z0 := Go.Joins.unfrozen_of_block u4 0
    have z1 := Go.Joins.unfrozen_of_block u4 1
    have z2 := Go.Joins.unfrozen_of_block u4 2
    have HU4 := Lib.hid u4
    clear z4 z5 u5 u4
    go_wp2_with fail
    have u6 := Go.Joins.block_setCell (i := 2) (Go.Joins.block_setCell (i := 1) (Go.Joins.block_setCell (i := 0) HU4.out (.string S)) (.slice ea l ec)) (.int .i64 (K : Nat))
    have m0 := Go.Joins.cell_of_block u6 0
    have m1 := Go.Joins.cell_of_block u6 1
    have m2 := Go.Joins.cell_of_block u6 2
    have fin := FIN.out _ w4 ((((w4.setCell ⟨g, 0, none⟩ (.slice ya ym yk)).setCell ⟨w.heap.size, 0, none⟩ (.string S)).setCell ⟨w.heap.size, 1, none⟩ (.slice ea l ec)).setCell ⟨w.heap.size, 2, none⟩ (.int .i64 (K : Nat))) R4.out (by first | rfl | simp) (by first | rfl | simp) (by first | rfl | simp) (by first | rfl | simp) (fun k h1 h2 => (heap_setCell_ne h2).trans ((heap_setCell_ne h2).trans ((heap_setCell_ne h2).trans (heap_setCell_ne h1)))) ((heap_setCell_ne n4.symm).trans ((heap_setCell_ne n4.symm).trans (heap_setCell_ne n4.symm)))
    refine bodyPost_ret (v := .agg #[.string S, .slice ea l ec, .int .i64 (K : Nat)]) ?_ rfl ⟨rfl, fin⟩
    simp [results, Try.results45, go_sem, m0, m1, m2]
end Yg
end Go.Proofs.Ytcjfdebjgaohlaa

/- The document's disk: a file is put in its place. -/
namespace Go.Proofs.Ytcjfdebjgaohlaa
open Go.RowKit Go.Maps Go.ChangeMaps Go.MapKept
namespace Yh
open Jb Jm Jd Jw Jx Jn J1 J9 Ya Yb Yc Yd Ye Jh Yf Yg

theorem Rn.over {w2 w w' : World} {M : List En} {v : Value} (h : Rn w2 M v w) (hs : w.heap.size ≤ w'.heap.size) (b : Below w2.heap.size w2 w') (f : ∀ k, v.ownBlock = some k → w'.heap[k]? = w.heap[k]?) : Rn w2 M v w' := by
  obtain ⟨o, _, hv, r⟩ := h
  exact ⟨row_of_block o f, b, fun k hk => ⟨(hv k hk).1, Nat.lt_of_lt_of_le (hv k hk).2 hs⟩, r⟩
theorem rs_one {w : World} {q c : Nat} {e : En} (h : EAt w q 0 e) : RS w (.slice (some ⟨q, 0, none⟩) 1 c) [e] :=
  .inr ⟨q, 0, c, rfl, fun i hi => by
    obtain rfl : i = 0 := by simpa using hi
    exact h⟩
theorem Rn.fresh {w2 w : World} (b : Below w2.heap.size w2 w) : Rn w2 [] (.slice (some ⟨w.heap.size, 0, none⟩) 0 0) (w.alloc (.cells #[] 65)) := by
  have o := World.ownsRow_lit (base := 0) (e := 65) (size := 3) w #[] 0 (Nat.zero_le _) (by unfold maxLen; omega) rfl
  refine ⟨o, b.alloc b.size _, fun k hk => ?_, _, _, _, rfl⟩
  cases hk
  exact ⟨b.size, by simp⟩
def Less (a b : ByteArray) : Prop := Op.bytesLess a.toList b.toList = true
/-- The first place whose name is not below. -/
def Pos (L : List En) (s : ByteArray) (A : Nat) : Prop := A ≤ L.length ∧ (∀ i, i < A → Less (L.getD i e0).name s) ∧ (A < L.length → ¬ Less (L.getD A e0).name s)
theorem pos_at (L : List En) (s : ByteArray) : ∃ A, Pos L s A := by
  induction L with
  | nil => exact ⟨0, Nat.le_refl _, fun i hi => by omega, fun h => by simp at h⟩
  | cons x r ih =>
    by_cases h : Less x.name s
    · obtain ⟨A, h1, h2, h3⟩ := ih
      refine ⟨A + 1, by simpa using h1, fun i hi => ?_, fun hA => ?_⟩
      · cases i with
        | zero => simpa [List.getD_eq_getElem?_getD] using h
        | succ i => simpa [List.getD_eq_getElem?_getD] using h2 i (by omega)
      · simpa [List.getD_eq_getElem?_getD] using h3 (by simpa using hA)
    · exact ⟨0, Nat.zero_le _, fun i hi => by omega, fun _ => by simpa [List.getD_eq_getElem?_getD] using h⟩

/-- What the file that comes is. -/
def Fits (w : World) (T : Nat → Prop) (g : Nat) (_ : Dt) (e : En) : Prop := Src w (fun k => T k ∧ k ≠ g) e.bv e.bs ∧ (∀ c, e.bv = .slice none e.bs.length c → c = 0) ∧ (∀ x ∈ e.bs, x < 256) ∧ e.syn ≤ e.bs.length

set_option maxRecDepth 100000
set_option maxHeartbeats 4000000 in
/-- What the walk behind the loop wants, laid once: the row as it is, the box, the appends, the end. -/
theorem put_row (w : World) (T : Nat → Prop) (g : Nat) (t : Dt) (h : Wk w T g t) (e : En) (hf : Fits w T g t e) (hb : t.L.length ≤ 1000000000) (A : Nat) (hA : Pos t.L e.name A)
    (q c : Nat) (hv : t.fvv = .slice (some ⟨q, 0, none⟩) t.L.length c) (hc : t.L.length ≤ c) (hq : q < w.heap.size) (hcell : ∀ i, i < t.L.length → EAt w q (i * 3) (t.L.getD i e0)) :
    Calls Try.prog 41 #[.pointer (some ⟨g, 0, none⟩), .agg #[.string e.name, e.bv, .int .i64 (e.syn : Nat)]] w fun r w' => r = .returned (.int .i64 (A : Nat)) ∧
      (∃ v, Wk w' (New T w w') g { t with fvv := v, L := t.L.take A ++ [e] ++ t.L.drop A }) ∧ Chg w w' (fun k => k = g) := by
  have hg := h.lt g h.tg
  obtain ⟨ea, ec, he⟩ := hf.1.forms
  obtain ⟨A1, A2, A3⟩ := hA
  have hqg : q ≠ g := (h.rb q (by rw [hv]; rfl)).2
  have c0 := h.cs.c0
  rw [hv] at c0
  obtain ⟨n, hn⟩ : ∃ n, n = t.L.length := ⟨_, rfl⟩
  obtain ⟨l, hl⟩ : ∃ l, l = e.bs.length := ⟨_, rfl⟩
  obtain ⟨K, hK⟩ : ∃ K, K = e.syn := ⟨_, rfl⟩
  obtain ⟨S, hS⟩ : ∃ S, S = e.name := ⟨_, rfl⟩
  rw [← hS] at A2 A3
  rw [← hK, ← hS, he, ← hl]
  have B1 : Below w.heap.size w (w.alloc (.cells #[.string S, .slice ea l ec, .int .i64 (K : Nat)] 65)) := (Below.refl _ _).alloc (Nat.le_refl _) _
  rw [← hn] at c0 hc A1 A3
  have HZ0 := Lib.hid (h.cs.z 0)
  have H1 := Lib.hid (fun x (hx : x ∈ t.L) => (show x.bv.oneCell' = true from by
    obtain ⟨a, k, r⟩ := (h.ent x hx).1.forms
    rw [r]; rfl))
  have HE1 := Lib.hid (show e.bv.oneCell' = true from by rw [he]; rfl)
  have HEA := Lib.hid (fun (y : World) (b : Nat) (cs : y.heap[b]? = some (.cells #[.string S, .slice ea l ec, .int .i64 (K : Nat)] 65 (0, 0))) => (show EAt y b 0 e from by
    refine ⟨?_, ?_, ?_⟩
    · rw [← hS]; exact Go.Joins.cell_of_block cs 0
    · rw [he, ← hl]; exact Go.Joins.cell_of_block cs 1
    · rw [← hK]; exact Go.Joins.cell_of_block cs 2))
  have C0 := Lib.hid c0
  have HN := Lib.hid hn
  have HWK := Lib.hid h
  have HF := Lib.hid hf
  have HQC := Lib.hid hcell
  have HBB := Lib.hid hb
  have H2 := Lib.hid A2
  have H3 := Lib.hid A3
  obtain ⟨w1, hw1⟩ : ∃ w1, w1 = w.alloc (.cells #[.string S, .slice ea l ec, .int .i64 (K : Nat)] 65) := ⟨_, rfl⟩
  have hs1 : w1.heap.size = w.heap.size + 1 := by rw [hw1]; simp
  have z1 : w1.heap[w.heap.size]? = some (.cells #[.string S, .slice ea l ec, .int .i64 (K : Nat)] 65 (0, 0)) := by rw [hw1]; exact heap_alloc_new _ _
  rw [← hw1] at B1
  have HY := Lib.hid (fun (y : World) (hy : Below w1.heap.size w1 y) => (show y.cell? ⟨g, 0, none⟩ = some (.slice (some ⟨q, 0, none⟩) n c) ∧ y.frozen? ⟨g, 0, none⟩ = false ∧ Below w.heap.size w y ∧ (∀ i, i < t.L.length → EAt y q (i * 3) (t.L.getD i e0)) ∧ y.heap[w.heap.size]? = some (.cells #[.string S, .slice ea l ec, .int .i64 (K : Nat)] 65 (0, 0)) from by
    have b := B1.trans (hy.mono B1.size)
    exact ⟨(b.cell hg).trans C0.out, (World.frozen?_of_block (b.block g hg)).trans HZ0.out, b, fun i hi => (HQC.out i hi).of_block (b.block q hq), (hy.block _ (by omega)).trans z1⟩))
  have d0 := (HY.out w1 (Below.refl _ _)).1
  have f1 := Go.Joins.cell_of_block z1 0
  have f2 := Go.Joins.cell_of_block z1 1
  have f3 := Go.Joins.cell_of_block z1 2
  have HW1 := Lib.hid hw1
  have HV := Lib.hid hv
  have hqw := Lib.hid hq
  have HG := Lib.hid (And.intro hg hqg)
  clear h hf hcell hb A2 A3 c0 B1 hv hq hg hqg hn hl hK hS he hw1 z1 hs1
  go_enter Try.func41, Try.ntmps41
  go_wp2_with fail
  rw [← HW1.out]
  go_loopw [5] (fun i wr => ∃ k m : Nat, k ≤ A ∧ i = .int .i64 (k : Nat) ∧ wr = w1.drewN m) (fun i _ => n - (intOf i).toNat)
  case atStart => exact ⟨0, 0, Nat.zero_le _, rfl, rfl⟩
  case round =>
    obtain ⟨k, m, hk, rfl, rfl⟩ := hrel
    have hk9 : k < 2000000000 := by have := HBB.out; have := HN.out; omega
    have HX := Lib.hid (fun (hkn : k < n) => ((HY.out w1 (Below.refl _ _)).2.2.2.1 k (by have := HN.out; omega)).1)
    obtain ⟨N, hN⟩ : ∃ N, N = (t.L.getD k e0).name := ⟨_, rfl⟩
    rw [← hN] at HX
    by_cases hgo : k < n ∧ Less N S
    · obtain ⟨hkn, hL⟩ := hgo
      have x1 := HX.out hkn
      have hl : Op.bytesLess N.toList S.toList = true := hL
      have hkA : k < A := by
        rcases Nat.lt_or_ge k A with h | h
        · exact h
        · have : k = A := by omega
          exact absurd (hN ▸ hL) (this ▸ H3.out (by omega))
      clear hN hL HX
      go_upto_region 2 with (fail)
      go_quiet (fail)
      go_wp2_with fail
      go_roundw
      case rel => exact ⟨k + 1, _, by omega, by go_num, by first | rfl | trivial⟩
      case measure => simp [intOf]; omega
    · have hkA : Hid (k = A) := Lib.hid (by
        rcases Nat.lt_or_ge k A with h | h
        · exact absurd ⟨by omega, hN ▸ H2.out k h⟩ hgo
        · omega)
      by_cases hkn : k < n
      case' pos =>
        have x1 := HX.out hkn
        have hl : Op.bytesLess N.toList S.toList = false := by
          have : ¬ Less N S := fun h => hgo ⟨hkn, h⟩
          simpa [Less] using this
        clear hN hgo HX
        go_upto_region 2 with (fail)
        go_quiet (fail)
      case' neg =>
        clear hN hgo HX
        go_upto_region 2 with (fail)
        go_quiet (fail)
      all_goals
        have e0k := hkA.out
        subst e0k
        go_upto_region 4 with (fail)
        obtain ⟨wm, hwm⟩ : ∃ wm, wm = (w1.drewN m).drewN nq := ⟨_, rfl⟩
        have bm : Below w1.heap.size w1 wm := by rw [hwm]; exact ⟨rfl, rfl, rfl, Nat.le_refl _, fun _ _ => rfl⟩
        rw [← hwm]
        clear hwm d0 f1 f2 f3 hkA
        have dm := (HY.out wm bm).1
        have dm2 := (HY.out (wm.alloc (.cells #[] 65)) (bm.alloc bm.size _)).1
        have hlen : (t.L.take k).length = k := by rw [List.length_take]; have := HN.out; omega
        obtain ⟨v1, w3, hr1, r1⟩ := Rn.append (M := t.L.take k) (Rn.fresh bm) (rs_take (c := c) (HY.out _ (bm.alloc bm.size (.cells #[] 65))).2.2.2.1 k (by have := HN.out; omega)) (fun x hx => H1.out x (List.mem_of_mem_take hx)) (by rw [hlen]; have := HBB.out; have := HN.out; simp; omega) 43
        rw [List.nil_append] at r1
        have hr1 := Lib.hid hr1
        go_upto_region 5 with (at_builtin; refine Lib.wpList_append_run _ rfl _ _ _ _ rfl _ _ rfl rfl _ _ hr1.out ?_)
        clear hr1 dm dm2 bm
        have b3 := r1.2.1
        have d3 := (HY.out w3 b3).1
        have z3 := (HY.out w3 b3).2.2.2.2
        have f1 := Go.Joins.cell_of_block z3 0
        have f2 := Go.Joins.cell_of_block z3 1
        have f3 := Go.Joins.cell_of_block z3 2
        have b3a := b3.alloc (o := .cells #[.string S, .slice ea l ec, .int .i64 (K : Nat)] 65) b3.size
        have d3a := (HY.out _ b3a).1
        have APR2 : Hid (∀ ty, ∃ v' w', (Builtin.append_ #[43, 43] ty #[v1, .slice (some ⟨w3.heap.size, 0, none⟩) 1 1]).run Try.prog (w3.alloc (.cells #[.string S, .slice ea l ec, .int .i64 (K : Nat)] 65)).drew = .ok v' w' ∧ Rn w1 (t.L.take k ++ [e]) v' w') := Lib.hid fun ty =>
          Rn.append (M := [e]) (Rn.over r1 (by simp) b3a.drew (fun a ha => ((Below.refl w3.heap.size w3).alloc (Nat.le_refl _) _).drew.block a (r1.2.2.1 a ha).2)) (rs_one (HEA.out _ _ (heap_alloc_new _ _))) (fun x hx => by
            obtain rfl : x = e := by simpa using hx
            exact HE1.out) (by rw [hlen]; have := HBB.out; have := HN.out; simp; omega) ty
        have APR3 : Hid (∀ o9, (o9 = k * 3 ∨ n = k) → ∀ v2 w4, Rn w1 (t.L.take k ++ [e]) v2 w4 → ∀ ty, ∃ v' w', (Builtin.append_ #[43, 43] ty #[v2, .slice (some ⟨q, o9, none⟩) (n - k) (c - k)]).run Try.prog w4 = .ok v' w' ∧ Rn w1 (t.L.take k ++ [e] ++ t.L.drop k) v' w') := Lib.hid fun o9 ho v2 w4 r ty => by
          refine Rn.append r ?_ (fun x hx => H1.out x (List.mem_of_mem_drop hx)) (by have := HBB.out; have := HN.out; simp [hlen]; omega) ty
          have hn := HN.out
          by_cases e9 : n = k
          · exact .inl ⟨List.drop_eq_nil_iff.2 (by omega), .inr ⟨⟨q, o9, none⟩, c - k, by rw [show n - k = 0 from by omega]⟩⟩
          · have h1 : o9 = k * 3 := ho.resolve_right e9
            rw [h1, hn]
            exact rs_drop (HY.out w4 r.2.1).2.2.2.1 k
        have FIN : Hid (∀ v w5, Rn w1 (t.L.take k ++ [e] ++ t.L.drop k) v w5 → (∃ v', Wk (w5.setCell ⟨g, 0, none⟩ v) (New T w (w5.setCell ⟨g, 0, none⟩ v)) g { t with fvv := v', L := t.L.take k ++ [e] ++ t.L.drop k }) ∧ Chg w (w5.setCell ⟨g, 0, none⟩ v) (fun k => k = g)) := Lib.hid fun v w5 r => by
          have b5 := (HY.out w5 r.2.1).2.2.1
          have s1 : w1.heap.size = w.heap.size + 1 := by rw [HW1.out]; simp
          have hg := HG.out.1
          have hb : ∀ j, j < w.heap.size → j ≠ g → (w5.setCell ⟨g, 0, none⟩ v).heap[j]? = w.heap[j]? := fun j hj hn => (heap_setCell_ne hn).trans (b5.block j hj)
          have hs : w.heap.size ≤ (w5.setCell ⟨g, 0, none⟩ v).heap.size := by simp; exact b5.size
          have hcs : Wc w5 g t := HWK.out.cs.of_block (b5.block g hg)
          have hrow := row_of_block (w' := w5.setCell ⟨g, 0, none⟩ v) r.1 fun j hj => heap_setCell_ne (by have := (r.2.2.1 j hj).1; omega)
          refine ⟨⟨v, Wk.row_new HWK.out hs (hcs.set0 v) hrow hb (fun j hj => ?_) (fun x hx => ?_)⟩, ?_⟩
          · have := r.2.2.1 j hj
            simp
            omega
          · rcases List.mem_append.1 hx with h | h
            · rcases List.mem_append.1 h with h | h
              · exact .inl (List.mem_of_mem_take h)
              · obtain rfl : x = e := by simpa using h
                exact .inr HF.out
            · exact .inl (List.mem_of_mem_drop h)
          · exact ⟨b5.os, b5.tape, b5.output, hs, hb⟩
        have R1 := Lib.hid r1
        have HLEN := Lib.hid hlen
        clear r1 b3 b3a z3 hlen hk9
        by_cases hck : c = k
        case' pos =>
          have hnk : Hid (n = k) := Lib.hid (by omega)
          subst hck
          go_region_law (first
            | (refine step_append rfl (.tmp 38) (.tmp 40) 43 rfl v1 (.slice (some ⟨w3.heap.size, 0, none⟩) 1 1) (by simp [Act.eval, Act.put]) (by simp [Act.eval, Act.put]) (Rn w1 (t.L.take c ++ [e])) APR2.out ?_; intro v2 w4 r2; have R2 := Lib.hid r2; have B4 := Lib.hid r2.2.1; clear r2; have e4 := (HY.out w4 B4.out).1)
            | (refine step_append rfl (.tmp 41) (.tmp 47) 43 rfl v2 (.slice (some ⟨q, 0, none⟩) (n - c) (c - c)) (by simp [Act.eval, Act.put]) (by simp [Act.eval, Act.put]; omega) (Rn w1 (t.L.take c ++ [e] ++ t.L.drop c)) (APR3.out _ (.inr hnk.out) v2 w4 R2.out) ?_; intro v3 w5 r3; have R3 := Lib.hid r3; have B5 := Lib.hid r3.2.1; obtain ⟨_, _, _, ya, ym, yk, hyv⟩ := r3; subst hyv; obtain ⟨e5, f5, _, _⟩ := HY.out w5 B5.out))
        case' neg =>
          go_region_law (first
            | (refine step_append rfl (.tmp 38) (.tmp 40) 43 rfl v1 (.slice (some ⟨w3.heap.size, 0, none⟩) 1 1) (by simp [Act.eval, Act.put]) (by simp [Act.eval, Act.put]) (Rn w1 (t.L.take k ++ [e])) APR2.out ?_; intro v2 w4 r2; have R2 := Lib.hid r2; have B4 := Lib.hid r2.2.1; clear r2; have e4 := (HY.out w4 B4.out).1)
            | (refine step_append rfl (.tmp 41) (.tmp 47) 43 rfl v2 (.slice (some ⟨q, k * 3, none⟩) (n - k) (c - k)) (by simp [Act.eval, Act.put]) (by simp [Act.eval, Act.put]) (Rn w1 (t.L.take k ++ [e] ++ t.L.drop k)) (APR3.out _ (.inl rfl) v2 w4 R2.out) ?_; intro v3 w5 r3; have R3 := Lib.hid r3; have B5 := Lib.hid r3.2.1; obtain ⟨_, _, _, ya, ym, yk, hyv⟩ := r3; subst hyv; obtain ⟨e5, f5, _, _⟩ := HY.out w5 B5.out))
        all_goals
          go_wp2_with fail
          go_ret
          exact ⟨rfl, FIN.out _ _ R3.out⟩

set_option maxRecDepth 100000
set_option maxHeartbeats 4000000 in
/-- The row that holds nothing. -/
theorem put_none (w : World) (T : Nat → Prop) (g : Nat) (t : Dt) (h : Wk w T g t) (e : En) (hf : Fits w T g t e) (hL : t.L = []) (hv : t.fvv = .slice none 0 0) :
    Calls Try.prog 41 #[.pointer (some ⟨g, 0, none⟩), .agg #[.string e.name, e.bv, .int .i64 (e.syn : Nat)]] w fun r w' => r = .returned (.int .i64 0) ∧
      (∃ v, Wk w' (New T w w') g { t with fvv := v, L := [e] }) ∧ Chg w w' (fun k => k = g) := by
  have hg := h.lt g h.tg
  obtain ⟨ea, ec, he⟩ := hf.1.forms
  have c0 := h.cs.c0
  rw [hv] at c0
  obtain ⟨l, hl⟩ : ∃ l, l = e.bs.length := ⟨_, rfl⟩
  obtain ⟨K, hK⟩ : ∃ K, K = e.syn := ⟨_, rfl⟩
  obtain ⟨S, hS⟩ : ∃ S, S = e.name := ⟨_, rfl⟩
  rw [← hK, ← hS, he, ← hl]
  have B1 : Below w.heap.size w (w.alloc (.cells #[.string S, .slice ea l ec, .int .i64 (K : Nat)] 65)) := (Below.refl _ _).alloc (Nat.le_refl _) _
  have HZ0 := Lib.hid (h.cs.z 0)
  have HE1 := Lib.hid (show e.bv.oneCell' = true from by rw [he]; rfl)
  have HEA := Lib.hid (fun (y : World) (b : Nat) (cs : y.heap[b]? = some (.cells #[.string S, .slice ea l ec, .int .i64 (K : Nat)] 65 (0, 0))) => (show EAt y b 0 e from by
    refine ⟨?_, ?_, ?_⟩
    · rw [← hS]; exact Go.Joins.cell_of_block cs 0
    · rw [he, ← hl]; exact Go.Joins.cell_of_block cs 1
    · rw [← hK]; exact Go.Joins.cell_of_block cs 2))
  have C0 := Lib.hid c0
  have HWK := Lib.hid h
  have HF := Lib.hid hf
  obtain ⟨w1, hw1⟩ : ∃ w1, w1 = w.alloc (.cells #[.string S, .slice ea l ec, .int .i64 (K : Nat)] 65) := ⟨_, rfl⟩
  have hs1 : w1.heap.size = w.heap.size + 1 := by rw [hw1]; simp
  have z1 : w1.heap[w.heap.size]? = some (.cells #[.string S, .slice ea l ec, .int .i64 (K : Nat)] 65 (0, 0)) := by rw [hw1]; exact heap_alloc_new _ _
  rw [← hw1] at B1
  have HY := Lib.hid (fun (y : World) (hy : Below w1.heap.size w1 y) => (show y.cell? ⟨g, 0, none⟩ = some (.slice none 0 0) ∧ y.frozen? ⟨g, 0, none⟩ = false ∧ Below w.heap.size w y ∧ y.heap[w.heap.size]? = some (.cells #[.string S, .slice ea l ec, .int .i64 (K : Nat)] 65 (0, 0)) from by
    have b := B1.trans (hy.mono B1.size)
    exact ⟨(b.cell hg).trans C0.out, (World.frozen?_of_block (b.block g hg)).trans HZ0.out, b, (hy.block _ (by omega)).trans z1⟩))
  have d0 := (HY.out w1 (Below.refl _ _)).1
  have f1 := Go.Joins.cell_of_block z1 0
  have f2 := Go.Joins.cell_of_block z1 1
  have f3 := Go.Joins.cell_of_block z1 2
  have HW1 := Lib.hid hw1
  have HV := Lib.hid hv
  have HL := Lib.hid hL
  have HG := Lib.hid hg
  clear h hf c0 B1 hv hg hl hK hS he hw1 z1 hs1 hL
  go_enter Try.func41, Try.ntmps41
  go_wp2_with fail
  rw [← HW1.out]
  refine wp_loop_rounds 1 ?_
  rw [rounds_succ]
  go_upto_region 2 with (fail)
  go_quiet (fail)
  go_upto_region 4 with (fail)
  obtain ⟨wm, hwm⟩ : ∃ wm, wm = w1.drewN nq := ⟨_, rfl⟩
  have bm : Below w1.heap.size w1 wm := by rw [hwm]; exact ⟨rfl, rfl, rfl, Nat.le_refl _, fun _ _ => rfl⟩
  rw [← hwm]
  clear hwm d0 f1 f2 f3
  have dm := (HY.out wm bm).1
  have dm2 := (HY.out (wm.alloc (.cells #[] 65)) (bm.alloc bm.size _)).1
  obtain ⟨v1, w3, hr1, r1⟩ := Rn.append (M := []) (Rn.fresh bm) (src := .slice none 0 0) (.inl ⟨rfl, .inl rfl⟩) (fun x hx => by simp at hx) (by simp) 43
  rw [List.nil_append] at r1
  have hr1 := Lib.hid hr1
  go_upto_region 5 with (at_builtin; refine Lib.wpList_append_run _ rfl _ _ _ _ rfl _ _ rfl rfl _ _ hr1.out ?_)
  clear hr1 dm dm2 bm
  have b3 := r1.2.1
  have d3 := (HY.out w3 b3).1
  have z3 := (HY.out w3 b3).2.2.2
  have f1 := Go.Joins.cell_of_block z3 0
  have f2 := Go.Joins.cell_of_block z3 1
  have f3 := Go.Joins.cell_of_block z3 2
  have b3a := b3.alloc (o := .cells #[.string S, .slice ea l ec, .int .i64 (K : Nat)] 65) b3.size
  have d3a := (HY.out _ b3a).1
  have APR2 : Hid (∀ ty, ∃ v' w', (Builtin.append_ #[43, 43] ty #[v1, .slice (some ⟨w3.heap.size, 0, none⟩) 1 1]).run Try.prog (w3.alloc (.cells #[.string S, .slice ea l ec, .int .i64 (K : Nat)] 65)).drew = .ok v' w' ∧ Rn w1 [e] v' w') := Lib.hid fun ty =>
    Rn.append (M := [e]) (Rn.over r1 (by simp) b3a.drew (fun a ha => ((Below.refl w3.heap.size w3).alloc (Nat.le_refl _) _).drew.block a (r1.2.2.1 a ha).2)) (rs_one (HEA.out _ _ (heap_alloc_new _ _))) (fun x hx => by
      obtain rfl : x = e := by simpa using hx
      exact HE1.out) (by simp) ty
  have APR3 : Hid (∀ v2 w4, Rn w1 [e] v2 w4 → ∀ ty, ∃ v' w', (Builtin.append_ #[43, 43] ty #[v2, .slice none 0 0]).run Try.prog w4 = .ok v' w' ∧ Rn w1 [e] v' w') := Lib.hid fun v2 w4 r ty => by
    have := Rn.append (M := []) (src := .slice none 0 0) r (.inl ⟨rfl, .inl rfl⟩) (fun x hx => by simp at hx) (by simp) ty
    simpa using this
  have FIN : Hid (∀ v w5, Rn w1 [e] v w5 → (∃ v', Wk (w5.setCell ⟨g, 0, none⟩ v) (New T w (w5.setCell ⟨g, 0, none⟩ v)) g { t with fvv := v', L := [e] }) ∧ Chg w (w5.setCell ⟨g, 0, none⟩ v) (fun k => k = g)) := Lib.hid fun v w5 r => by
    have b5 := (HY.out w5 r.2.1).2.2.1
    have s1 : w1.heap.size = w.heap.size + 1 := by rw [HW1.out]; simp
    have hg := HG.out
    have hb : ∀ j, j < w.heap.size → j ≠ g → (w5.setCell ⟨g, 0, none⟩ v).heap[j]? = w.heap[j]? := fun j hj hn => (heap_setCell_ne hn).trans (b5.block j hj)
    have hs : w.heap.size ≤ (w5.setCell ⟨g, 0, none⟩ v).heap.size := by simp; exact b5.size
    have hcs : Wc w5 g t := HWK.out.cs.of_block (b5.block g hg)
    have hrow := row_of_block (w' := w5.setCell ⟨g, 0, none⟩ v) r.1 fun j hj => heap_setCell_ne (by have := (r.2.2.1 j hj).1; omega)
    refine ⟨⟨v, Wk.row_new HWK.out hs (hcs.set0 v) hrow hb (fun j hj => ?_) (fun x hx => ?_)⟩, ?_⟩
    · have := r.2.2.1 j hj
      simp
      omega
    · obtain rfl : x = e := by simpa using hx
      exact .inr HF.out
    · exact ⟨b5.os, b5.tape, b5.output, hs, hb⟩
  clear r1 b3 b3a z3
  go_region_law (first
    | (refine step_append rfl (.tmp 38) (.tmp 40) 43 rfl v1 (.slice (some ⟨w3.heap.size, 0, none⟩) 1 1) (by simp [Act.eval, Act.put]) (by simp [Act.eval, Act.put]) (Rn w1 [e]) APR2.out ?_; intro v2 w4 r2; have R2 := Lib.hid r2; have B4 := Lib.hid r2.2.1; clear r2; have e4 := (HY.out w4 B4.out).1)
    | (refine step_append rfl (.tmp 41) (.tmp 47) 43 rfl v2 (.slice none 0 0) (by simp [Act.eval, Act.put]) (by simp [Act.eval, Act.put]) (Rn w1 [e]) (APR3.out v2 w4 R2.out) ?_; intro v3 w5 r3; have R3 := Lib.hid r3; have B5 := Lib.hid r3.2.1; obtain ⟨_, _, _, ya, ym, yk, hyv⟩ := r3; subst hyv; obtain ⟨e5, f5, _, _⟩ := HY.out w5 B5.out))
  all_goals
    go_wp2_with fail
    go_ret
    exact ⟨rfl, FIN.out _ _ R3.out⟩
theorem row_cases {w : World} {B : Nat} {v : Value} {L : List En} (h : w.ownsRow B 65 3 v L.length (ecs L)) :
    (L = [] ∧ v = .slice none 0 0) ∨ (∃ q c, v = .slice (some ⟨q, 0, none⟩) L.length c ∧ L.length ≤ c ∧ q < w.heap.size ∧ ∀ i, i < L.length → EAt w q (i * 3) (L.getD i e0)) := by
  have h' := h
  obtain ⟨hl, ⟨rfl, h0⟩ | ⟨g, c, cur, rfl, hg, hh, hnc, hr⟩⟩ := h
  · exact .inl ⟨List.length_eq_zero_iff.1 h0, rfl⟩
  · refine .inr ⟨g, c, rfl, hnc, by rw [Array.getElem?_eq_some_iff] at hh; exact hh.1, fun i hi => ?_⟩
    rcases row_at h' with ⟨hL, _⟩ | ⟨q, c', hv, _, _, _, _, hc⟩
    · simp [hL] at hi
    · cases hv
      exact hc i hi
/-- The file stands at its place behind the call. -/
theorem put41 (w : World) (T : Nat → Prop) (g : Nat) (t : Dt) (h : Wk w T g t) (e : En) (hf : Fits w T g t e) (hb : t.L.length ≤ 1000000000) (A : Nat) (hA : Pos t.L e.name A) :
    Calls Try.prog 41 #[.pointer (some ⟨g, 0, none⟩), .agg #[.string e.name, e.bv, .int .i64 (e.syn : Nat)]] w fun r w' => r = .returned (.int .i64 (A : Nat)) ∧
      (∃ v, Wk w' (New T w w') g { t with fvv := v, L := t.L.take A ++ [e] ++ t.L.drop A }) ∧ Chg w w' (fun k => k = g) := by
  rcases row_cases h.row with ⟨hL, hv⟩ | ⟨q, c, hv, hc, hq, hcell⟩
  · have hA0 : A = 0 := by have := hA.1; rw [hL] at this; simpa using this
    subst hA0
    rw [hL]
    exact put_none w T g t h e hf hL hv
  · exact put_row w T g t h e hf hb A hA q c hv hc hq hcell
end Yh
end Go.Proofs.Ytcjfdebjgaohlaa

/- The document's disk: Remove, Rename. -/
namespace Go.Proofs.Ytcjfdebjgaohlaa
open Go.RowKit Go.Maps Go.ChangeMaps Go.MapKept
namespace Yi
open Jb Jm Jd Jw Jx Jn J1 J6 J9 Ya Yb Yc Yd Ye Jh Yf Yg Yh

theorem Wk.wide {w wa w' : World} {T T' : Nat → Prop} {g : Nat} {t : Dt} (h : Wk w' (New T' wa w') g t) (hT : ∀ k, T' k → New T w wa k) (hs : w.heap.size ≤ wa.heap.size) (hs' : wa.heap.size ≤ w'.heap.size) (hl : ∀ k, T k → k < w.heap.size) : Wk w' (New T w w') g t :=
  h.set (fun k hk => by
    rcases hk with hk | hk
    · rcases hT k hk with h1 | h1
      · exact .inl h1
      · exact .inr ⟨h1.1, by omega⟩
    · exact .inr ⟨by omega, hk.2⟩) (fun k hk => by
    rcases hk with hk | hk
    · have := hl k hk; omega
    · exact hk.2)
theorem rem_len (L : List En) (A : Nat) (h : A < L.length) : (L.take A ++ L.drop (A + 1)).length + 1 = L.length := by simp; omega
set_option maxRecDepth 100000
theorem rrem_down (w : World) (T : Nat → Prop) (g : Nat) (s : ByteArray) (t : Dt) (h : Wk w T g t) (hd : t.down = true) :
    Calls Try.prog 18 #[.pointer (some ⟨g, 0, none⟩), .string s] w fun e w' => e = .returned (.int .i64 8) ∧ w' = w := by
  have F := Lib.hid (there_down w g s t h.cs hd)
  clear h hd
  go_enter Try.func18, Try.ntmps18
  go_wp2_with (go_at_call 42; refine (F.out).mono ?_; rintro e w ⟨rfl, rfl⟩)
  go_ret
  first | trivial | exact ⟨rfl, rfl⟩
theorem rrem_none (w : World) (T : Nat → Prop) (g : Nat) (s : ByteArray) (t : Dt) (h : Wk w T g t) (hd : t.down = false) (hA : At1 t.L s t.L.length) (hb : t.L.length ≤ 1000000000) :
    Calls Try.prog 18 #[.pointer (some ⟨g, 0, none⟩), .string s] w fun e w' => e = .returned (.int .i64 6) ∧ w' = w := by
  have F := Lib.hid (there_none w T g s t h hd hA hb)
  clear h hd hA hb
  go_enter Try.func18, Try.ntmps18
  go_wp2_with (go_at_call 42; refine (F.out).mono ?_; rintro e w ⟨rfl, rfl⟩)
  go_ret
  first | trivial | exact ⟨rfl, rfl⟩
theorem rrem_lost (w : World) (T : Nat → Prop) (g : Nat) (s : ByteArray) (t : Dt) (h : Wk w T g t) (hd : t.down = false) (A : Nat) (hA : At1 t.L s A) (hlt : A < t.L.length) (hb : t.L.length ≤ 1000000000) (hl : opTE t = 8) :
    Calls Try.prog 18 #[.pointer (some ⟨g, 0, none⟩), .string s] w fun e w' => e = .returned (.int .i64 8) ∧ Wk w' T g (opT t) ∧ Chg w w' T := by
  have F := Lib.hid (there_some w T g s t h hd A hA hlt hb)
  have O := Lib.hid (opr_off w T g t h hl)
  clear h hd hA hb hlt hl
  go_enter Try.func18, Try.ntmps18
  go_wp2_with (first | (go_at_call 42; refine (F.out).mono ?_; rintro e w ⟨rfl, rfl⟩) | (go_at_call 39; refine (O.out).mono ?_; rintro e w' ⟨rfl, k1, k2⟩))
  go_ret
  exact ⟨rfl, k1, k2⟩
theorem rrem_on (w : World) (T : Nat → Prop) (g : Nat) (s : ByteArray) (t : Dt) (h : Wk w T g t) (hd : t.down = false) (A : Nat) (hA : At1 t.L s A) (hlt : A < t.L.length) (hb : t.L.length ≤ 1000000000) (hl : opTE t = 0) :
    Calls Try.prog 18 #[.pointer (some ⟨g, 0, none⟩), .string s] w fun e w' => e = .returned (.int .i64 0) ∧
      (∃ v, Wk w' (New T w w') g { opT t with fvv := v, L := t.L.take A ++ t.L.drop (A + 1) }) ∧ Chg w w' T := by
  have F := Lib.hid (there_some w T g s t h hd A hA hlt hb)
  have O := Lib.hid (opr_on w T g t h hl)
  have K := Lib.hid (fun (wa : World) (k1 : Wk wa T g (opT t)) => take52 wa T g (opT t) k1 A (by rw [opT_L]; exact hlt) (by rw [opT_L]; exact hb))
  have HT := Lib.hid (fun k hk => h.lt k hk)
  have HG := Lib.hid h.tg
  clear h hd hA hb hlt hl
  go_enter Try.func18, Try.ntmps18
  go_wp2_with (first | (go_at_call 42; refine (F.out).mono ?_; rintro e w ⟨rfl, rfl⟩) | (go_at_call 39; refine (O.out).mono ?_; rintro e wa ⟨rfl, k1, k2⟩) | (go_at_call 45; refine (K.out _ k1).mono ?_; rintro e w' ⟨rfl, j1, j2⟩))
  go_ret
  rw [opT_L] at j1
  obtain ⟨v, j1⟩ := j1
  refine ⟨rfl, ⟨v, Wk.wide j1 (fun k hk => .inl hk) k2.size j2.size HT.out⟩, k2.trans j2 (fun k hk _ => ?_)⟩
  rw [hk]
  exact HG.out
end Yi
end Go.Proofs.Ytcjfdebjgaohlaa
