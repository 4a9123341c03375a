import Derived.Test.YtjmddomkoholoaaGreatDoorG01

/- latest. -/
namespace Go.Proofs.YtjmddomkoholoaaGreatDoor
open Go.RowKit Go.Maps Go.ChangeMaps Go.MapKept
namespace Np
open Lm Bs Fa Lp

def ans : Option Nat → Value
  | none => .tuple #[.int .i64 0, .bool false]
  | some p => .tuple #[.int .i64 (p : Nat), .bool true]

theorem Ps.drewN {w : World} {S : Nat → Prop} {g : Nat} {v : Value} {b : List Nat} {N : Nat} (h : Ps w S g v b N) (m : Nat) : Ps (w.drewN m) S g v b N := h.move (Nat.le_refl _) fun _ _ _ => rfl

/-- What the two look-ups answer. -/
theorem two_looks {w : World} {S : Nat → Prop} {g : Nat} {v : Value} {b : List Nat} {a : Nat} (hX : ∀ x ∈ b, x < 256) (h4 : a + 4 ≤ b.length) (h : Ps w S g v b a) :
    ∃ m1 m2, Hp w g v a m1 m2 ∧
      ((∃ q, q < a ∧ (Instr.lookup 201 (.map (some m1)) (.int .u32 (f4 b a : Nat)) true).run Tryz.prog w = .ok (.tuple #[.int .i64 (q : Nat), .bool true]) w ∧ latest b a = if a - q ≤ 65535 then some q else none) ∨
       (∃ q, q < a ∧ (Instr.lookup 201 (.map (some m1)) (.int .u32 (f4 b a : Nat)) true).run Tryz.prog w = .ok (.tuple #[.int .i64 0, .bool false]) w ∧ (Instr.lookup 201 (.map (some m2)) (.int .u32 (f4 b a : Nat)) true).run Tryz.prog w = .ok (.tuple #[.int .i64 (q : Nat), .bool true]) w ∧ latest b a = if a - q ≤ 65535 then some q else none) ∨
       ((Instr.lookup 201 (.map (some m1)) (.int .u32 (f4 b a : Nat)) true).run Tryz.prog w = .ok (.tuple #[.int .i64 0, .bool false]) w ∧ (Instr.lookup 201 (.map (some m2)) (.int .u32 (f4 b a : Nat)) true).run Tryz.prog w = .ok (.tuple #[.int .i64 0, .bool false]) w ∧ latest b a = none)) := by
  obtain ⟨m1, m2, s, n1, n2, hS, hne, hp, hr, hn, i1, i2⟩ := h
  refine ⟨m1, m2, hp, ?_⟩
  rcases i1.look (f4_lt hX a) with ⟨h1, r1⟩ | ⟨q, h1, r1⟩
  · rcases i2.look (f4_lt hX a) with ⟨h2, r2⟩ | ⟨q, h2, r2⟩
    · exact .inr (.inr ⟨r1, r2, both_none hX hr h1 h2⟩)
    · exact .inr (.inl ⟨q, by have := (last_some h2).2.1; have := hr.2.1; omega, r1, r2, older_some hX h4 hr.2.1 h1 h2⟩)
  · exact .inl ⟨q, (last_some h1).2.1, r1, newer_some hX h4 h1⟩

set_option maxRecDepth 100000 in
set_option maxHeartbeats 2000000 in
theorem latest11 (w : World) (S R : Nat → Prop) (g : Nat) (v : Value) (b : List Nat) (N a : Nat) (hP : Ps w S g v b N) (hS : Src w R v b) (hR : ∀ k, R k → ¬ S k) (hX : ∀ x ∈ b, x < 256) (hNa : N ≤ a) (ha : a ≤ b.length) (hl : b.length ≤ 140737488353272) :
    Calls Tryz.prog 165 #[.pointer (some ⟨g, 0, none⟩), .int .i64 (a : Nat)] w fun e w' => e = .returned (ans (latest b a)) ∧ (∃ M, M ≤ a ∧ Ps w' S g v b M) ∧ Chg w w' S := by
  obtain ⟨ad, c, rfl⟩ := hS.forms
  obtain ⟨n, hn⟩ : ∃ n, n = b.length := ⟨_, rfl⟩
  by_cases h4 : a + 4 ≤ b.length
  · have F20 := Lib.hid (note20 w S R g _ b N a hP hS hR hX hNa h4 hl)
    have F21 : Hid (∀ x, Chg w x S → Calls Tryz.prog 178 #[.slice ad b.length c, .int .i64 (a : Nat)] x fun e x' => e = .returned (.int .u32 (f4 b a : Nat)) ∧ ∃ m, x' = x.drewN m) := Lib.hid fun x hc => fourAt21 x R _ b a (hS.move fun k hk hlt => hc.block k hlt (hR k hk)) hX h4 hl
    have FL : Hid (∀ x, Ps x S g (.slice ad b.length c) b a → _) := Lib.hid fun x h => two_looks hX h4 h
    have c0 : w.cell? ⟨g, 0, none⟩ = some (.slice ad b.length c) := by obtain ⟨m1, m2, s, n1, n2, hS, hne, hp, _⟩ := hP; exact hp.c0
    rw [← hn] at h4 ha hl F20 F21 FL c0 ⊢
    have hlt : ¬ (n : Int) - (a : Int) < 4 := by omega
    clear hP hS hR hX hn
    go_enter Tryz.func165, Tryz.ntmps165
    go_wp2_with (go_at_call 177; refine F20.out.mono ?_; rintro e w1 ⟨rfl, hP1, hC1⟩; have P1 := Lib.hid hP1; have C1 := Lib.hid hC1; have c01 : w1.cell? ⟨g, 0, none⟩ = some (.slice ad n c) := (by obtain ⟨m1, m2, s, n1, n2, hS, hne, hp, _⟩ := hP1; exact hp.c0); clear hP1 hC1)
    refine (F21.out _ C1.out).mono ?_
    rintro e w2 ⟨rfl, hm2⟩
    have P2 : Hid (Ps w2 S g (.slice ad n c) b a) := Lib.hid (by obtain ⟨m, rfl⟩ := hm2; exact P1.out.drewN m)
    have C2 : Hid (Chg w w2 S) := Lib.hid (by obtain ⟨m, rfl⟩ := hm2; exact C1.out.drewN m)
    obtain ⟨m1, m2, hp, hcase⟩ := FL.out _ P2.out
    have c2 := hp.c2
    have c3 := hp.c3
    clear hp hm2 c01 c0
    rcases hcase with ⟨q, hq, r1, hla⟩ | ⟨q, hq, r1, r2, hla⟩ | ⟨r1, r2, hla⟩
    · by_cases hf : a - q ≤ 65535
      · rw [if_pos hf] at hla
        have HLA := Lib.hid hla
        have hf' : ¬ (a : Int) - (q : Int) > 65535 := by omega
        clear hla
        go_wp2_with fail
        go_ret2
        exact ⟨by rw [HLA.out]; rfl, ⟨a, Nat.le_refl _, P2.out⟩, C2.out⟩
      · rw [if_neg hf] at hla
        have HLA := Lib.hid hla
        have hf' : (a : Int) - (q : Int) > 65535 := by omega
        clear hla
        go_wp2_with fail
        go_ret2
        exact ⟨by rw [HLA.out]; rfl, ⟨a, Nat.le_refl _, P2.out⟩, C2.out⟩
    · by_cases hf : a - q ≤ 65535
      · rw [if_pos hf] at hla
        have HLA := Lib.hid hla
        have hf' : ¬ (a : Int) - (q : Int) > 65535 := by omega
        clear hla
        go_wp2_with fail
        go_ret2
        exact ⟨by rw [HLA.out]; rfl, ⟨a, Nat.le_refl _, P2.out⟩, C2.out⟩
      · rw [if_neg hf] at hla
        have HLA := Lib.hid hla
        have hf' : (a : Int) - (q : Int) > 65535 := by omega
        clear hla
        go_wp2_with fail
        go_ret2
        exact ⟨by rw [HLA.out]; rfl, ⟨a, Nat.le_refl _, P2.out⟩, C2.out⟩
    · have HLA := Lib.hid hla
      clear hla
      go_wp2_with fail
      go_ret2
      exact ⟨by rw [HLA.out]; rfl, ⟨a, Nat.le_refl _, P2.out⟩, C2.out⟩
  · have HLA := Lib.hid (latest_end (b := b) (a := a) (by omega))
    have HP := Lib.hid hP
    have c0 : w.cell? ⟨g, 0, none⟩ = some (.slice ad b.length c) := by obtain ⟨m1, m2, s, n1, n2, hS, hne, hp, _⟩ := hP; exact hp.c0
    rw [← hn] at h4 ha hl c0 HP ⊢
    have hlt : (n : Int) - (a : Int) < 4 := by omega
    clear hP hS hR hX hn
    go_enter Tryz.func165, Tryz.ntmps165
    go_wp2_with fail
    go_ret2
    exact ⟨by rw [HLA.out]; rfl, ⟨N, hNa, HP.out⟩, Chg.refl _ _⟩
end Np
end Go.Proofs.YtjmddomkoholoaaGreatDoor

/- The program's side: appendOwn, appendCopy. -/
namespace Go.Proofs.YtjmddomkoholoaaGreatDoor
open Go.RowKit
namespace Fb
open Lm Bs

theorem add_eq (q off j : Nat) : (⟨q, off, none⟩ : Addr).add j = ⟨q, off + j, none⟩ := by unfold Addr.add; split <;> simp_all
theorem g_take {l : List Nat} {N i : Nat} (h : i < N) : g (l.take N) i = g l i := by unfold g; simp [List.getD_eq_getElem?_getD, h]
theorem g_drop (l : List Nat) (N i : Nat) : g (l.drop N) i = g l (N + i) := by unfold g; simp [List.getD_eq_getElem?_getD]
theorem u8s_g (bs : List Nat) (j : Nat) (u : Value) (h : (u8s bs)[j]? = some u) : j < bs.length ∧ u = .int .u8 (g bs j : Nat) := by
  have hj : j < bs.length := by
    by_cases hj : j < bs.length
    · exact hj
    · rw [List.getElem?_eq_none (by rw [u8s_len]; omega)] at h; cases h
  rw [u8s_get bs j hj] at h
  cases h
  exact ⟨hj, rfl⟩
/-- The first N cells. -/
theorem take_cells {w : World} {q off n N : Nat} {l : List Nat} (hn : n = l.length) (hN : N ≤ n) (hc : ∀ i, i < n → w.cell? ⟨q, off + i, none⟩ = some (.int .u8 (g l i : Nat))) : ∀ j u, (u8s (l.take N))[j]? = some u → w.cell? ((⟨q, off, none⟩ : Addr).add j) = some u := by
  intro j u h
  obtain ⟨h1, rfl⟩ := u8s_g _ _ _ h
  rw [List.length_take] at h1
  rw [add_eq, hc j (by omega), g_take (by omega)]
theorem src_drop {w : World} {R : Nat → Prop} {q off n c N : Nat} {l : List Nat} (hn : n = l.length) (hN : N < n) (hnc : n ≤ c) (hR : R q) (hc : ∀ i, i < n → w.cell? ⟨q, off + i, none⟩ = some (.int .u8 (g l i : Nat))) : Src w R (.slice (some ⟨q, off + N, none⟩) (n - N) (c - N)) (l.drop N) := by
  refine .inr ⟨by rw [List.length_drop]; omega, q, off + N, c - N, by rw [List.length_drop, hn], by rw [List.length_drop]; omega, hR, fun i hi => ?_⟩
  rw [List.length_drop] at hi
  rw [Nat.add_assoc, hc (N + i) (by omega), g_drop]
theorem src_done {w : World} {R : Nat → Prop} {l : List Nat} {N : Nat} (h : l.length ≤ N) (a : Option Addr) (c : Nat) : Src w R (.slice a 0 c) (l.drop N) := by
  rw [List.drop_of_length_le h]; exact .inl ⟨rfl, _, _, rfl⟩

set_option maxRecDepth 100000 in
set_option maxHeartbeats 2000000 in
theorem own13 (w : World) (B : Nat) (R : Nat → Prop) (s v : Value) (pre l : List Nat) (hown : w.ownsRow B 5 1 s pre.length (u8s pre)) (hS : Src w R v l) (hR : ∀ k, R k → k < B) (hB : B ≤ w.heap.size) (hb : pre.length + 2 * l.length ≤ 70368744177664) :
    Calls Tryz.prog 167 #[s, v] w fun e w' => ∃ r, e = .returned r ∧ w'.ownsRow B 5 1 r (pre ++ own l).length (u8s (pre ++ own l)) ∧ Gr w w' s r := by
  obtain ⟨i0, hi, hz0, hz1, hz2⟩ := info_parts info5
  have HS := Lib.hid hS
  have HO := Lib.hid hown
  clear hS hown
  go_enter Tryz.func167, Tryz.ntmps167
  go_wp2_with fail
  go_loopw [0, 1] (fun s' v' wr => ∃ pre' l', pre' ++ own l' = pre ++ own l ∧ wr.ownsRow B 5 1 s' pre'.length (u8s pre') ∧ Src wr R v' l' ∧ Gr w wr s s' ∧ pre'.length + 2 * l'.length ≤ 70368744177664) (fun _ v' _ => lenOf v')
  case atStart => exact ⟨pre, l, rfl, HO.out, HS.out, Gr.refl _ _, hb⟩
  case round =>
    obtain ⟨pre', l', heq, ho, hs, hg, hlen⟩ := hrel
    rcases hs with ⟨rfl, a, c, rfl⟩ | ⟨h0, q, off, c, rfl, hnc, hq, hcell⟩
    · have HH : Hid (wr.ownsRow B 5 1 u0 (pre ++ own l).length (u8s (pre ++ own l))) := Lib.hid (by rw [own_nil, List.append_nil] at heq; rw [← heq]; exact ho)
      have HG := Lib.hid hg
      clear heq ho hg
      go_wp2_with fail
      go_ret
      exact ⟨_, rfl, HH.out, HG.out⟩
    · obtain ⟨n, hn⟩ : ∃ n, n = l'.length := ⟨_, rfl⟩
      obtain ⟨N, hN⟩ : ∃ N, N = min 127 l'.length := ⟨_, rfl⟩
      have HEQ : Hid ((pre' ++ [N] ++ l'.take N) ++ own (l'.drop N) = pre ++ own l) := Lib.hid (by
        rw [← heq, own_cons h0]
        rcases (show N = 127 ∨ (N = l'.length ∧ N ≤ 127) by omega) with rfl | ⟨h1, h2⟩
        · rw [hN]; simp
        · rw [h1, List.take_of_length_le (Nat.le_refl _), List.drop_of_length_le (Nat.le_refl _), List.take_of_length_le (show l'.length ≤ 127 by omega), List.drop_of_length_le (show l'.length ≤ 127 by omega), ← hN, h1]; simp)
      have HNL : Hid (N = (l'.take N).length) := Lib.hid (by rw [List.length_take]; omega)
      have HLD : Hid ((l'.drop N).length = n - N) := Lib.hid (by rw [List.length_drop, hn])
      have HDONE : Hid (∀ (x : World) a c, n ≤ N → Src x R (.slice a 0 c) (l'.drop N)) := Lib.hid fun x a c h => src_done (by omega) a c
      have HDROP : Hid (∀ x : World, (∀ i, i < n → x.cell? ⟨q, off + i, none⟩ = some (.int .u8 (g l' i : Nat))) → N < n → Src x R (.slice (some ⟨q, off + N, none⟩) (n - N) (c - N)) (l'.drop N)) := Lib.hid fun (x : World) h1 h2 => src_drop hn h2 (by omega) hq h1
      have HTAKE : Hid (∀ x : World, (∀ i, i < n → x.cell? ⟨q, off + i, none⟩ = some (.int .u8 (g l' i : Nat))) → ∀ j u, (u8s (l'.take N))[j]? = some u → x.cell? ((⟨q, off, none⟩ : Addr).add j) = some u) := Lib.hid fun x h => take_cells hn (by omega) h
      rw [← hn] at hN hlen hnc h0 hcell ⊢
      have hqB := hR q hq
      have HC := Lib.hid hcell
      have HG := Lib.hid hg
      have hgs := hg.size
      have hown := ho
      have HLT : Hid (∀ r, u0.ownBlock = some r → B ≤ r ∧ r < wr.heap.size) := Lib.hid (fun r hr => ho.lt r hr)
      have hN1 : N ≤ 127 := by omega
      have hN2 : N ≤ n := by omega
      obtain ⟨K, hK⟩ : ∃ K, K = pre'.length := ⟨_, rfl⟩
      obtain ⟨P, hP⟩ : ∃ P, P = u8s pre' := ⟨_, rfl⟩
      obtain ⟨T, hT⟩ : ∃ T, T = l'.take N := ⟨_, rfl⟩
      have HPT : Hid (u8s (pre' ++ [N] ++ T) = P ++ (.int .u8 (N : Nat) :: u8s T) ∧ (pre' ++ [N] ++ T).length = K + 1 + N) := Lib.hid ⟨by rw [u8s_app, u8s_snoc, hP, List.append_assoc]; rfl, by rw [hT, List.length_append, List.length_append, ← HNL.out, hK]; rfl⟩
      have HTL : Hid ((u8s T).length = N) := Lib.hid (by rw [u8s_len, hT]; exact HNL.out.symm)
      rw [← hT] at HTAKE HEQ
      rw [← hK, ← hP] at hown
      rw [← hK] at hlen
      have hcase : (n ≤ 127 ∧ N = n ∧ n = c) ∨ (n ≤ 127 ∧ N = n ∧ ¬ c = n) ∨ (¬ n ≤ 127 ∧ N = 127) := by omega
      clear heq ho hg hcell hn hK hP hT hR hb hq hN
      rcases hcase with ⟨hle, hNn, hcn⟩ | ⟨hle, hNn, hcn⟩ | ⟨hle, hNn⟩
      · subst hNn; subst hcn
        go_wp2_with (at_builtin; refine wpList_append_own_at _ rfl (.tmp 12) (.tmp 15) 22 rfl B 5 i0 (.int .u8 0) 1 1 Tryz.underlying22 hi hz0 hz1 hz2 rfl (by decide) _ K _ rfl (hown.alloc _) ⟨wr.heap.size, 0, none⟩ 1 1 [.int .u8 (N : Nat)] rfl rfl ?c1 ?c2 ?c3 ?c4 ?c5 ?_)
        case c1 => exact cell_one_new _ _ _
        case c2 => intro u hu; simp at hu; subst hu; rfl
        case c3 => unfold maxLen; omega
        case c4 => omega
        case c5 => simp; omega
        intro v2 w2 hown2 hgrow2 _ hat2
        have G2 := Lib.hid (gr_alloc _ (gr_at hgrow2 (by simpa using hat2)))
        have L2 : Hid (∀ r, v2.ownBlock = some r → B ≤ r ∧ r < w2.heap.size) := Lib.hid (fun r hr => hown2.lt r hr)
        have C2 : Hid (∀ i, i < N → w2.cell? ⟨q, off + i, none⟩ = some (.int .u8 (g l' i : Nat))) := Lib.hid fun i hi' => (World.cell?_of_block (G2.out.block (k := q) (by omega) (fun e => by have := HLT.out q e; omega))).trans (HC.out i hi')
        have hgs2 := G2.out.size
        clear hgrow2 hat2 hown
        go_wp2_with (at_builtin; refine wpList_append_own_at _ rfl (.tmp 17) (.tmp 20) 22 rfl B 5 i0 (.int .u8 0) 1 1 Tryz.underlying22 hi hz0 hz1 hz2 rfl (by decide) _ (K + 1) _ rfl hown2 ⟨q, off, none⟩ N _ (u8s T) rfl (by have := HTL.out; omega) ?d1 ?d2 ?d3 ?d4 ?d5 ?_)
        case d1 => exact HTAKE.out _ C2.out
        case d2 => exact u8s_one _
        case d3 => unfold maxLen; omega
        case d4 => omega
        case d5 => omega
        intro v3 w3 hown3 hgrow3 _ hat3
        have G3 := Lib.hid (gr_at hgrow3 hat3)
        have C3 : Hid (∀ i, i < N → w3.cell? ⟨q, off + i, none⟩ = some (.int .u8 (g l' i : Nat))) := Lib.hid fun i hi' => (World.cell?_of_block (G3.out.block (k := q) (by omega) (fun e => by have := L2.out q e; omega))).trans (C2.out i hi')
        have O3 := Lib.hid hown3
        clear hgrow3 hat3 hown2 hown3
        go_wp2_with fail
        go_roundw
        case rel => exact ⟨_, _, HEQ.out, by rw [HPT.out.1, HPT.out.2]; exact O3.out, HDONE.out _ _ _ (Nat.le_refl _), HG.out.trans (G2.out.trans G3.out), by rw [HPT.out.2, HLD.out]; omega⟩
        case measure => simp [lenOf]; omega
      · subst hNn
        go_wp2_with (at_builtin; refine wpList_append_own_at _ rfl (.tmp 12) (.tmp 15) 22 rfl B 5 i0 (.int .u8 0) 1 1 Tryz.underlying22 hi hz0 hz1 hz2 rfl (by decide) _ K _ rfl (hown.alloc _) ⟨wr.heap.size, 0, none⟩ 1 1 [.int .u8 (N : Nat)] rfl rfl ?c1 ?c2 ?c3 ?c4 ?c5 ?_)
        case c1 => exact cell_one_new _ _ _
        case c2 => intro u hu; simp at hu; subst hu; rfl
        case c3 => unfold maxLen; omega
        case c4 => omega
        case c5 => simp; omega
        intro v2 w2 hown2 hgrow2 _ hat2
        have G2 := Lib.hid (gr_alloc _ (gr_at hgrow2 (by simpa using hat2)))
        have L2 : Hid (∀ r, v2.ownBlock = some r → B ≤ r ∧ r < w2.heap.size) := Lib.hid (fun r hr => hown2.lt r hr)
        have C2 : Hid (∀ i, i < N → w2.cell? ⟨q, off + i, none⟩ = some (.int .u8 (g l' i : Nat))) := Lib.hid fun i hi' => (World.cell?_of_block (G2.out.block (k := q) (by omega) (fun e => by have := HLT.out q e; omega))).trans (HC.out i hi')
        have hgs2 := G2.out.size
        clear hgrow2 hat2 hown
        go_wp2_with (at_builtin; refine wpList_append_own_at _ rfl (.tmp 17) (.tmp 20) 22 rfl B 5 i0 (.int .u8 0) 1 1 Tryz.underlying22 hi hz0 hz1 hz2 rfl (by decide) _ (K + 1) _ rfl hown2 ⟨q, off, none⟩ N _ (u8s T) rfl (by have := HTL.out; omega) ?d1 ?d2 ?d3 ?d4 ?d5 ?_)
        case d1 => exact HTAKE.out _ C2.out
        case d2 => exact u8s_one _
        case d3 => unfold maxLen; omega
        case d4 => omega
        case d5 => omega
        intro v3 w3 hown3 hgrow3 _ hat3
        have G3 := Lib.hid (gr_at hgrow3 hat3)
        have C3 : Hid (∀ i, i < N → w3.cell? ⟨q, off + i, none⟩ = some (.int .u8 (g l' i : Nat))) := Lib.hid fun i hi' => (World.cell?_of_block (G3.out.block (k := q) (by omega) (fun e => by have := L2.out q e; omega))).trans (C2.out i hi')
        have O3 := Lib.hid hown3
        clear hgrow3 hat3 hown2 hown3
        go_wp2_with fail
        go_roundw
        case rel => exact ⟨_, _, HEQ.out, by rw [HPT.out.1, HPT.out.2]; exact O3.out, HDONE.out _ _ _ (Nat.le_refl _), HG.out.trans (G2.out.trans G3.out), by rw [HPT.out.2, HLD.out]; omega⟩
        case measure => simp [lenOf]; omega
      · subst hNn
        go_wp2_with (at_builtin; refine wpList_append_own_at _ rfl (.tmp 12) (.tmp 15) 22 rfl B 5 i0 (.int .u8 0) 1 1 Tryz.underlying22 hi hz0 hz1 hz2 rfl (by decide) _ K _ rfl (hown.alloc _) ⟨wr.heap.size, 0, none⟩ 1 1 [.int .u8 127] rfl rfl ?c1 ?c2 ?c3 ?c4 ?c5 ?_)
        case c1 => exact cell_one_new _ _ _
        case c2 => intro u hu; simp at hu; subst hu; rfl
        case c3 => unfold maxLen; omega
        case c4 => omega
        case c5 => simp; omega
        intro v2 w2 hown2 hgrow2 _ hat2
        have G2 := Lib.hid (gr_alloc _ (gr_at hgrow2 (by simpa using hat2)))
        have L2 : Hid (∀ r, v2.ownBlock = some r → B ≤ r ∧ r < w2.heap.size) := Lib.hid (fun r hr => hown2.lt r hr)
        have C2 : Hid (∀ i, i < n → w2.cell? ⟨q, off + i, none⟩ = some (.int .u8 (g l' i : Nat))) := Lib.hid fun i hi' => (World.cell?_of_block (G2.out.block (k := q) (by omega) (fun e => by have := HLT.out q e; omega))).trans (HC.out i hi')
        have hgs2 := G2.out.size
        clear hgrow2 hat2 hown
        go_wp2_with (at_builtin; refine wpList_append_own_at _ rfl (.tmp 17) (.tmp 20) 22 rfl B 5 i0 (.int .u8 0) 1 1 Tryz.underlying22 hi hz0 hz1 hz2 rfl (by decide) _ (K + 1) _ rfl hown2 ⟨q, off, none⟩ 127 _ (u8s T) rfl (by have := HTL.out; omega) ?d1 ?d2 ?d3 ?d4 ?d5 ?_)
        case d1 => exact HTAKE.out _ C2.out
        case d2 => exact u8s_one _
        case d3 => unfold maxLen; omega
        case d4 => omega
        case d5 => omega
        intro v3 w3 hown3 hgrow3 _ hat3
        have G3 := Lib.hid (gr_at hgrow3 hat3)
        have C3 : Hid (∀ i, i < n → w3.cell? ⟨q, off + i, none⟩ = some (.int .u8 (g l' i : Nat))) := Lib.hid fun i hi' => (World.cell?_of_block (G3.out.block (k := q) (by omega) (fun e => by have := L2.out q e; omega))).trans (C2.out i hi')
        have O3 := Lib.hid hown3
        clear hgrow3 hat3 hown2 hown3
        go_wp2_with fail
        go_roundw
        case rel => exact ⟨_, _, HEQ.out, by rw [HPT.out.1, HPT.out.2]; exact O3.out, HDROP.out _ C3.out (by omega), HG.out.trans (G2.out.trans G3.out), by rw [HPT.out.2, HLD.out]; omega⟩
        case measure => simp [lenOf]; omega
end Fb
end Go.Proofs.YtjmddomkoholoaaGreatDoor

/- appendCopy; the document's flush. -/
namespace Go.Proofs.YtjmddomkoholoaaGreatDoor
open Go.RowKit
namespace Fb
open Lm Bs

theorem cells_new (w : World) (xs : List Value) (t : TypeId) : ∀ j u, xs[j]? = some u → (w.alloc (.cells xs.toArray t)).cell? ((⟨w.heap.size, 0, none⟩ : Addr).add j) = some u := by
  intro j u hj
  rw [add_eq, Nat.zero_add, cell_of_row _ _ _ _ _ _ (heap_alloc_new _ _)]
  simpa using hj

set_option maxRecDepth 100000 in
theorem copy14 (w : World) (B : Nat) (s : Value) (pre : List Nat) (d n : Nat) (hown : w.ownsRow B 5 1 s pre.length (u8s pre)) (hB : B ≤ w.heap.size) (hb : pre.length ≤ 70368744177664) (hd : d ≤ 65535) (hn4 : 4 ≤ n) (hn : n ≤ 131) :
    Calls Tryz.prog 168 #[s, .int .i64 (d : Nat), .int .i64 (n : Nat)] w fun e w' => ∃ r, e = .returned r ∧ w'.ownsRow B 5 1 r (pre ++ cp d n).length (u8s (pre ++ cp d n)) ∧ Gr w w' s r := by
  obtain ⟨i0, hi, hz0, hz1, hz2⟩ := info_parts info5
  obtain ⟨K, hK⟩ : ∃ K, K = pre.length := ⟨_, rfl⟩
  obtain ⟨P, hP⟩ : ∃ P, P = u8s pre := ⟨_, rfl⟩
  have HPT : Hid (u8s (pre ++ cp d n) = P ++ [.int .u8 ((124 + n : Nat) : Int), .int .u8 ((d / 256 : Nat) : Int), .int .u8 ((d % 256 : Nat) : Int)] ∧ (pre ++ cp d n).length = K + 3) := Lib.hid ⟨by rw [u8s_app, hP]; rfl, by rw [List.length_append, hK]; rfl⟩
  obtain ⟨X, hX⟩ : ∃ X, X = 124 + n := ⟨_, rfl⟩
  obtain ⟨Y, hY⟩ : ∃ Y, Y = d / 256 := ⟨_, rfl⟩
  obtain ⟨Z, hZ⟩ : ∃ Z, Z = d % 256 := ⟨_, rfl⟩
  have h1 : 128 + (n : Int) - 4 = (X : Int) := by omega
  have h2 : (d : Int) / 256 = (Y : Int) := by omega
  have h3 : (d : Int) % 256 = (Z : Int) := by omega
  have h4 : X < 256 := by omega
  have h5 : Y < 256 := by omega
  have h6 : Z < 256 := by omega
  rw [← hX, ← hY, ← hZ] at HPT
  rw [← hK, ← hP] at hown
  rw [← hK] at hb
  clear hX hY hZ hK hP
  go_enter Tryz.func168, Tryz.ntmps168
  go_wp2_with (at_builtin; refine wpList_append_own_at _ rfl (.tmp 7) (.tmp 17) 22 rfl B 5 i0 (.int .u8 0) 1 1 Tryz.underlying22 hi hz0 hz1 hz2 rfl (by decide) _ K _ rfl (hown.alloc _) ⟨w.heap.size, 0, none⟩ 3 3 [.int .u8 (X : Int), .int .u8 (Y : Int), .int .u8 (Z : Int)] rfl rfl ?c1 ?c2 ?c3 ?c4 ?c5 ?_)
  case c1 => exact cells_new _ _ _
  case c2 => intro u hu; simp at hu; rcases hu with rfl | rfl | rfl <;> rfl
  case c3 => unfold maxLen; omega
  case c4 => omega
  case c5 => simp; omega
  intro v2 w2 hown2 hgrow2 _ hat2
  have G2 := Lib.hid (gr_alloc _ (gr_at hgrow2 (by simpa using hat2)))
  have O2 := Lib.hid hown2
  clear hgrow2 hat2 hown hown2
  go_wp2_with fail
  go_ret
  exact ⟨_, rfl, by rw [HPT.out.1, HPT.out.2]; exact O2.out, G2.out⟩

/-- An append to a slice of one's own, as one step of a region that draws. -/
theorem step_append_at {P : Program} {ops : Array Oper} {o : Oper} {a : Act} {w : World} {K : Act → World → Prop} {Q : Exit → Act → World → Prop} {E : Prop}
    (hg : o.guard = none) (s x : Operand) (t : TypeId) (hop : o.op = Op.call { callee := Callee.builtin Builtin.append, args := #[s, x], argTypes := #[t, t] })
    (base : Nat) (e : TypeId) (i : TypeInfo) (z : Value) (size bytes : Nat) (h1 : P.underlying t = some (.slice e)) (h2 : P.info? e = some i) (h3 : i.zero = some z) (h4 : i.size = size) (h5 : i.bytes = bytes) (h6 : z.cells.size = size) (h7 : 0 < size)
    (v : Value) (n : Nat) (xs : List Value) (hs : a.eval s = v) (hown : w.ownsRow base e size v n xs)
    (ad : Addr) (m c : Nat) (news : List Value) (hx : a.eval x = .slice (some ad) m c) (hn : news.length = m * size) (hc : ∀ j u, news[j]? = some u → w.cell? (ad.add j) = some u) (h1c : ∀ u ∈ news, u.oneCell' = true)
    (b1 : n + m ≤ maxLen) (b2 : (n + m) * bytes ≤ 140737488355328) (hb : base ≤ w.heap.size)
    (hK : ∀ v' w', w'.ownsRow base e size v' (n + m) (xs ++ news) → w.grownBy w' v.ownBlock → (v'.ownBlock = v.ownBlock ∨ v'.ownBlock = some w.heap.size) → K (a.put o.dst v') w') :
    if Region.wanted o (yielded ops a.tmps) = true then Oper.wp P o a w K Q else E := by
  have hw : Region.wanted o (yielded ops a.tmps) = true := by simp [Region.wanted, hg]
  rw [if_pos hw]
  obtain ⟨v', w', hrun, r1, r2, _, r3⟩ := run_append_own_at (P := P) w base t o.type e i z size bytes h1 h2 h3 h4 h5 h6 h7 v n xs hown ad m c news hn hc h1c b1 b2 hb
  unfold Oper.wp
  simp [execOp, hop, resolve, invoke, builtin, hs, hx, hrun, Result.andThen]
  exact hK v' w' r1 r2 r3
end Fb
end Go.Proofs.YtjmddomkoholoaaGreatDoor

/- The document's side: flush. -/
namespace Go.Proofs.YtjmddomkoholoaaGreatDoor
open Go.RowKit
namespace Fb
open Lm Bs

theorem own_ne {w : World} {s s' : Value} {k : Nat} (h : Own w s s') (hs : s.ownBlock ≠ some k) (hk : k < w.heap.size) : s'.ownBlock ≠ some k := by
  rcases h with h | ⟨j, h, hj⟩
  · rw [h]; exact hs
  · rw [h]; intro e; cases e; omega
theorem slice_any {w : World} {B size n : Nat} {e : TypeId} {v : Value} {xs : List Value} (ho : w.ownsRow B e size v n xs) : ∃ a c, v = .slice a n c := by
  rcases Go.Joins.ownsRow_forms ho with ⟨rfl, h0⟩ | ⟨q, c, rfl⟩
  · exact ⟨none, 0, by rw [h0]⟩
  · exact ⟨_, _, rfl⟩

set_option maxRecDepth 100000 in
set_option maxHeartbeats 2000000 in
theorem flush17 (w : World) (B : Nat) (R : Nat → Prop) (s v : Value) (pre l : List Nat) (hown : w.ownsRow B 5 1 s pre.length (u8s pre)) (hS : Src w R v l) (hR : ∀ k, R k → s.ownBlock ≠ some k ∧ k < w.heap.size) (hB : B ≤ w.heap.size) (hb : pre.length + 2 * l.length ≤ 70368744177664) :
    Calls Tryz.prog 145 #[s, v] w fun e w' => ∃ r, e = .returned r ∧ w'.ownsRow B 5 1 r (pre ++ own l).length (u8s (pre ++ own l)) ∧ Gr w w' s r := by
  obtain ⟨i0, hi, hz0, hz1, hz2⟩ := info_parts info5
  have HS := Lib.hid hS
  have HO := Lib.hid hown
  clear hS hown
  go_enter Tryz.func145, Tryz.ntmps145
  go_wp2_with fail
  go_loopw [0, 1] (fun s' v' wr => ∃ pre' l', pre' ++ own l' = pre ++ own l ∧ wr.ownsRow B 5 1 s' pre'.length (u8s pre') ∧ Src wr R v' l' ∧ Gr w wr s s' ∧ pre'.length + 2 * l'.length ≤ 70368744177664) (fun _ v' _ => lenOf v')
  case atStart => exact ⟨pre, l, rfl, HO.out, HS.out, Gr.refl _ _, hb⟩
  case round =>
    obtain ⟨pre', l', heq, ho, hs, hg, hlen⟩ := hrel
    rcases hs with ⟨rfl, a, c, rfl⟩ | ⟨h0, q, off, c, rfl, hnc, hq, hcell⟩
    · have HH : Hid (wr.ownsRow B 5 1 u0 (pre ++ own l).length (u8s (pre ++ own l))) := Lib.hid (by rw [own_nil, List.append_nil] at heq; rw [← heq]; exact ho)
      have HG := Lib.hid hg
      clear heq ho hg
      go_wp2_with fail
      go_ret
      exact ⟨_, rfl, HH.out, HG.out⟩
    · obtain ⟨n, hn⟩ : ∃ n, n = l'.length := ⟨_, rfl⟩
      obtain ⟨N, hN⟩ : ∃ N, N = min 127 l'.length := ⟨_, rfl⟩
      have HEQ : Hid ((pre' ++ [N] ++ l'.take N) ++ own (l'.drop N) = pre ++ own l) := Lib.hid (by
        rw [← heq, own_cons h0]
        rcases (show N = 127 ∨ (N = l'.length ∧ N ≤ 127) by omega) with rfl | ⟨h1, h2⟩
        · rw [hN]; simp
        · rw [h1, List.take_of_length_le (Nat.le_refl _), List.drop_of_length_le (Nat.le_refl _), List.take_of_length_le (show l'.length ≤ 127 by omega), List.drop_of_length_le (show l'.length ≤ 127 by omega), ← hN, h1]; simp)
      have HNL : Hid (N = (l'.take N).length) := Lib.hid (by rw [List.length_take]; omega)
      have HLD : Hid ((l'.drop N).length = n - N) := Lib.hid (by rw [List.length_drop, hn])
      have HDONE : Hid (∀ (x : World) a c, n ≤ N → Src x R (.slice a 0 c) (l'.drop N)) := Lib.hid fun x a c h => src_done (by omega) a c
      have HDROP : Hid (∀ x : World, (∀ i, i < n → x.cell? ⟨q, off + i, none⟩ = some (.int .u8 (g l' i : Nat))) → N < n → Src x R (.slice (some ⟨q, off + N, none⟩) (n - N) (c - N)) (l'.drop N)) := Lib.hid fun (x : World) h1 h2 => src_drop hn h2 (by omega) hq h1
      have HTAKE : Hid (∀ x : World, (∀ i, i < n → x.cell? ⟨q, off + i, none⟩ = some (.int .u8 (g l' i : Nat))) → ∀ j u, (u8s (l'.take N))[j]? = some u → x.cell? ((⟨q, off, none⟩ : Addr).add j) = some u) := Lib.hid fun x h => take_cells hn (by omega) h
      rw [← hn] at hN hlen hnc h0 hcell ⊢
      have HQ0 : Hid (u0.ownBlock ≠ some q) := Lib.hid (own_ne hg.2 (hR q hq).1 (hR q hq).2)
      have HQL : Hid (q < wr.heap.size) := Lib.hid (Nat.lt_of_lt_of_le (hR q hq).2 hg.size)
      have HC := Lib.hid hcell
      have HG := Lib.hid hg
      have hgs := hg.size
      have hown := ho
      have HLT : Hid (∀ r, u0.ownBlock = some r → B ≤ r ∧ r < wr.heap.size) := Lib.hid (fun r hr => ho.lt r hr)
      have hN1 : N ≤ 127 := by omega
      have hN2 : N ≤ n := by omega
      obtain ⟨K, hK⟩ : ∃ K, K = pre'.length := ⟨_, rfl⟩
      obtain ⟨P, hP⟩ : ∃ P, P = u8s pre' := ⟨_, rfl⟩
      obtain ⟨T, hT⟩ : ∃ T, T = l'.take N := ⟨_, rfl⟩
      have HPT : Hid (u8s (pre' ++ [N] ++ T) = P ++ (.int .u8 (N : Nat) :: u8s T) ∧ (pre' ++ [N] ++ T).length = K + 1 + N) := Lib.hid ⟨by rw [u8s_app, u8s_snoc, hP, List.append_assoc]; rfl, by rw [hT, List.length_append, List.length_append, ← HNL.out, hK]; rfl⟩
      have HTL : Hid ((u8s T).length = N) := Lib.hid (by rw [u8s_len, hT]; exact HNL.out.symm)
      rw [← hT] at HTAKE HEQ
      rw [← hK, ← hP] at hown
      rw [← hK] at hlen
      obtain ⟨ao, co, hu⟩ := slice_any hown
      have HSEC : Hid (∀ w2 : World, (wr.alloc (.cells #[.int .u8 (N : Nat)] 5)).drew.grownBy w2 u0.ownBlock → ∀ i, i < n → w2.cell? ⟨q, off + i, none⟩ = some (.int .u8 (g l' i : Nat))) := Lib.hid fun w2 h i hi' => by
        have hlt : q < wr.heap.size := by have := HC.out i hi'; exact cell_lt this
        refine (World.cell?_of_block ((h.block q (by simp; omega) (fun e => HQ0.out e.symm)).trans ?_)).trans (HC.out i hi')
        exact Below.heap_alloc wr _ q hlt
      have HOD : Hid ((wr.alloc (.cells #[.int .u8 (N : Nat)] 5)).drew.ownsRow B 5 1 u0 K P) := Lib.hid (hown.alloc _).drew
      have HWZ : Hid (B ≤ (wr.alloc (.cells #[.int .u8 (N : Nat)] 5)).drew.heap.size) := Lib.hid (by simp; omega)
      have HWZ2 : Hid (∀ w2 : World, (wr.alloc (.cells #[.int .u8 (N : Nat)] 5)).drew.grownBy w2 u0.ownBlock → B ≤ w2.heap.size) := Lib.hid fun w2 h => by have h1 := h.size; simp at h1; omega
      have HC1 : Hid (∀ j u, [Value.int .u8 (N : Nat)][j]? = some u → (wr.alloc (.cells #[.int .u8 (N : Nat)] 5)).drew.cell? ((⟨wr.heap.size, 0, none⟩ : Addr).add j) = some u) := Lib.hid fun j u h => cell_one_new wr (.int .u8 (N : Nat)) 5 j u h
      have HGR : Hid (∀ (w2 : World) (v2 : Value), (wr.alloc (.cells #[.int .u8 (N : Nat)] 5)).drew.grownBy w2 u0.ownBlock → (v2.ownBlock = u0.ownBlock ∨ v2.ownBlock = some (wr.heap.size + 1)) → Gr wr w2 u0 v2) := Lib.hid fun w2 v2 h1 h2 => gr_alloc (.cells #[.int .u8 (N : Nat)] 5) (gr_at ⟨h1.os, h1.tape, h1.output, h1.size, h1.block⟩ (by simpa using h2))
      subst hu
      have hcase : (n < 127 ∧ N = n ∧ n = c) ∨ (n < 127 ∧ N = n ∧ ¬ n = c) ∨ (127 < n ∧ N = 127) ∨ (N = 127 ∧ n = 127 ∧ c = 127) ∨ (N = 127 ∧ n = 127 ∧ ¬ c = 127) := by omega
      clear heq ho hg hcell hn hK hP hT hR hb hq hN hown
      rcases hcase with ⟨hle, hNn, hcn⟩ | ⟨hle, hNn, hcn⟩ | ⟨hle, hNn⟩ | ⟨hNn, hle, hcn⟩ | ⟨hNn, hle, hcn⟩
      · subst hNn; subst hcn
        have hwr : IntKind.u8.wrap (N : Int) = (N : Int) := by rw [IntKind.wrap_u8]; omega
        have hi1 : (0 : Int) ≤ (N : Int) := by omega
        go_upto_region 3 with (fail)
        go_region_law (first
          | (refine step_append_at rfl (.tmp 12) (.tmp 15) 22 rfl B 5 i0 (.int .u8 0) 1 1 Tryz.underlying22 hi hz0 hz1 hz2 rfl (by decide) (.slice ao K co) K P (by simp [Act.eval]) HOD.out ⟨wr.heap.size, 0, none⟩ 1 1 [.int .u8 (N : Nat)] (by simp [Act.eval]) rfl HC1.out (by intro u hu; simp at hu; subst hu; rfl) (by unfold maxLen; omega) (by omega) HWZ.out ?_; intro v2 w2 hown2 hgrow2 hat2; obtain ⟨a2, c2, hu2⟩ := slice_any hown2; subst hu2)
          | (refine step_append_at rfl (.tmp 16) (.tmp 19) 22 rfl B 5 i0 (.int .u8 0) 1 1 Tryz.underlying22 hi hz0 hz1 hz2 rfl (by decide) (.slice a2 (K + 1) c2) (K + 1) _ (by simp [Act.eval]) hown2 ⟨q, off, none⟩ N N (u8s T) (by simp [Act.eval]) (by have := HTL.out; omega) (HTAKE.out _ (HSEC.out _ hgrow2)) (u8s_one _) (by unfold maxLen; omega) (by omega) (HWZ2.out _ hgrow2) ?_; intro v3 w3 hown3 hgrow3 hat3))
        all_goals
          have G2 := Lib.hid (HGR.out _ _ hgrow2 (by simpa using hat2))
          have L2 : Hid (∀ r, (Value.slice a2 (K + 1) c2).ownBlock = some r → B ≤ r ∧ r < w2.heap.size) := Lib.hid (fun r hr => hown2.lt r hr)
          have C2 := Lib.hid (HSEC.out _ hgrow2)
          have G3 := Lib.hid (gr_at hgrow3 hat3)
          have C3 : Hid (∀ i, i < N → w3.cell? ⟨q, off + i, none⟩ = some (.int .u8 (g l' i : Nat))) := Lib.hid fun i hi' => (World.cell?_of_block (G3.out.block (k := q) (by have := C2.out i hi'; exact cell_lt this) (fun e => own_ne G2.out.2 HQ0.out HQL.out e))).trans (C2.out i hi')
          have O3 := Lib.hid hown3
          clear hgrow2 hat2 hgrow3 hat3 hown2 hown3
          go_wp2_with fail
          go_roundw
          case rel => exact ⟨_, _, HEQ.out, by have h := O3.out; rw [List.append_assoc] at h; rw [HPT.out.1, HPT.out.2]; exact h, HDONE.out _ _ _ (Nat.le_refl _), HG.out.trans (G2.out.trans G3.out), by rw [HPT.out.2, HLD.out]; omega⟩
          case measure => simp [lenOf] <;> omega
      · subst hNn
        have hwr : IntKind.u8.wrap (N : Int) = (N : Int) := by rw [IntKind.wrap_u8]; omega
        have hi1 : (0 : Int) ≤ (N : Int) := by omega
        have hi2 : (N : Int) ≤ (c : Int) := by omega
        go_upto_region 3 with (fail)
        go_region_law (first
          | (refine step_append_at rfl (.tmp 12) (.tmp 15) 22 rfl B 5 i0 (.int .u8 0) 1 1 Tryz.underlying22 hi hz0 hz1 hz2 rfl (by decide) (.slice ao K co) K P (by simp [Act.eval]) HOD.out ⟨wr.heap.size, 0, none⟩ 1 1 [.int .u8 (N : Nat)] (by simp [Act.eval]) rfl HC1.out (by intro u hu; simp at hu; subst hu; rfl) (by unfold maxLen; omega) (by omega) HWZ.out ?_; intro v2 w2 hown2 hgrow2 hat2; obtain ⟨a2, c2, hu2⟩ := slice_any hown2; subst hu2)
          | (refine step_append_at rfl (.tmp 16) (.tmp 19) 22 rfl B 5 i0 (.int .u8 0) 1 1 Tryz.underlying22 hi hz0 hz1 hz2 rfl (by decide) (.slice a2 (K + 1) c2) (K + 1) _ (by simp [Act.eval]) hown2 ⟨q, off, none⟩ N c (u8s T) (by simp [Act.eval]) (by have := HTL.out; omega) (HTAKE.out _ (HSEC.out _ hgrow2)) (u8s_one _) (by unfold maxLen; omega) (by omega) (HWZ2.out _ hgrow2) ?_; intro v3 w3 hown3 hgrow3 hat3))
        all_goals
          have G2 := Lib.hid (HGR.out _ _ hgrow2 (by simpa using hat2))
          have L2 : Hid (∀ r, (Value.slice a2 (K + 1) c2).ownBlock = some r → B ≤ r ∧ r < w2.heap.size) := Lib.hid (fun r hr => hown2.lt r hr)
          have C2 := Lib.hid (HSEC.out _ hgrow2)
          have G3 := Lib.hid (gr_at hgrow3 hat3)
          have C3 : Hid (∀ i, i < N → w3.cell? ⟨q, off + i, none⟩ = some (.int .u8 (g l' i : Nat))) := Lib.hid fun i hi' => (World.cell?_of_block (G3.out.block (k := q) (by have := C2.out i hi'; exact cell_lt this) (fun e => own_ne G2.out.2 HQ0.out HQL.out e))).trans (C2.out i hi')
          have O3 := Lib.hid hown3
          clear hgrow2 hat2 hgrow3 hat3 hown2 hown3
          go_wp2_with fail
          go_roundw
          case rel => exact ⟨_, _, HEQ.out, by have h := O3.out; rw [List.append_assoc] at h; rw [HPT.out.1, HPT.out.2]; exact h, HDONE.out _ _ _ (Nat.le_refl _), HG.out.trans (G2.out.trans G3.out), by rw [HPT.out.2, HLD.out]; omega⟩
          case measure => simp [lenOf] <;> omega
      · subst hNn
        have hi2 : (127 : Int) ≤ (c : Int) := by omega
        go_upto_region 3 with (fail)
        go_region_law (first
          | (refine step_append_at rfl (.tmp 12) (.tmp 15) 22 rfl B 5 i0 (.int .u8 0) 1 1 Tryz.underlying22 hi hz0 hz1 hz2 rfl (by decide) (.slice ao K co) K P (by simp [Act.eval]) HOD.out ⟨wr.heap.size, 0, none⟩ 1 1 [.int .u8 127] (by simp [Act.eval]) rfl HC1.out (by intro u hu; simp at hu; subst hu; rfl) (by unfold maxLen; omega) (by omega) HWZ.out ?_; intro v2 w2 hown2 hgrow2 hat2; obtain ⟨a2, c2, hu2⟩ := slice_any hown2; subst hu2)
          | (refine step_append_at rfl (.tmp 16) (.tmp 19) 22 rfl B 5 i0 (.int .u8 0) 1 1 Tryz.underlying22 hi hz0 hz1 hz2 rfl (by decide) (.slice a2 (K + 1) c2) (K + 1) _ (by simp [Act.eval]) hown2 ⟨q, off, none⟩ 127 c (u8s T) (by simp [Act.eval]) (by have := HTL.out; omega) (HTAKE.out _ (HSEC.out _ hgrow2)) (u8s_one _) (by unfold maxLen; omega) (by omega) (HWZ2.out _ hgrow2) ?_; intro v3 w3 hown3 hgrow3 hat3))
        all_goals
          have G2 := Lib.hid (HGR.out _ _ hgrow2 (by simpa using hat2))
          have L2 : Hid (∀ r, (Value.slice a2 (K + 1) c2).ownBlock = some r → B ≤ r ∧ r < w2.heap.size) := Lib.hid (fun r hr => hown2.lt r hr)
          have C2 := Lib.hid (HSEC.out _ hgrow2)
          have G3 := Lib.hid (gr_at hgrow3 hat3)
          have C3 : Hid (∀ i, i < n → w3.cell? ⟨q, off + i, none⟩ = some (.int .u8 (g l' i : Nat))) := Lib.hid fun i hi' => (World.cell?_of_block (G3.out.block (k := q) (by have := C2.out i hi'; exact cell_lt this) (fun e => own_ne G2.out.2 HQ0.out HQL.out e))).trans (C2.out i hi')
          have O3 := Lib.hid hown3
          clear hgrow2 hat2 hgrow3 hat3 hown2 hown3
          go_wp2_with fail
          go_roundw
          case rel => exact ⟨_, _, HEQ.out, by have h := O3.out; rw [List.append_assoc] at h; rw [HPT.out.1, HPT.out.2]; exact h, HDROP.out _ C3.out (by omega), HG.out.trans (G2.out.trans G3.out), by rw [HPT.out.2, HLD.out]; omega⟩
          case measure => simp [lenOf] <;> omega
      · subst hNn; subst hle; subst hcn
        go_upto_region 3 with (fail)
        go_region_law (first
          | (refine step_append_at rfl (.tmp 12) (.tmp 15) 22 rfl B 5 i0 (.int .u8 0) 1 1 Tryz.underlying22 hi hz0 hz1 hz2 rfl (by decide) (.slice ao K co) K P (by simp [Act.eval]) HOD.out ⟨wr.heap.size, 0, none⟩ 1 1 [.int .u8 127] (by simp [Act.eval]) rfl HC1.out (by intro u hu; simp at hu; subst hu; rfl) (by unfold maxLen; omega) (by omega) HWZ.out ?_; intro v2 w2 hown2 hgrow2 hat2; obtain ⟨a2, c2, hu2⟩ := slice_any hown2; subst hu2)
          | (refine step_append_at rfl (.tmp 16) (.tmp 19) 22 rfl B 5 i0 (.int .u8 0) 1 1 Tryz.underlying22 hi hz0 hz1 hz2 rfl (by decide) (.slice a2 (K + 1) c2) (K + 1) _ (by simp [Act.eval]) hown2 ⟨q, off, none⟩ 127 127 (u8s T) (by simp [Act.eval]) (by have := HTL.out; omega) (HTAKE.out _ (HSEC.out _ hgrow2)) (u8s_one _) (by unfold maxLen; omega) (by omega) (HWZ2.out _ hgrow2) ?_; intro v3 w3 hown3 hgrow3 hat3))
        all_goals
          have G2 := Lib.hid (HGR.out _ _ hgrow2 (by simpa using hat2))
          have L2 : Hid (∀ r, (Value.slice a2 (K + 1) c2).ownBlock = some r → B ≤ r ∧ r < w2.heap.size) := Lib.hid (fun r hr => hown2.lt r hr)
          have C2 := Lib.hid (HSEC.out _ hgrow2)
          have G3 := Lib.hid (gr_at hgrow3 hat3)
          have C3 : Hid (∀ i, i < 127 → w3.cell? ⟨q, off + i, none⟩ = some (.int .u8 (g l' i : Nat))) := Lib.hid fun i hi' => (World.cell?_of_block (G3.out.block (k := q) (by have := C2.out i hi'; exact cell_lt this) (fun e => own_ne G2.out.2 HQ0.out HQL.out e))).trans (C2.out i hi')
          have O3 := Lib.hid hown3
          clear hgrow2 hat2 hgrow3 hat3 hown2 hown3
          go_wp2_with fail
          go_roundw
          case rel => exact ⟨_, _, HEQ.out, by have h := O3.out; rw [List.append_assoc] at h; rw [HPT.out.1, HPT.out.2]; exact h, HDONE.out _ _ _ (Nat.le_refl _), HG.out.trans (G2.out.trans G3.out), by rw [HPT.out.2, HLD.out]; omega⟩
          case measure => simp [lenOf] <;> omega
      · subst hNn; subst hle
        have hi2 : (127 : Int) ≤ (c : Int) := by omega
        go_upto_region 3 with (fail)
        go_region_law (first
          | (refine step_append_at rfl (.tmp 12) (.tmp 15) 22 rfl B 5 i0 (.int .u8 0) 1 1 Tryz.underlying22 hi hz0 hz1 hz2 rfl (by decide) (.slice ao K co) K P (by simp [Act.eval]) HOD.out ⟨wr.heap.size, 0, none⟩ 1 1 [.int .u8 127] (by simp [Act.eval]) rfl HC1.out (by intro u hu; simp at hu; subst hu; rfl) (by unfold maxLen; omega) (by omega) HWZ.out ?_; intro v2 w2 hown2 hgrow2 hat2; obtain ⟨a2, c2, hu2⟩ := slice_any hown2; subst hu2)
          | (refine step_append_at rfl (.tmp 16) (.tmp 19) 22 rfl B 5 i0 (.int .u8 0) 1 1 Tryz.underlying22 hi hz0 hz1 hz2 rfl (by decide) (.slice a2 (K + 1) c2) (K + 1) _ (by simp [Act.eval]) hown2 ⟨q, off, none⟩ 127 c (u8s T) (by simp [Act.eval]) (by have := HTL.out; omega) (HTAKE.out _ (HSEC.out _ hgrow2)) (u8s_one _) (by unfold maxLen; omega) (by omega) (HWZ2.out _ hgrow2) ?_; intro v3 w3 hown3 hgrow3 hat3))
        all_goals
          have G2 := Lib.hid (HGR.out _ _ hgrow2 (by simpa using hat2))
          have L2 : Hid (∀ r, (Value.slice a2 (K + 1) c2).ownBlock = some r → B ≤ r ∧ r < w2.heap.size) := Lib.hid (fun r hr => hown2.lt r hr)
          have C2 := Lib.hid (HSEC.out _ hgrow2)
          have G3 := Lib.hid (gr_at hgrow3 hat3)
          have C3 : Hid (∀ i, i < 127 → w3.cell? ⟨q, off + i, none⟩ = some (.int .u8 (g l' i : Nat))) := Lib.hid fun i hi' => (World.cell?_of_block (G3.out.block (k := q) (by have := C2.out i hi'; exact cell_lt this) (fun e => own_ne G2.out.2 HQ0.out HQL.out e))).trans (C2.out i hi')
          have O3 := Lib.hid hown3
          clear hgrow2 hat2 hgrow3 hat3 hown2 hown3
          go_wp2_with fail
          go_roundw
          case rel => exact ⟨_, _, HEQ.out, by have h := O3.out; rw [List.append_assoc] at h; rw [HPT.out.1, HPT.out.2]; exact h, HDONE.out _ _ _ (Nat.le_refl _), HG.out.trans (G2.out.trans G3.out), by rw [HPT.out.2, HLD.out]; omega⟩
          case measure => simp [lenOf] <;> omega
end Fb
end Go.Proofs.YtjmddomkoholoaaGreatDoor
