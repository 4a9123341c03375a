/- The document's Parse. -/
import Derived.Test.YtedlgcbgbphlkaaSn
namespace Go.Proofs.Ytedlgcbgbphlkaa
open Go.RowKit
namespace So
open Jb Sa Sb Sc Sd Se Sf Sg Sh Si Sj Sk Sl Sm Sn

theorem part_no (w : World) (s : ByteArray) (p : Nat) (hs : s.size ≤ 140737488351232) (hp : p ≤ s.size) (h : prt ((bl s).drop p) = none) :
    Calls Try.prog 26 #[.string s, .int .i64 (p : Nat)] w fun e w' => (∃ q : Nat, q ≤ s.size ∧ e = .returned (.tuple #[.string ⟨#[]⟩, .int .i64 (q : Nat), .bool false])) ∧ Below w.heap.size w w' := by
  refine (part26 w s p hs hp).mono ?_
  rintro e w' ⟨⟨n, q, h1, _⟩ | ⟨_, h2⟩, b⟩
  · rw [h] at h1; cases h1
  · exact ⟨h2, b⟩
theorem part_yes (w : World) (s : ByteArray) (p : Nat) (hs : s.size ≤ 140737488351232) (hp : p ≤ s.size) {n r : List UInt8} (h : prt ((bl s).drop p) = some (n, r)) :
    Calls Try.prog 26 #[.string s, .int .i64 (p : Nat)] w fun e w' => (∃ q : Nat, r = (bl s).drop q ∧ p ≤ q ∧ q ≤ s.size ∧ e = .returned (.tuple #[.string (ba n), .int .i64 (q : Nat), .bool true])) ∧ Below w.heap.size w w' := by
  refine (part26 w s p hs hp).mono ?_
  rintro e w' ⟨⟨n', q, h1, h2, h3, h4⟩ | ⟨h2, _⟩, b⟩
  · rw [h] at h1
    cases h1
    exact ⟨⟨q, rfl, h2, h3, h4⟩, b⟩
  · rw [h] at h2; cases h2
theorem none_of {t : List UInt8} {nm : ByteArray} {L : List Tg} {S : Option Sr} (h : S = (tgs t).map fun M => (nm, L ++ M)) (h0 : t ≠ []) (h1 : tag1 t = none) : ∀ x, S = some x → fm x = false := by
  intro x hx
  rw [h, tgs_none h0 h1] at hx
  cases hx
theorem many_of {t q : List UInt8} {nm : ByteArray} {L : List Tg} {S : Option Sr} {y : Tg} (h : S = (tgs t).map fun M => (nm, L ++ M)) (h1 : tag1 t = some (y, q)) (hL : 8 < L.length) : ∀ x, S = some x → fm x = false := by
  intro x hx
  rw [h, tgs_some h1, Option.map_map] at hx
  obtain ⟨M, _, e⟩ := Option.map_eq_some_iff.1 hx
  subst e
  exact fm_no2 (by simp; omega)
theorem tag1_comma {c : UInt8} {r : List UInt8} (h : c.toNat ≠ 44) : tag1 (c :: r) = none := by rw [tag1, if_neg h]
theorem tag1_key {c : UInt8} {r : List UInt8} (h : prt r = none) : tag1 (c :: r) = none := by
  rw [tag1, h]
  split <;> rfl
theorem tag1_short {c : UInt8} {r k : List UInt8} (h : prt r = some (k, [])) : tag1 (c :: r) = none := by
  rw [tag1, h]
  split <;> rfl
theorem tag1_eq {c d : UInt8} {r k q : List UInt8} (h : prt r = some (k, d :: q)) (hd : d.toNat ≠ 61) : tag1 (c :: r) = none := by
  rw [tag1, h]
  split
  · exact if_neg hd
  · rfl
theorem tag1_val {c d : UInt8} {r k q : List UInt8} (h : prt r = some (k, d :: q)) (hq : prt q = none) : tag1 (c :: r) = none := by
  rw [tag1, h]
  split
  · show (if d.toNat = 61 then (prt q).map _ else none) = none
    rw [hq]
    split <;> rfl
  · rfl
theorem tag1_yes {c d : UInt8} {r k q v r3 : List UInt8} (hc : c.toNat = 44) (h : prt r = some (k, d :: q)) (hd : d.toNat = 61) (hq : prt q = some (v, r3)) : tag1 (c :: r) = some ((ba k, ba v), r3) := by
  rw [tag1, if_pos hc, h]
  show (if d.toNat = 61 then (prt q).map _ else none) = _
  rw [if_pos hd, hq]
  rfl
set_option maxRecDepth 100000 in
set_option maxHeartbeats 4000000 in
theorem parse15 (w : World) (s : ByteArray) (hs : s.size ≤ 140737488351232) :
    Calls Try.prog 15 #[.string s] w fun e w' => PaE w' (bl s) e ∧ Below w.heap.size w w' := by
  have HQ := Lib.hid (fun (y : World) (k : Nat) (hk : k < s.size) => idx y s k hk)
  obtain ⟨n, hn⟩ : ∃ n, n = s.size := ⟨_, rfl⟩
  have hlen : ∀ (ty : TypeId) (y : World), (Builtin.len_ #[9] ty #[.string s]).run Try.prog y = .ok (.int .i64 (n : Nat)) y := fun ty y => by rw [hn]; exact run_len_string y 9 ty s Try.underlying9
  have PNO := Lib.hid (fun (y : World) (p : Nat) (hp : p ≤ s.size) (h : prt ((bl s).drop p) = none) => part_no y s p hs hp h)
  have PYES := Lib.hid (fun (y : World) (p : Nat) (hp : p ≤ s.size) (m r : List UInt8) (h : prt ((bl s).drop p) = some (m, r)) => part_yes y s p hs hp h)
  obtain ⟨r0, hr0⟩ : ∃ r, r = w.heap.size := ⟨_, rfl⟩
  obtain ⟨W, hW⟩ : ∃ W, W = w.alloc (.cells #[.string ⟨#[]⟩, .slice none 0 0] 24) := ⟨_, rfl⟩
  have ZW := Lib.hid (show W.heap[r0]? = some (.cells #[.string ⟨#[]⟩, .slice none 0 0] 24 (0, 0)) by rw [hW, hr0]; exact heap_alloc_new _ _)
  have BW := Lib.hid (show Below r0 w W by rw [hW, hr0]; exact (Below.refl _ w).alloc (Nat.le_refl _) _)
  have SW := Lib.hid (show W.heap.size = r0 + 1 by rw [hW, hr0]; simp)
  have HR0 := Lib.hid hr0
  have HN := Lib.hid hn
  rw [← hr0]
  rw [← hn] at hs HQ PNO PYES
  have HS := Lib.hid hs
  have hs9 : n ≤ 140737488355328 := by omega
  have STO := Lib.hid (fun (wr : World) (hz : wr.heap[r0]? = some (.cells #[.string ⟨#[]⟩, .slice none 0 0] 24 (0, 0))) (hb : Below r0 w wr) (a b : Value) =>
    (show (wr.cell? ⟨r0, 0, none⟩ = some (.string ⟨#[]⟩) ∧ wr.cell? ⟨r0, 1, none⟩ = some (.slice none 0 0) ∧ wr.frozen? ⟨r0, 0, none⟩ = false ∧ wr.frozen? ⟨r0, 1, none⟩ = false) ∧
      (((wr.setCell ⟨r0, 0, none⟩ a).setCell ⟨r0, 1, none⟩ b).cell? ⟨r0, 0, none⟩ = some a ∧ ((wr.setCell ⟨r0, 0, none⟩ a).setCell ⟨r0, 1, none⟩ b).cell? ⟨r0, 1, none⟩ = some b) ∧ Below r0 w ((wr.setCell ⟨r0, 0, none⟩ a).setCell ⟨r0, 1, none⟩ b) from by
      have u := Go.Joins.block_setCell (i := 1) (Go.Joins.block_setCell (i := 0) hz a) b
      exact ⟨⟨by rw [Lib.cell_of_heap hz]; rfl, by rw [Lib.cell_of_heap hz]; rfl, Lib.frozen_of_heap hz 0, Lib.frozen_of_heap hz 1⟩, ⟨Go.Joins.cell_of_block u 0, Go.Joins.cell_of_block u 1⟩, (hb.setCell (p := ⟨r0, 0, none⟩) (Nat.le_refl _) _).setCell (p := ⟨r0, 1, none⟩) (Nat.le_refl _) _⟩))
  have d0 : (bl s).drop 0 = bl s := rfl
  clear hn hs
  match hp0 : prt (bl s) with
  | none =>
    have C1 := Lib.hid (PNO.out W 0 (Nat.zero_le _) (by rw [d0]; exact hp0))
    have RL := Lib.hid (show ∀ x, rd (bl s) = some x → fm x = false from fun x hx => by unfold rd at hx; rw [hp0] at hx; cases hx)
    clear hp0 d0
    go_enter Try.func15, Try.ntmps15
    go_upto_region 1 with (fail)
    rw [← hW, ← hr0]
    clear hW hr0
    go_upto_region 2 with (go_at_call 26; refine C1.out.mono ?_; clear C1; rintro e w1 ⟨⟨q, _, rfl⟩, b1⟩; have B1 := Lib.hid b1; clear b1)
    go_upto_region 3 with (fail)
    obtain ⟨w2, hw2⟩ : ∃ w2, w2 = w1.alloc (.cells #[.string ⟨#[]⟩, .slice none 0 0] 24) := ⟨_, rfl⟩
    have B12 := B1.out.trans ((show Below w1.heap.size w1 w2 by rw [hw2]; exact (Below.refl _ w1).alloc (Nat.le_refl _) _).mono B1.out.size)
    obtain ⟨⟨q0, q1, q2, q3⟩, q4, q5⟩ := STO.out w2 ((B12.block r0 (by rw [SW.out]; omega)).trans ZW.out) (BW.out.trans (B12.mono (by rw [SW.out]; omega))) (.string ⟨#[]⟩) (.slice none 0 0)
    have Q4 := Lib.hid q4
    have Q5 := Lib.hid q5
    rw [← hw2]
    clear q4 q5 hw2 B12
    go_wp2_with fail
    refine wp_loop_rounds 1 ?_
    rw [rounds_succ]
    go_wp2_with fail
    obtain ⟨m0, m1⟩ := Q4.out
    refine bodyPost_ret (v := .tuple #[.agg #[.string ⟨#[]⟩, .slice none 0 0], .int .i64 2]) (by simp [results, Try.results15, go_sem, m0, m1] <;> rfl) rfl ⟨.inr ⟨RL.out, rfl⟩, Q5.out⟩
  | some (nm0, r1) =>
    have C1 := Lib.hid (PYES.out W 0 (Nat.zero_le _) nm0 r1 (by rw [d0]; exact hp0))
    have RD0 := Lib.hid (show rd (bl s) = (tgs r1).map fun M => (ba nm0, [] ++ M) by unfold rd; rw [hp0]; rfl)
    clear hp0 d0
    go_enter Try.func15, Try.ntmps15
    go_upto_region 1 with (fail)
    rw [← hW, ← hr0]
    clear hW hr0
    go_upto_region 2 with (go_at_call 26; refine C1.out.mono ?_; clear C1; rintro e w1 ⟨⟨q, hq1, _, hq2, rfl⟩, b1⟩; have B1 := Lib.hid b1; have HQ1 := Lib.hid hq1; have HQ2 := Lib.hid hq2; clear b1 hq1 hq2)
    go_upto_region 3 with (fail)
    obtain ⟨N0, hN0⟩ : ∃ N0, N0 = ba nm0 := ⟨_, rfl⟩
    rw [← hN0] at RD0 ⊢
    clear hN0
    obtain ⟨g, hg⟩ : ∃ g, g = w1.heap.size := ⟨_, rfl⟩
    obtain ⟨w2, hw2⟩ : ∃ w2, w2 = w1.alloc (.cells #[.string N0, .slice none 0 0] 24) := ⟨_, rfl⟩
    have B12 := (show Below w1.heap.size w1 w2 by rw [hw2]; exact (Below.refl _ w1).alloc (Nat.le_refl _) _)
    have BW2 := B1.out.trans (B12.mono B1.out.size)
    have RG := Lib.hid (show r0 < g by rw [hg]; have := B1.out.size; rw [SW.out] at this; omega)
    have RS0 := Lib.hid (show Rs w2 (g + 1) g N0 (.slice none 0 0) [] from ⟨by rw [hw2, hg]; exact heap_alloc_new _ _, Nat.lt_succ_self _, World.ownsRow_nil _ _ _ _⟩)
    have Z2 := Lib.hid (show w2.heap[r0]? = some (.cells #[.string ⟨#[]⟩, .slice none 0 0] 24 (0, 0)) from (BW2.block r0 (by rw [SW.out]; omega)).trans ZW.out)
    have G2 := Lib.hid (show g + 1 ≤ w2.heap.size by rw [hw2, hg]; simp)
    have BF := Lib.hid (show Below r0 w w2 from BW.out.trans (BW2.mono (by rw [SW.out]; omega)))
    have RD1 := Lib.hid (show rd (bl s) = (tgs ((bl s).drop q)).map fun M => (N0, [] ++ M) by rw [RD0.out, HQ1.out])
    have HQ2' := Lib.hid (show q ≤ n from HQ2.out)
    rw [← hw2, ← hg]
    clear hw2 hg B12 BW2 ZW BW SW B1
    go_loopw [5, 8, 9, 10, 11, 12, 13] (fun i _ _ _ _ _ _ wr => ∃ (k : Nat) (v : Value) (L : List Tg), i = .int .i64 (k : Nat) ∧ k ≤ n ∧ Hid (Rs wr (g + 1) g N0 v L) ∧ Hid (rd (bl s) = (tgs ((bl s).drop k)).map fun M => (N0, L ++ M)) ∧ Hid (L.length ≤ 9) ∧ Hid (wr.heap[r0]? = some (.cells #[.string ⟨#[]⟩, .slice none 0 0] 24 (0, 0))) ∧ Hid (Below r0 w wr) ∧ Hid (g + 1 ≤ wr.heap.size)) (fun i _ _ _ _ _ _ _ => n - (intOf i).toNat)
    case atStart => exact ⟨q, _, [], rfl, HQ2'.out, RS0, RD1, Lib.hid (by simp), Z2, BF, G2⟩
    case round =>
      obtain ⟨k, v, L, rfl, hk, HR, HO, HL, HZ, HB, HG⟩ := hrel
      have r0lt := Lib.hid (show r0 < wr.heap.size by have := HZ.out; rw [Array.getElem?_eq_some_iff] at this; exact this.1)
      have hk0 : (0 : Int) ≤ (k : Int) := by omega
      obtain ⟨va, vc, hv⟩ := own_forms HR.out.2.2
      obtain ⟨vm, hvm⟩ : ∃ vm, vm = L.length := ⟨_, rfl⟩
      rw [← hvm] at hv
      subst hv
      have HVM := Lib.hid hvm
      clear hvm
      by_cases hkn : k < n
      case neg =>
        obtain rfl : k = n := by omega
        have RDT := Lib.hid (show rd (bl s) = some (N0, L) by
          have h1 : (bl s).drop k = [] := List.drop_of_length_le (by rw [bl_len, ← HN.out]; exact Nat.le_refl _)
          rw [HO.out, h1, tgs_nil]
          simp)
        obtain ⟨z1, z2, z3⟩ := txt_sizes RDT.out
        rw [bl_len, ← HN.out] at z1 z2
        simp only at z1 z2 z3
        have c0 := HR.out.c0
        have c1 := HR.out.c1
        have T2 := HR.out.ti
        have FM := Lib.hid (formed12 wr N0 _ L T2 (by have := HS.out; omega) (fun x hx => by have := z3 x hx; rw [bl_len, ← HN.out] at this; have := HS.out; omega) (by have := HS.out; omega))
        clear z1 z2 z3 T2 hkn hk
        have ST := Lib.hid (fun (a b : Value) (w3 : World) (b3 : Below wr.heap.size wr w3) => STO.out w3 ((b3.block r0 r0lt.out).trans HZ.out) (HB.out.trans (b3.mono (Nat.le_of_lt r0lt.out))) a b)
        cases hf : fm (N0, L) with
        | false =>
          rw [hf] at FM
          have RL := Lib.hid (show ∀ x, rd (bl s) = some x → fm x = false from fun x hx => by rw [RDT.out] at hx; cases hx; exact hf)
          clear hf
          go_wp2_with (go_at_call 12; refine FM.out.mono ?_; clear FM; rintro e w3 ⟨rfl, b3⟩; obtain ⟨⟨q0, q1, q2, q3⟩, q4, q5⟩ := ST.out (.string ⟨#[]⟩) (.slice none 0 0) w3 b3; have Q4 := Lib.hid q4; have Q5 := Lib.hid q5; clear q4 q5 b3)
          obtain ⟨m0, m1⟩ := Q4.out
          refine bodyPost_ret (v := .tuple #[.agg #[.string ⟨#[]⟩, .slice none 0 0], .int .i64 2]) (by simp [results, Try.results15, go_sem, m0, m1] <;> rfl) rfl ⟨.inr ⟨RL.out, rfl⟩, Q5.out⟩
        | true =>
          rw [hf] at FM
          have HF := Lib.hid hf
          have TI := Lib.hid (fun (w3 : World) (b3 : Below wr.heap.size wr w3) => (show Ti ((w3.setCell ⟨r0, 0, none⟩ (.string N0)).setCell ⟨r0, 1, none⟩ (.slice va vm vc)) (.slice va vm vc) L from ti_own (own_move HR.out.2.2 (fun i _ hB hi => by
            have hne : i ≠ r0 := by have := RG.out; omega
            rw [heap_setCell_ne hne, heap_setCell_ne hne, b3.block i hi]))))
          clear hf
          go_upto_region 16 with (go_at_call 12; refine FM.out.mono ?_; clear FM; rintro e w3 ⟨rfl, b3⟩; have B3 := Lib.hid b3; clear b3)
          obtain ⟨⟨q0, q1, q2, q3⟩, q4, q5⟩ := ST.out (.string N0) (.slice va vm vc) w3 B3.out
          have Q4 := Lib.hid q4
          have Q5 := Lib.hid q5
          have T3 := Lib.hid (TI.out w3 B3.out)
          have R3 := HR.out.below B3.out
          clear q4 q5 c0 c1
          have c0 := R3.c0
          have c1 := R3.c1
          clear R3
          go_wp2_with fail
          obtain ⟨m0, m1⟩ := Q4.out
          refine bodyPost_ret (v := .tuple #[.agg #[.string N0, .slice va vm vc], .int .i64 0]) (by simp [results, Try.results15, go_sem, m0, m1] <;> rfl) rfl ⟨.inl ⟨(N0, L), _, RDT.out, HF.out, rfl, T3.out⟩, Q5.out⟩
      have hi := fun (y : World) => HQ.out y k hkn
      obtain ⟨c, hc1, hc2, hc3⟩ := drop_cons s k (by rw [← HN.out]; exact hkn)
      obtain ⟨p, hp⟩ : ∃ p, p = by8 s k := ⟨_, rfl⟩
      rw [← hp] at hi hc2
      have HC := Lib.hid hc2
      have HC1 := Lib.hid hc1
      have HNE := Lib.hid (show (bl s).drop k ≠ [] by rw [hc1]; exact List.cons_ne_nil _ _)
      clear hp hc1 hc2 hc3
      by_cases h44 : p = 44
      case neg =>
        have g1 : ((p : Int) == 44) = false := by simp; omega
        have gn44 : ((p : Int) != 44) = true := by simp; omega
        have RL := Lib.hid (none_of HO.out HNE.out (by rw [HC1.out]; exact tag1_comma (by rw [HC.out]; exact h44)))
        clear h44
        obtain ⟨⟨q0, q1, q2, q3⟩, q4, q5⟩ := STO.out wr HZ.out HB.out (.string ⟨#[]⟩) (.slice none 0 0)
        have Q4 := Lib.hid q4
        have Q5 := Lib.hid q5
        clear q4 q5
        go_wp2_with fail
        obtain ⟨m0, m1⟩ := Q4.out
        refine bodyPost_ret (v := .tuple #[.agg #[.string ⟨#[]⟩, .slice none 0 0], .int .i64 2]) (by simp [results, Try.results15, go_sem, m0, m1] <;> rfl) rfl ⟨.inr ⟨RL.out, rfl⟩, Q5.out⟩
      have g1 : ((p : Int) == 44) = true := by simp; omega
      have gn44 : ((p : Int) != 44) = false := by simp; omega
      have H44 := Lib.hid (show c.toNat = 44 by rw [HC.out]; exact h44)
      clear h44
      have ST := Lib.hid (fun (w3 : World) (b3 : Below wr.heap.size wr w3) => (show w3.heap[r0]? = some (.cells #[.string ⟨#[]⟩, .slice none 0 0] 24 (0, 0)) ∧ Below r0 w w3 from ⟨(b3.block r0 r0lt.out).trans HZ.out, HB.out.trans (b3.mono (Nat.le_of_lt r0lt.out))⟩))
      have k1 : k + 1 ≤ n := hkn
      match hpk : prt ((bl s).drop (k + 1)) with
      | none =>
        have RL := Lib.hid (none_of HO.out HNE.out (by rw [HC1.out]; exact tag1_key hpk))
        have C1 := Lib.hid (show Calls Try.prog 26 #[.string s, .int .i64 ((k : Int) + 1)] wr _ from PNO.out wr (k + 1) k1 hpk)
        clear hpk k1
        go_upto_region 7 with (go_at_call 26; refine C1.out.mono ?_; clear C1; rintro e w3 ⟨⟨e2, _, rfl⟩, b3⟩; have S3 := Lib.hid (ST.out w3 b3); clear b3)
        obtain ⟨⟨q0, q1, q2, q3⟩, q4, q5⟩ := STO.out w3 S3.out.1 S3.out.2 (.string ⟨#[]⟩) (.slice none 0 0)
        have Q4 := Lib.hid q4
        have Q5 := Lib.hid q5
        clear q4 q5
        go_wp2_with fail
        obtain ⟨m0, m1⟩ := Q4.out
        refine bodyPost_ret (v := .tuple #[.agg #[.string ⟨#[]⟩, .slice none 0 0], .int .i64 2]) (by simp [results, Try.results15, go_sem, m0, m1] <;> rfl) rfl ⟨.inr ⟨RL.out, rfl⟩, Q5.out⟩
      | some (kk, r) =>
        have C1 := Lib.hid (show Calls Try.prog 26 #[.string s, .int .i64 ((k : Int) + 1)] wr _ from PYES.out wr (k + 1) k1 kk r hpk)
        have HPK := Lib.hid hpk
        clear hpk k1
        go_upto_region 7 with (go_at_call 26; refine C1.out.mono ?_; clear C1; rintro e w3 ⟨⟨e2, h1, h2, h3, rfl⟩, b3⟩; have B3 := Lib.hid b3; have E1 := Lib.hid h1; have E2 := Lib.hid h2; have E3 := Lib.hid h3; clear h1 h2 h3 b3)
        have S3 := Lib.hid (ST.out w3 B3.out)
        by_cases he : e2 < n
        case neg =>
          have RL := Lib.hid (none_of HO.out HNE.out (by
            have h1 : r = [] := by rw [E1.out]; exact List.drop_of_length_le (by rw [bl_len, ← HN.out]; omega)
            rw [HC1.out]
            exact tag1_short (by rw [HPK.out, h1])))
          have he' : n ≤ e2 := by omega
          have g2 : decide ((e2 : Int) ≥ (n : Int)) = true := decide_eq_true (by omega)
          clear he
          obtain ⟨⟨q0, q1, q2, q3⟩, q4, q5⟩ := STO.out w3 S3.out.1 S3.out.2 (.string ⟨#[]⟩) (.slice none 0 0)
          have Q4 := Lib.hid q4
          have Q5 := Lib.hid q5
          clear q4 q5
          go_wp2_with fail
          obtain ⟨m0, m1⟩ := Q4.out
          refine bodyPost_ret (v := .tuple #[.agg #[.string ⟨#[]⟩, .slice none 0 0], .int .i64 2]) (by simp [results, Try.results15, go_sem, m0, m1] <;> rfl) rfl ⟨.inr ⟨RL.out, rfl⟩, Q5.out⟩
        have g2 : decide ((e2 : Int) ≥ (n : Int)) = false := decide_eq_false (by omega)
        have he' : ¬ n ≤ e2 := by omega
        have hi2 := fun (y : World) => HQ.out y e2 he
        obtain ⟨d, hd1, hd2, _⟩ := drop_cons s e2 (by rw [← HN.out]; exact he)
        obtain ⟨p2, hp2⟩ : ∃ p2, p2 = by8 s e2 := ⟨_, rfl⟩
        rw [← hp2] at hi2 hd2
        have HD1 := Lib.hid (E1.out.trans hd1)
        have HD2 := Lib.hid hd2
        have he0 : (0 : Int) ≤ (e2 : Int) := by omega
        clear hp2 hd1 hd2
        by_cases h61 : p2 = 61
        case neg =>
          have RL := Lib.hid (none_of HO.out HNE.out (by rw [HC1.out]; exact tag1_eq (HD1.out ▸ HPK.out) (by rw [HD2.out]; exact h61)))
          have g3 : ((p2 : Int) == 61) = false := by simp; omega
          have gn61 : ((p2 : Int) != 61) = true := by simp; omega
          clear h61
          obtain ⟨⟨q0, q1, q2, q3⟩, q4, q5⟩ := STO.out w3 S3.out.1 S3.out.2 (.string ⟨#[]⟩) (.slice none 0 0)
          have Q4 := Lib.hid q4
          have Q5 := Lib.hid q5
          clear q4 q5
          go_wp2_with fail
          obtain ⟨m0, m1⟩ := Q4.out
          refine bodyPost_ret (v := .tuple #[.agg #[.string ⟨#[]⟩, .slice none 0 0], .int .i64 2]) (by simp [results, Try.results15, go_sem, m0, m1] <;> rfl) rfl ⟨.inr ⟨RL.out, rfl⟩, Q5.out⟩
        have g3 : ((p2 : Int) == 61) = true := by simp; omega
        have gn61 : ((p2 : Int) != 61) = false := by simp; omega
        have H61 := Lib.hid (show d.toNat = 61 by rw [HD2.out]; exact h61)
        have k2 : e2 + 1 ≤ n := he
        clear h61
        have ST2 := Lib.hid (fun (w4 : World) (b4 : Below w3.heap.size w3 w4) => ST.out w4 (B3.out.trans (b4.mono B3.out.size)))
        match hpv : prt ((bl s).drop (e2 + 1)) with
        | none =>
          have RL := Lib.hid (none_of HO.out HNE.out (by rw [HC1.out]; exact tag1_val (HD1.out ▸ HPK.out) hpv))
          have C2 := Lib.hid (show Calls Try.prog 26 #[.string s, .int .i64 ((e2 : Int) + 1)] w3 _ from PNO.out w3 (e2 + 1) k2 hpv)
          clear hpv k2
          go_upto_region 10 with (go_at_call 26; refine C2.out.mono ?_; clear C2; rintro e w4 ⟨⟨e4, _, rfl⟩, b4⟩; have S4 := Lib.hid (ST2.out w4 b4); clear b4)
          obtain ⟨⟨q0, q1, q2, q3⟩, q4, q5⟩ := STO.out w4 S4.out.1 S4.out.2 (.string ⟨#[]⟩) (.slice none 0 0)
          have Q4 := Lib.hid q4
          have Q5 := Lib.hid q5
          clear q4 q5
          go_wp2_with fail
          obtain ⟨m0, m1⟩ := Q4.out
          refine bodyPost_ret (v := .tuple #[.agg #[.string ⟨#[]⟩, .slice none 0 0], .int .i64 2]) (by simp [results, Try.results15, go_sem, m0, m1] <;> rfl) rfl ⟨.inr ⟨RL.out, rfl⟩, Q5.out⟩
        | some (vv, r3) =>
          have C2 := Lib.hid (show Calls Try.prog 26 #[.string s, .int .i64 ((e2 : Int) + 1)] w3 _ from PYES.out w3 (e2 + 1) k2 vv r3 hpv)
          have T1 := Lib.hid (show tag1 ((bl s).drop k) = some ((ba kk, ba vv), r3) by
            rw [HC1.out]
            exact tag1_yes H44.out (HD1.out ▸ HPK.out) H61.out hpv)
          clear hpv k2
          go_upto_region 10 with (go_at_call 26; refine C2.out.mono ?_; clear C2; rintro e w4 ⟨⟨nx, h1, h2, h3, rfl⟩, b4⟩; have S4 := Lib.hid (ST2.out w4 b4); have R4 := Lib.hid ((HR.out.below B3.out).below b4); have G4 := Lib.hid (Nat.le_trans (Nat.le_trans HG.out B3.out.size) b4.size); have F1 := Lib.hid h1; have F2 := Lib.hid h2; have F3 := Lib.hid h3; clear h1 h2 h3 b4)
          have c1 := R4.out.c1
          by_cases h9 : 8 < vm
          · have RL := Lib.hid (many_of HO.out T1.out (by rw [← HVM.out]; exact h9))
            have g4 : decide ((vm : Int) > 8) = true := decide_eq_true (by omega)
            clear h9
            obtain ⟨⟨q0, q1, q2, q3⟩, q4, q5⟩ := STO.out w4 S4.out.1 S4.out.2 (.string ⟨#[]⟩) (.slice none 0 0)
            have Q4 := Lib.hid q4
            have Q5 := Lib.hid q5
            clear q4 q5
            go_wp2_with fail
            obtain ⟨m0, m1⟩ := Q4.out
            refine bodyPost_ret (v := .tuple #[.agg #[.string ⟨#[]⟩, .slice none 0 0], .int .i64 2]) (by simp [results, Try.results15, go_sem, m0, m1] <;> rfl) rfl ⟨.inr ⟨RL.out, rfl⟩, Q5.out⟩
          have g4 : decide ((vm : Int) > 8) = false := decide_eq_false (by omega)
          have L9 := Lib.hid (show L.length ≤ 8 by rw [← HVM.out]; omega)
          have f1 := R4.out.f1
          have PN := Lib.hid (show rd (bl s) = (tgs ((bl s).drop nx)).map fun M => (N0, (L ++ [(ba kk, ba vv)]) ++ M) by
            have := tgs_step HO.out T1.out
            rwa [F1.out] at this)
          have MS := Lib.hid (show k < nx by have := F2.out; have := E2.out; omega)
          clear he he' he0 hi2 hi h9 g2 g3 g1 gn44 gn61
          go_wp2_with (at_builtin; refine appT rfl (.tmp 75) (.tmp 79) rfl w4 (g + 1) g N0 _ L (ba kk, ba vv) rfl rfl R4.out G4.out (by have := L9.out; omega) ?_; rintro v' w5 ⟨h1, h2⟩ b5; (obtain ⟨a5, c5, e5⟩ := own_forms h2); obtain ⟨m5, hm5⟩ : ∃ m, m = (L ++ [(ba kk, ba vv)]).length := ⟨_, rfl⟩; rw [← hm5] at e5; subst e5; have H1 := Lib.hid h1; have H2o := Lib.hid h2; have B5 := Lib.hid b5; clear h1 h2 b5 hm5; have x5 : w5.cell? ⟨g, 1, none⟩ = some (.slice va vm vc) := (by rw [Lib.cell_of_heap H1.out]; rfl); have x6 : w5.frozen? ⟨g, 1, none⟩ = false := Lib.frozen_of_heap H1.out 1)
          have FRS := Lib.hid (show Rs (w5.setCell ⟨g, 1, none⟩ (.slice a5 m5 c5)) (g + 1) g N0 (.slice a5 m5 c5) (L ++ [(ba kk, ba vv)]) from ⟨Go.Joins.block_setCell (i := 1) H1.out (.slice a5 m5 c5), Nat.lt_succ_self _, own_move H2o.out fun i hi hB _ => heap_setCell_ne (by omega)⟩)
          have FZ := Lib.hid (show (w5.setCell ⟨g, 1, none⟩ (.slice a5 m5 c5)).heap[r0]? = some (.cells #[.string ⟨#[]⟩, .slice none 0 0] 24 (0, 0)) by
            rw [heap_setCell_ne (by have := RG.out; omega), B5.out.block r0 (by have := RG.out; omega)]
            exact S4.out.1)
          have FB := Lib.hid (show Below r0 w (w5.setCell ⟨g, 1, none⟩ (.slice a5 m5 c5)) from (S4.out.2.trans (B5.out.mono (by have := RG.out; omega))).setCell (p := ⟨g, 1, none⟩) (by have := RG.out; show r0 ≤ g; omega) _)
          have FG := Lib.hid (show g + 1 ≤ (w5.setCell ⟨g, 1, none⟩ (.slice a5 m5 c5)).heap.size by have h1 := B5.out.size; have h2 := G4.out; simp; omega)
          go_roundw
          case rel => exact ⟨nx, _, L ++ [(ba kk, ba vv)], rfl, F3.out, FRS, PN, Lib.hid (by have := L9.out; simp; omega), FZ, FB, FG⟩
          case measure => have := MS.out; simp [intOf]; omega
end So
end Go.Proofs.Ytedlgcbgbphlkaa
