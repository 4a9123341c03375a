/- The program's Pack. -/
import Derived.Test.YtbmdjmckgcjfcaaNr
import Derived.Test.YtbmdjmckgcjfcaaFd
namespace Go.Proofs.Ytbmdjmckgcjfcaa
open Go.RowKit
namespace Pa
open Lm Bs Fa Fb Lp Np

theorem src_lt {w : World} {R : Nat → Prop} {v : Value} {b : List Nat} (h : Src w R v b) : Src w (fun k => k < w.heap.size) v b := by
  rcases h with h | ⟨h0, q, off, c, h1, h2, h3, h4⟩
  · exact .inl h
  · exact .inr ⟨h0, q, off, c, h1, h2, by have := h4 0 h0; exact cell_lt this, h4⟩
theorem src_mid {w : World} {R : Nat → Prop} {q off n c o a : Nat} {b : List Nat} (hn : n = b.length) (hoa : o ≤ a) (han : a ≤ n) (hnc : n ≤ c) (hR : R q) (hc : ∀ i, i < n → w.cell? ⟨q, off + i, none⟩ = some (.int .u8 (g b i : Nat))) : Src w R (.slice (some ⟨q, off + o, none⟩) (a - o) (c - o)) (mid b o a) := by
  by_cases h : a = o
  · subst h; rw [mid_self]; exact .inl ⟨rfl, _, _, by rw [Nat.sub_self]⟩
  · have hl := mid_len (b := b) (o := o) (a := a) (by omega)
    refine .inr ⟨by omega, q, off + o, c - o, by rw [hl], by omega, hR, fun i hi => ?_⟩
    rw [hl] at hi
    rw [Nat.add_assoc, hc (o + i) (by omega)]
    unfold mid
    rw [g_take (by omega), g_drop]

/-- What holds ahead of each round of Pack. -/
def Rel (w wr : World) (v : Value) (b : List Nat) (o a : Nat) (p : Value) (out : List Nat) : Prop :=
  wr.ownsRow (w.heap.size + 3) 5 1 p out.length (u8s out) ∧ (∃ M, M ≤ a ∧ Ps wr (fun k => w.heap.size ≤ k ∧ k < w.heap.size + 3) (w.heap.size + 2) v b M) ∧ Below w.heap.size w wr ∧ w.heap.size + 3 ≤ wr.heap.size ∧ out ++ rest b o a = packs b ∧ out.length ≤ 2 * o

theorem rel_gr {w wr w' : World} {v p p' : Value} {b out : List Nat} {M : Nat} (ho : wr.ownsRow (w.heap.size + 3) 5 1 p out.length (u8s out)) (hp : Ps wr (fun k => w.heap.size ≤ k ∧ k < w.heap.size + 3) (w.heap.size + 2) v b M) (hb : Below w.heap.size w wr) (hs : w.heap.size + 3 ≤ wr.heap.size) (g : Gr wr w' p p') :
    Ps w' (fun k => w.heap.size ≤ k ∧ k < w.heap.size + 3) (w.heap.size + 2) v b M ∧ Below w.heap.size w w' ∧ w.heap.size + 3 ≤ w'.heap.size := by
  have hn : ∀ k, p.ownBlock = some k → w.heap.size + 3 ≤ k := fun k e => (ho.lt k e).1
  exact ⟨hp.move g.size fun k hk hlt => g.block hlt fun e => by have := hn k e; omega, hb.trans (g.below (by omega) fun k e => by have := hn k e; omega), Nat.le_trans hs g.size⟩

theorem below_drewN {a b : World} {B : Nat} (h : Below B a b) (n : Nat) : Below B a (b.drewN n) := ⟨h.os, h.tape, h.output, h.size, h.block⟩
theorem own_block {w w' : World} {B n : Nat} {e : TypeId} {v : Value} {xs : List Value} (h : w.ownsRow B e 1 v n xs) (f : ∀ k, v.ownBlock = some k → w'.heap[k]? = w.heap[k]?) : w'.ownsRow B e 1 v n xs := by
  obtain ⟨h0, h | ⟨g, c, cur, rfl, hg, hh, r⟩⟩ := h
  · exact ⟨h0, .inl h⟩
  · exact ⟨h0, .inr ⟨g, c, cur, rfl, hg, (f g rfl).trans hh, r⟩⟩
theorem rel_chg {w wr w' : World} {p : Value} {out : List Nat} (ho : wr.ownsRow (w.heap.size + 3) 5 1 p out.length (u8s out)) (hb : Below w.heap.size w wr) (hs : w.heap.size + 3 ≤ wr.heap.size) (c : Chg wr w' (fun k => w.heap.size ≤ k ∧ k < w.heap.size + 3)) :
    w'.ownsRow (w.heap.size + 3) 5 1 p out.length (u8s out) ∧ Below w.heap.size w w' ∧ w.heap.size + 3 ≤ w'.heap.size :=
  ⟨own_block ho fun k e => c.block k (ho.lt k e).2 (by have := (ho.lt k e).1; omega), hb.trans (c.below (fun k hk => hk.1) (by omega)), Nat.le_trans hs c.size⟩

set_option maxRecDepth 100000 in
set_option maxHeartbeats 2000000 in
theorem pack7 (w : World) (R : Nat → Prop) (v : Value) (b : List Nat) (hS : Src w R v b) (hX : ∀ x ∈ b, x < 256) (hl : b.length ≤ 35184372088832) :
    Calls Try.prog 7 #[v] w fun e w' => ∃ r, e = .returned r ∧ w'.ownsRow w.heap.size 5 1 r (packs b).length (u8s (packs b)) ∧ Below w.heap.size w w' := by
  have hS1 := src_lt hS
  clear hS
  have F13 : Hid (∀ x s vv pre l, x.ownsRow (w.heap.size + 3) 5 1 s pre.length (u8s pre) → Src x (fun k => k < w.heap.size) vv l → w.heap.size + 3 ≤ x.heap.size → pre.length + 2 * l.length ≤ 70368744177664 → Calls Try.prog 13 #[s, vv] x fun e w' => ∃ r, e = .returned r ∧ w'.ownsRow (w.heap.size + 3) 5 1 r (pre ++ own l).length (u8s (pre ++ own l)) ∧ Gr x w' s r) :=
    Lib.hid fun x s vv pre l h1 h2 h3 h4 => own13 x (w.heap.size + 3) _ s vv pre l h1 h2 (fun k hk => by omega) h3 h4
  have F14 : Hid (∀ x s pre d n, x.ownsRow (w.heap.size + 3) 5 1 s pre.length (u8s pre) → w.heap.size + 3 ≤ x.heap.size → pre.length ≤ 70368744177664 → d ≤ 65535 → 4 ≤ n → n ≤ 131 → Calls Try.prog 14 #[s, .int .i64 (d : Nat), .int .i64 (n : Nat)] x fun e w' => ∃ r, e = .returned r ∧ w'.ownsRow (w.heap.size + 3) 5 1 r (pre ++ cp d n).length (u8s (pre ++ cp d n)) ∧ Gr x w' s r) :=
    Lib.hid fun x s pre d n h1 h2 h3 h4 h5 h6 => copy14 x (w.heap.size + 3) s pre d n h1 h2 h3 h4 h5 h6
  have F11 : Hid (∀ x M a, Ps x (fun k => w.heap.size ≤ k ∧ k < w.heap.size + 3) (w.heap.size + 2) v b M → Below w.heap.size w x → M ≤ a → a ≤ b.length → Calls Try.prog 11 #[.pointer (some ⟨w.heap.size + 2, 0, none⟩), .int .i64 (a : Nat)] x fun e w' => e = .returned (ans (latest b a)) ∧ (∃ M, M ≤ a ∧ Ps w' (fun k => w.heap.size ≤ k ∧ k < w.heap.size + 3) (w.heap.size + 2) v b M) ∧ Chg x w' (fun k => w.heap.size ≤ k ∧ k < w.heap.size + 3)) :=
    Lib.hid fun x M a h1 h2 h3 h4 => latest11 x _ (fun k => k < w.heap.size) (w.heap.size + 2) v b M a h1 (hS1.below h2 fun k hk => hk) (fun k hk => by omega) hX h3 h4 (by omega)
  have F12 : Hid (∀ x p a, Below w.heap.size w x → p < a → a < b.length → Calls Try.prog 12 #[v, .int .i64 (p : Nat), .int .i64 (a : Nat)] x fun e w' => e = .returned (.int .i64 (alike b p a : Nat)) ∧ ∃ m, w' = x.drewN m) :=
    Lib.hid fun x p a h1 h2 h3 => alike12 x (fun k => k < w.heap.size) v b p a (hS1.below h1 fun k hk => hk) h2 h3 (by omega)
  obtain ⟨ad, c, hv⟩ := hS1.forms
  have F10 : Hid (Calls Try.prog 10 #[v] w fun e w' => e = .returned (.pointer (some ⟨w.heap.size + 2, 0, none⟩)) ∧ Ps w' (fun k => w.heap.size ≤ k ∧ k < w.heap.size + 3) (w.heap.size + 2) v b 0 ∧ Below w.heap.size w w' ∧ w'.heap.size = w.heap.size + 3) := Lib.hid (by rw [hv]; exact new10 w ad b.length c b)
  have HS := Lib.hid hS1
  rcases hS1 with ⟨rfl, a, c, rfl⟩ | ⟨h0, q, off, c, rfl, hnc, hq, hcell⟩
  · have FE : Hid (∀ x a' c', Below w.heap.size w x → w.heap.size + 3 ≤ x.heap.size → Calls Try.prog 13 #[.slice none 0 0, .slice a' 0 c'] x fun e w' => ∃ r, e = .returned r ∧ w'.ownsRow w.heap.size 5 1 r (packs []).length (u8s (packs [])) ∧ Below w.heap.size w w') := Lib.hid fun x a' c' hb hs => by
      refine (F13.out x (.slice none 0 0) (.slice a' 0 c') [] [] (World.ownsRow_nil _ _ _ _) (.inl ⟨rfl, _, _, rfl⟩) hs (by simp)).mono ?_
      rintro e w' ⟨r, rfl, h1, h2⟩
      exact ⟨r, rfl, Go.Joins.ownsRow_le h1 (by omega), hb.trans (h2.below (by omega) (fun k e => by cases e))⟩
    clear hX hl hv F11 F12 F14 F13
    by_cases hc0 : c = 0
    · subst hc0
      go_enter Try.func7, Try.ntmps7
      go_wp2_with (go_at_call 10; refine F10.out.mono ?_; rintro e w1 ⟨rfl, hp1, hb1, hs1⟩; have B1 := Lib.hid hb1; have S1 := Lib.hid hs1; clear hp1 hb1 hs1)
      refine wp_loop_rounds 1 ?_
      rw [rounds_succ]
      go_wp2_with fail
      refine (FE.out _ _ _ B1.out (by have := S1.out; omega)).mono ?_
      rintro e w2 ⟨r, rfl, ho, hb⟩
      have HO := Lib.hid ho
      have HB := Lib.hid hb
      clear ho hb
      go_wp2_with fail
      go_ret
      exact ⟨r, rfl, HO.out, HB.out⟩
    · go_enter Try.func7, Try.ntmps7
      go_wp2_with (go_at_call 10; refine F10.out.mono ?_; rintro e w1 ⟨rfl, hp1, hb1, hs1⟩; have B1 := Lib.hid hb1; have S1 := Lib.hid hs1; clear hp1 hb1 hs1)
      refine wp_loop_rounds 1 ?_
      rw [rounds_succ]
      go_wp2_with fail
      refine (FE.out _ _ _ B1.out (by have := S1.out; omega)).mono ?_
      rintro e w2 ⟨r, rfl, ho, hb⟩
      have HO := Lib.hid ho
      have HB := Lib.hid hb
      clear ho hb
      go_wp2_with fail
      go_ret
      exact ⟨r, rfl, HO.out, HB.out⟩
  · obtain ⟨n, hn⟩ : ∃ n, n = b.length := ⟨_, rfl⟩
    have HN := Lib.hid hn
    have FM : Hid (∀ x o a, Below w.heap.size w x → o ≤ a → a ≤ n → Src x (fun k => k < w.heap.size) (.slice (some ⟨q, off + o, none⟩) (a - o) (c - o)) (mid b o a)) := Lib.hid fun x o a h1 h2 h3 => src_mid hn h2 h3 (by omega) hq fun i hi => (h1.cell hq).trans (hcell i (by omega))
    rw [← hn] at h0 hl hnc F10 F11 F12 ⊢
    clear hX hv hcell HS hn hq
    go_enter Try.func7, Try.ntmps7
    go_wp2_with (go_at_call 10; refine F10.out.mono ?_; rintro e w1 ⟨rfl, hp1, hb1, hs1⟩)
    have R1 : Hid (Rel w w1 (.slice (some ⟨q, off, none⟩) n c) b 0 0 (.slice none 0 0) []) := Lib.hid ⟨World.ownsRow_nil _ _ _ _, ⟨0, Nat.le_refl _, hp1⟩, hb1, by omega, rfl, by simp⟩
    clear hp1 hb1 hs1
    go_loopw [3, 5, 6] (fun p o' a' wr => ∃ o a out, o ≤ a ∧ a ≤ n ∧ o' = .int .i64 (o : Nat) ∧ a' = .int .i64 (a : Nat) ∧ Rel w wr (.slice (some ⟨q, off, none⟩) n c) b o a p out) (fun _ _ a' _ => n - (intOf a').toNat)
    case atStart => exact ⟨0, 0, [], Nat.le_refl _, Nat.zero_le _, rfl, rfl, R1.out⟩
    case round =>
      obtain ⟨o, a, out, hoa, han, rfl, rfl, hR⟩ := hrel
      obtain ⟨ho, ⟨M, hM, hp⟩, hb, hs, heq, hol⟩ := hR
      by_cases hlt : a < n
      · have F11a := Lib.hid (F11.out wr M a hp hb hM (by omega))
        have HO := Lib.hid ho
        have HB := Lib.hid hb
        have HEQ := Lib.hid heq
        clear ho hp hb heq
        cases hla : latest b a with
        | none =>
          have HR := Lib.hid (rest_none (o := o) (by have := HN.out; omega) hla)
          rw [hla] at F11a
          clear hla
          go_wp2_with (go_at_call 11; refine F11a.out.mono ?_; rintro e w2 ⟨he, hp2, hc2⟩; obtain rfl : e = .returned (.tuple #[.int .i64 0, .bool false]) := he)
          have R2 : Hid (Rel w w2 (.slice (some ⟨q, off, none⟩) n c) b o (a + 1) u3 out) := Lib.hid (by
            obtain ⟨M2, hM2, hp2⟩ := hp2
            obtain ⟨h1, h2, h3⟩ := rel_chg HO.out HB.out hs hc2
            exact ⟨h1, ⟨M2, by omega, hp2⟩, h2, h3, by rw [← HR.out]; exact HEQ.out, hol⟩)
          clear hp2 hc2
          go_wp2_with fail
          go_roundw
          case rel => exact ⟨o, a + 1, out, by omega, by omega, rfl, by go_num, R2.out⟩
          case measure => simp [intOf]; omega
        | some p =>
          have hsp := latest_spec hla
          have hbl := HN.out
          have hR := rest_some (o := o) (by omega) hla
          have hal := alike_le b p a
          have hal4 := alike_ge hsp.2.2.1 hsp.1
          obtain ⟨N, hN⟩ : ∃ N, N = alike b p a := ⟨_, rfl⟩
          obtain ⟨D, hD⟩ : ∃ D, D = a - p := ⟨_, rfl⟩
          have hpa : p < a := hsp.2.1
          have hD2 : D ≤ 65535 := by have := hsp.2.2.2; omega
          have hDi : (a : Int) - (p : Int) = (D : Int) := by omega
          rw [← hN] at hR hal hal4
          rw [← hD] at hR
          have HR := Lib.hid hR
          have HNN := Lib.hid hN
          rw [hla] at F11a
          have hml : (mid b o a).length = a - o := mid_len (by omega)
          have HML := Lib.hid hml
          have hb1 : out.length + 2 * (a - o) ≤ 70368744177664 := by omega
          have haN : a + N ≤ n := by omega
          clear hla hsp hbl hR hN hD hml
          go_wp2_with (go_at_call 11; refine F11a.out.mono ?_; rintro e w2 ⟨he, hp2, hc2⟩; obtain rfl : e = .returned (.tuple #[.int .i64 (p : Nat), .bool true]) := he)
          obtain ⟨q1, q2, q3⟩ := rel_chg HO.out HB.out hs hc2
          obtain ⟨M2, hM2, hp2⟩ := hp2
          have O2 := Lib.hid q1
          have B2 := Lib.hid q2
          have P2 := Lib.hid hp2
          clear q1 q2 hp2 hc2
          go_wp2_with fail
          refine (F12.out w2 p a B2.out hpa hlt).mono ?_
          rintro e w3 ⟨he, m, hw3⟩
          rw [← HNN.out] at he
          subst he
          have O3 : Hid (w3.ownsRow (w.heap.size + 3) 5 1 u3 out.length (u8s out)) := Lib.hid (by rw [hw3]; exact own_block O2.out fun _ _ => rfl)
          have B3 : Hid (Below w.heap.size w w3) := Lib.hid (by rw [hw3]; exact below_drewN B2.out m)
          have P3 : Hid (Ps w3 (fun k => w.heap.size ≤ k ∧ k < w.heap.size + 3) (w.heap.size + 2) (.slice (some ⟨q, off, none⟩) n c) b M2) := Lib.hid (by rw [hw3]; exact P2.out.drewN m)
          have S3 : Hid (w.heap.size + 3 ≤ w3.heap.size) := Lib.hid (by rw [hw3]; exact q3)
          clear hw3 q3 HO HB hs O2 B2 P2
          go_wp2_with fail
          refine (F13.out w3 u3 _ out (mid b o a) O3.out (FM.out _ _ _ B3.out hoa han) S3.out (by rw [HML.out]; exact hb1)).mono ?_
          rintro e w4 ⟨r4, rfl, o4, g4⟩
          have R4 := Lib.hid (rel_gr O3.out P3.out B3.out S3.out g4)
          have O4 := Lib.hid o4
          clear o4 g4 O3 P3 B3 S3
          go_wp2_with fail
          refine (F14.out w4 r4 (out ++ own (mid b o a)) D N O4.out R4.out.2.2 (by have := own_len (mid b o a); rw [HML.out] at this; rw [List.length_append]; omega) hD2 hal4 hal.1).mono ?_
          rintro e w5 ⟨r5, rfl, o5, g5⟩
          have R5 : Hid (Rel w w5 (.slice (some ⟨q, off, none⟩) n c) b (a + N) (a + N) r5 (out ++ own (mid b o a) ++ cp D N)) := Lib.hid (by
            obtain ⟨h1, h2, h3⟩ := rel_gr O4.out R4.out.1 R4.out.2.1 R4.out.2.2 g5
            refine ⟨o5, ⟨M2, by omega, h1⟩, h2, h3, ?_, ?_⟩
            · rw [← HEQ.out, HR.out]; simp
            · have := own_len (mid b o a)
              rw [HML.out] at this
              simp only [List.length_append, cp, List.length_cons, List.length_nil]
              omega)
          clear o5 g5 O4 R4
          go_wp2_with fail
          go_roundw
          case rel => exact ⟨a + N, a + N, _, Nat.le_refl _, haN, by go_num, by go_num, R5.out⟩
          case measure => simp [intOf]; omega
      · obtain rfl : a = n := by omega
        have HR : Hid (rest b o a = own (mid b o a)) := Lib.hid (by
          have h := HN.out
          rw [rest_end (by omega)]
          rw [h, mid_end])
        have hbl := HN.out
        have hml : (mid b o a).length = a - o := mid_len (by omega)
        have HML := Lib.hid hml
        have hb1 : out.length + 2 * (a - o) ≤ 70368744177664 := by omega
        have HO := Lib.hid ho
        have HB := Lib.hid hb
        have HEQ := Lib.hid heq
        clear ho hp hb heq hbl hml
        have FE : Hid (∀ x vv, x = wr → Src x (fun k => k < w.heap.size) vv (mid b o a) → Calls Try.prog 13 #[u3, vv] x fun e w' => ∃ r, e = .returned r ∧ w'.ownsRow w.heap.size 5 1 r (packs b).length (u8s (packs b)) ∧ Below w.heap.size w w') := Lib.hid fun x vv hx hs' => by
          subst hx
          refine (F13.out x u3 vv out (mid b o a) HO.out hs' hs (by rw [HML.out]; exact hb1)).mono ?_
          rintro e w' ⟨r, rfl, h1, h2⟩
          rw [← HR.out, HEQ.out] at h1
          exact ⟨r, rfl, Go.Joins.ownsRow_le h1 (by omega), HB.out.trans (h2.below (by omega) (fun k e => by have := (HO.out.lt k e).1; omega))⟩
        by_cases hco : c = o
        · subst hco
          have han0 : a = c := by omega
          have FZ : Hid (∀ ad z, Src wr (fun k => k < w.heap.size) (.slice ad 0 z) (mid b c a)) := Lib.hid fun ad z => .inl ⟨by rw [han0]; exact mid_self b c, _, _, rfl⟩
          subst han0
          go_wp2_with fail
          refine (FE.out _ _ rfl (FZ.out _ _)).mono ?_
          rintro e w2 ⟨r, rfl, ho, hb⟩
          have HO := Lib.hid ho
          have HB := Lib.hid hb
          clear ho hb
          go_wp2_with fail
          go_ret
          exact ⟨r, rfl, HO.out, HB.out⟩
        · go_wp2_with fail
          refine (FE.out _ _ rfl (FM.out _ _ _ HB.out hoa (Nat.le_refl _))).mono ?_
          rintro e w2 ⟨r, rfl, ho, hb⟩
          have HO := Lib.hid ho
          have HB := Lib.hid hb
          clear ho hb
          go_wp2_with fail
          go_ret
          exact ⟨r, rfl, HO.out, HB.out⟩
end Pa
end Go.Proofs.Ytbmdjmckgcjfcaa
