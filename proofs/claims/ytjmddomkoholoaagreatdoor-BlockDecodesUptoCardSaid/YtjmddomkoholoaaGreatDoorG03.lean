import Derived.Test.YtjmddomkoholoaaGreatDoorG02
import Derived.Test.YtjmddomkoholoaaGreatDoorG00

/- The program's Pack. -/
namespace Go.Proofs.YtjmddomkoholoaaGreatDoor
open Go.RowKit
namespace Pa
open Lm Bs Fa Fb Lp Np

theorem src_lt {w : World} {R : Nat → Prop} {v : Value} {b : List Nat} (h : Src w R v b) : Src w (fun k => k < w.heap.size) v b := by
  rcases h with h | ⟨h0, q, off, c, h1, h2, h3, h4⟩
  · exact .inl h
  · exact .inr ⟨h0, q, off, c, h1, h2, by have := h4 0 h0; exact cell_lt this, h4⟩
theorem src_mid {w : World} {R : Nat → Prop} {q off n c o a : Nat} {b : List Nat} (hn : n = b.length) (hoa : o ≤ a) (han : a ≤ n) (hnc : n ≤ c) (hR : R q) (hc : ∀ i, i < n → w.cell? ⟨q, off + i, none⟩ = some (.int .u8 (g b i : Nat))) : Src w R (.slice (some ⟨q, off + o, none⟩) (a - o) (c - o)) (mid b o a) := by
  by_cases h : a = o
  · subst h; rw [mid_self]; exact .inl ⟨rfl, _, _, by rw [Nat.sub_self]⟩
  · have hl := mid_len (b := b) (o := o) (a := a) (by omega)
    refine .inr ⟨by omega, q, off + o, c - o, by rw [hl], by omega, hR, fun i hi => ?_⟩
    rw [hl] at hi
    rw [Nat.add_assoc, hc (o + i) (by omega)]
    unfold mid
    rw [g_take (by omega), g_drop]

/-- What holds ahead of each round of Pack. -/
def Rel (w wr : World) (v : Value) (b : List Nat) (o a : Nat) (p : Value) (out : List Nat) : Prop :=
  wr.ownsRow (w.heap.size + 3) 5 1 p out.length (u8s out) ∧ (∃ M, M ≤ a ∧ Ps wr (fun k => w.heap.size ≤ k ∧ k < w.heap.size + 3) (w.heap.size + 2) v b M) ∧ Below w.heap.size w wr ∧ w.heap.size + 3 ≤ wr.heap.size ∧ out ++ rest b o a = packs b ∧ out.length ≤ 2 * o

theorem rel_gr {w wr w' : World} {v p p' : Value} {b out : List Nat} {M : Nat} (ho : wr.ownsRow (w.heap.size + 3) 5 1 p out.length (u8s out)) (hp : Ps wr (fun k => w.heap.size ≤ k ∧ k < w.heap.size + 3) (w.heap.size + 2) v b M) (hb : Below w.heap.size w wr) (hs : w.heap.size + 3 ≤ wr.heap.size) (g : Gr wr w' p p') :
    Ps w' (fun k => w.heap.size ≤ k ∧ k < w.heap.size + 3) (w.heap.size + 2) v b M ∧ Below w.heap.size w w' ∧ w.heap.size + 3 ≤ w'.heap.size := by
  have hn : ∀ k, p.ownBlock = some k → w.heap.size + 3 ≤ k := fun k e => (ho.lt k e).1
  exact ⟨hp.move g.size fun k hk hlt => g.block hlt fun e => by have := hn k e; omega, hb.trans (g.below (by omega) fun k e => by have := hn k e; omega), Nat.le_trans hs g.size⟩

theorem below_drewN {a b : World} {B : Nat} (h : Below B a b) (n : Nat) : Below B a (b.drewN n) := ⟨h.os, h.tape, h.output, h.size, h.block⟩
theorem own_block {w w' : World} {B n : Nat} {e : TypeId} {v : Value} {xs : List Value} (h : w.ownsRow B e 1 v n xs) (f : ∀ k, v.ownBlock = some k → w'.heap[k]? = w.heap[k]?) : w'.ownsRow B e 1 v n xs := by
  obtain ⟨h0, h | ⟨g, c, cur, rfl, hg, hh, r⟩⟩ := h
  · exact ⟨h0, .inl h⟩
  · exact ⟨h0, .inr ⟨g, c, cur, rfl, hg, (f g rfl).trans hh, r⟩⟩
theorem rel_chg {w wr w' : World} {p : Value} {out : List Nat} (ho : wr.ownsRow (w.heap.size + 3) 5 1 p out.length (u8s out)) (hb : Below w.heap.size w wr) (hs : w.heap.size + 3 ≤ wr.heap.size) (c : Chg wr w' (fun k => w.heap.size ≤ k ∧ k < w.heap.size + 3)) :
    w'.ownsRow (w.heap.size + 3) 5 1 p out.length (u8s out) ∧ Below w.heap.size w w' ∧ w.heap.size + 3 ≤ w'.heap.size :=
  ⟨own_block ho fun k e => c.block k (ho.lt k e).2 (by have := (ho.lt k e).1; omega), hb.trans (c.below (fun k hk => hk.1) (by omega)), Nat.le_trans hs c.size⟩

set_option maxRecDepth 100000 in
set_option maxHeartbeats 2000000 in
theorem pack7 (w : World) (R : Nat → Prop) (v : Value) (b : List Nat) (hS : Src w R v b) (hX : ∀ x ∈ b, x < 256) (hl : b.length ≤ 35184372088832) :
    Calls Tryz.prog 139 #[v] w fun e w' => ∃ r, e = .returned r ∧ w'.ownsRow w.heap.size 5 1 r (packs b).length (u8s (packs b)) ∧ Below w.heap.size w w' := by
  have hS1 := src_lt hS
  clear hS
  have F13 : Hid (∀ x s vv pre l, x.ownsRow (w.heap.size + 3) 5 1 s pre.length (u8s pre) → Src x (fun k => k < w.heap.size) vv l → w.heap.size + 3 ≤ x.heap.size → pre.length + 2 * l.length ≤ 70368744177664 → Calls Tryz.prog 167 #[s, vv] x fun e w' => ∃ r, e = .returned r ∧ w'.ownsRow (w.heap.size + 3) 5 1 r (pre ++ own l).length (u8s (pre ++ own l)) ∧ Gr x w' s r) :=
    Lib.hid fun x s vv pre l h1 h2 h3 h4 => own13 x (w.heap.size + 3) _ s vv pre l h1 h2 (fun k hk => by omega) h3 h4
  have F14 : Hid (∀ x s pre d n, x.ownsRow (w.heap.size + 3) 5 1 s pre.length (u8s pre) → w.heap.size + 3 ≤ x.heap.size → pre.length ≤ 70368744177664 → d ≤ 65535 → 4 ≤ n → n ≤ 131 → Calls Tryz.prog 168 #[s, .int .i64 (d : Nat), .int .i64 (n : Nat)] x fun e w' => ∃ r, e = .returned r ∧ w'.ownsRow (w.heap.size + 3) 5 1 r (pre ++ cp d n).length (u8s (pre ++ cp d n)) ∧ Gr x w' s r) :=
    Lib.hid fun x s pre d n h1 h2 h3 h4 h5 h6 => copy14 x (w.heap.size + 3) s pre d n h1 h2 h3 h4 h5 h6
  have F11 : Hid (∀ x M a, Ps x (fun k => w.heap.size ≤ k ∧ k < w.heap.size + 3) (w.heap.size + 2) v b M → Below w.heap.size w x → M ≤ a → a ≤ b.length → Calls Tryz.prog 165 #[.pointer (some ⟨w.heap.size + 2, 0, none⟩), .int .i64 (a : Nat)] x fun e w' => e = .returned (ans (latest b a)) ∧ (∃ M, M ≤ a ∧ Ps w' (fun k => w.heap.size ≤ k ∧ k < w.heap.size + 3) (w.heap.size + 2) v b M) ∧ Chg x w' (fun k => w.heap.size ≤ k ∧ k < w.heap.size + 3)) :=
    Lib.hid fun x M a h1 h2 h3 h4 => latest11 x _ (fun k => k < w.heap.size) (w.heap.size + 2) v b M a h1 (hS1.below h2 fun k hk => hk) (fun k hk => by omega) hX h3 h4 (by omega)
  have F12 : Hid (∀ x p a, Below w.heap.size w x → p < a → a < b.length → Calls Tryz.prog 166 #[v, .int .i64 (p : Nat), .int .i64 (a : Nat)] x fun e w' => e = .returned (.int .i64 (alike b p a : Nat)) ∧ ∃ m, w' = x.drewN m) :=
    Lib.hid fun x p a h1 h2 h3 => alike12 x (fun k => k < w.heap.size) v b p a (hS1.below h1 fun k hk => hk) h2 h3 (by omega)
  obtain ⟨ad, c, hv⟩ := hS1.forms
  have F10 : Hid (Calls Tryz.prog 164 #[v] w fun e w' => e = .returned (.pointer (some ⟨w.heap.size + 2, 0, none⟩)) ∧ Ps w' (fun k => w.heap.size ≤ k ∧ k < w.heap.size + 3) (w.heap.size + 2) v b 0 ∧ Below w.heap.size w w' ∧ w'.heap.size = w.heap.size + 3) := Lib.hid (by rw [hv]; exact new10 w ad b.length c b)
  have HS := Lib.hid hS1
  rcases hS1 with ⟨rfl, a, c, rfl⟩ | ⟨h0, q, off, c, rfl, hnc, hq, hcell⟩
  · have FE : Hid (∀ x a' c', Below w.heap.size w x → w.heap.size + 3 ≤ x.heap.size → Calls Tryz.prog 167 #[.slice none 0 0, .slice a' 0 c'] x fun e w' => ∃ r, e = .returned r ∧ w'.ownsRow w.heap.size 5 1 r (packs []).length (u8s (packs [])) ∧ Below w.heap.size w w') := Lib.hid fun x a' c' hb hs => by
      refine (F13.out x (.slice none 0 0) (.slice a' 0 c') [] [] (World.ownsRow_nil _ _ _ _) (.inl ⟨rfl, _, _, rfl⟩) hs (by simp)).mono ?_
      rintro e w' ⟨r, rfl, h1, h2⟩
      exact ⟨r, rfl, Go.Joins.ownsRow_le h1 (by omega), hb.trans (h2.below (by omega) (fun k e => by cases e))⟩
    clear hX hl hv F11 F12 F14 F13
    by_cases hc0 : c = 0
    · subst hc0
      go_enter Tryz.func139, Tryz.ntmps139
      go_wp2_with (go_at_call 164; refine F10.out.mono ?_; rintro e w1 ⟨rfl, hp1, hb1, hs1⟩; have B1 := Lib.hid hb1; have S1 := Lib.hid hs1; clear hp1 hb1 hs1)
      refine wp_loop_rounds 1 ?_
      rw [rounds_succ]
      go_wp2_with fail
      refine (FE.out _ _ _ B1.out (by have := S1.out; omega)).mono ?_
      rintro e w2 ⟨r, rfl, ho, hb⟩
      have HO := Lib.hid ho
      have HB := Lib.hid hb
      clear ho hb
      go_wp2_with fail
      go_ret
      exact ⟨r, rfl, HO.out, HB.out⟩
    · go_enter Tryz.func139, Tryz.ntmps139
      go_wp2_with (go_at_call 164; refine F10.out.mono ?_; rintro e w1 ⟨rfl, hp1, hb1, hs1⟩; have B1 := Lib.hid hb1; have S1 := Lib.hid hs1; clear hp1 hb1 hs1)
      refine wp_loop_rounds 1 ?_
      rw [rounds_succ]
      go_wp2_with fail
      refine (FE.out _ _ _ B1.out (by have := S1.out; omega)).mono ?_
      rintro e w2 ⟨r, rfl, ho, hb⟩
      have HO := Lib.hid ho
      have HB := Lib.hid hb
      clear ho hb
      go_wp2_with fail
      go_ret
      exact ⟨r, rfl, HO.out, HB.out⟩
  · obtain ⟨n, hn⟩ : ∃ n, n = b.length := ⟨_, rfl⟩
    have HN := Lib.hid hn
    have FM : Hid (∀ x o a, Below w.heap.size w x → o ≤ a → a ≤ n → Src x (fun k => k < w.heap.size) (.slice (some ⟨q, off + o, none⟩) (a - o) (c - o)) (mid b o a)) := Lib.hid fun x o a h1 h2 h3 => src_mid hn h2 h3 (by omega) hq fun i hi => (h1.cell hq).trans (hcell i (by omega))
    rw [← hn] at h0 hl hnc F10 F11 F12 ⊢
    clear hX hv hcell HS hn hq
    go_enter Tryz.func139, Tryz.ntmps139
    go_wp2_with (go_at_call 164; refine F10.out.mono ?_; rintro e w1 ⟨rfl, hp1, hb1, hs1⟩)
    have R1 : Hid (Rel w w1 (.slice (some ⟨q, off, none⟩) n c) b 0 0 (.slice none 0 0) []) := Lib.hid ⟨World.ownsRow_nil _ _ _ _, ⟨0, Nat.le_refl _, hp1⟩, hb1, by omega, rfl, by simp⟩
    clear hp1 hb1 hs1
    go_loopw [3, 5, 6] (fun p o' a' wr => ∃ o a out, o ≤ a ∧ a ≤ n ∧ o' = .int .i64 (o : Nat) ∧ a' = .int .i64 (a : Nat) ∧ Rel w wr (.slice (some ⟨q, off, none⟩) n c) b o a p out) (fun _ _ a' _ => n - (intOf a').toNat)
    case atStart => exact ⟨0, 0, [], Nat.le_refl _, Nat.zero_le _, rfl, rfl, R1.out⟩
    case round =>
      obtain ⟨o, a, out, hoa, han, rfl, rfl, hR⟩ := hrel
      obtain ⟨ho, ⟨M, hM, hp⟩, hb, hs, heq, hol⟩ := hR
      by_cases hlt : a < n
      · have F11a := Lib.hid (F11.out wr M a hp hb hM (by omega))
        have HO := Lib.hid ho
        have HB := Lib.hid hb
        have HEQ := Lib.hid heq
        clear ho hp hb heq
        cases hla : latest b a with
        | none =>
          have HR := Lib.hid (rest_none (o := o) (by have := HN.out; omega) hla)
          rw [hla] at F11a
          clear hla
          go_wp2_with (go_at_call 165; refine F11a.out.mono ?_; rintro e w2 ⟨he, hp2, hc2⟩; obtain rfl : e = .returned (.tuple #[.int .i64 0, .bool false]) := he)
          have R2 : Hid (Rel w w2 (.slice (some ⟨q, off, none⟩) n c) b o (a + 1) u3 out) := Lib.hid (by
            obtain ⟨M2, hM2, hp2⟩ := hp2
            obtain ⟨h1, h2, h3⟩ := rel_chg HO.out HB.out hs hc2
            exact ⟨h1, ⟨M2, by omega, hp2⟩, h2, h3, by rw [← HR.out]; exact HEQ.out, hol⟩)
          clear hp2 hc2
          go_wp2_with fail
          go_roundw
          case rel => exact ⟨o, a + 1, out, by omega, by omega, rfl, by go_num, R2.out⟩
          case measure => simp [intOf]; omega
        | some p =>
          have hsp := latest_spec hla
          have hbl := HN.out
          have hR := rest_some (o := o) (by omega) hla
          have hal := alike_le b p a
          have hal4 := alike_ge hsp.2.2.1 hsp.1
          obtain ⟨N, hN⟩ : ∃ N, N = alike b p a := ⟨_, rfl⟩
          obtain ⟨D, hD⟩ : ∃ D, D = a - p := ⟨_, rfl⟩
          have hpa : p < a := hsp.2.1
          have hD2 : D ≤ 65535 := by have := hsp.2.2.2; omega
          have hDi : (a : Int) - (p : Int) = (D : Int) := by omega
          rw [← hN] at hR hal hal4
          rw [← hD] at hR
          have HR := Lib.hid hR
          have HNN := Lib.hid hN
          rw [hla] at F11a
          have hml : (mid b o a).length = a - o := mid_len (by omega)
          have HML := Lib.hid hml
          have hb1 : out.length + 2 * (a - o) ≤ 70368744177664 := by omega
          have haN : a + N ≤ n := by omega
          clear hla hsp hbl hR hN hD hml
          go_wp2_with (go_at_call 165; refine F11a.out.mono ?_; rintro e w2 ⟨he, hp2, hc2⟩; obtain rfl : e = .returned (.tuple #[.int .i64 (p : Nat), .bool true]) := he)
          obtain ⟨q1, q2, q3⟩ := rel_chg HO.out HB.out hs hc2
          obtain ⟨M2, hM2, hp2⟩ := hp2
          have O2 := Lib.hid q1
          have B2 := Lib.hid q2
          have P2 := Lib.hid hp2
          clear q1 q2 hp2 hc2
          go_wp2_with fail
          refine (F12.out w2 p a B2.out hpa hlt).mono ?_
          rintro e w3 ⟨he, m, hw3⟩
          rw [← HNN.out] at he
          subst he
          have O3 : Hid (w3.ownsRow (w.heap.size + 3) 5 1 u3 out.length (u8s out)) := Lib.hid (by rw [hw3]; exact own_block O2.out fun _ _ => rfl)
          have B3 : Hid (Below w.heap.size w w3) := Lib.hid (by rw [hw3]; exact below_drewN B2.out m)
          have P3 : Hid (Ps w3 (fun k => w.heap.size ≤ k ∧ k < w.heap.size + 3) (w.heap.size + 2) (.slice (some ⟨q, off, none⟩) n c) b M2) := Lib.hid (by rw [hw3]; exact P2.out.drewN m)
          have S3 : Hid (w.heap.size + 3 ≤ w3.heap.size) := Lib.hid (by rw [hw3]; exact q3)
          clear hw3 q3 HO HB hs O2 B2 P2
          go_wp2_with fail
          refine (F13.out w3 u3 _ out (mid b o a) O3.out (FM.out _ _ _ B3.out hoa han) S3.out (by rw [HML.out]; exact hb1)).mono ?_
          rintro e w4 ⟨r4, rfl, o4, g4⟩
          have R4 := Lib.hid (rel_gr O3.out P3.out B3.out S3.out g4)
          have O4 := Lib.hid o4
          clear o4 g4 O3 P3 B3 S3
          go_wp2_with fail
          refine (F14.out w4 r4 (out ++ own (mid b o a)) D N O4.out R4.out.2.2 (by have := own_len (mid b o a); rw [HML.out] at this; rw [List.length_append]; omega) hD2 hal4 hal.1).mono ?_
          rintro e w5 ⟨r5, rfl, o5, g5⟩
          have R5 : Hid (Rel w w5 (.slice (some ⟨q, off, none⟩) n c) b (a + N) (a + N) r5 (out ++ own (mid b o a) ++ cp D N)) := Lib.hid (by
            obtain ⟨h1, h2, h3⟩ := rel_gr O4.out R4.out.1 R4.out.2.1 R4.out.2.2 g5
            refine ⟨o5, ⟨M2, by omega, h1⟩, h2, h3, ?_, ?_⟩
            · rw [← HEQ.out, HR.out]; simp
            · have := own_len (mid b o a)
              rw [HML.out] at this
              simp only [List.length_append, cp, List.length_cons, List.length_nil]
              omega)
          clear o5 g5 O4 R4
          go_wp2_with fail
          go_roundw
          case rel => exact ⟨a + N, a + N, _, Nat.le_refl _, haN, by go_num, by go_num, R5.out⟩
          case measure => simp [intOf]; omega
      · obtain rfl : a = n := by omega
        have HR : Hid (rest b o a = own (mid b o a)) := Lib.hid (by
          have h := HN.out
          rw [rest_end (by omega)]
          rw [h, mid_end])
        have hbl := HN.out
        have hml : (mid b o a).length = a - o := mid_len (by omega)
        have HML := Lib.hid hml
        have hb1 : out.length + 2 * (a - o) ≤ 70368744177664 := by omega
        have HO := Lib.hid ho
        have HB := Lib.hid hb
        have HEQ := Lib.hid heq
        clear ho hp hb heq hbl hml
        have FE : Hid (∀ x vv, x = wr → Src x (fun k => k < w.heap.size) vv (mid b o a) → Calls Tryz.prog 167 #[u3, vv] x fun e w' => ∃ r, e = .returned r ∧ w'.ownsRow w.heap.size 5 1 r (packs b).length (u8s (packs b)) ∧ Below w.heap.size w w') := Lib.hid fun x vv hx hs' => by
          subst hx
          refine (F13.out x u3 vv out (mid b o a) HO.out hs' hs (by rw [HML.out]; exact hb1)).mono ?_
          rintro e w' ⟨r, rfl, h1, h2⟩
          rw [← HR.out, HEQ.out] at h1
          exact ⟨r, rfl, Go.Joins.ownsRow_le h1 (by omega), HB.out.trans (h2.below (by omega) (fun k e => by have := (HO.out.lt k e).1; omega))⟩
        by_cases hco : c = o
        · subst hco
          have han0 : a = c := by omega
          have FZ : Hid (∀ ad z, Src wr (fun k => k < w.heap.size) (.slice ad 0 z) (mid b c a)) := Lib.hid fun ad z => .inl ⟨by rw [han0]; exact mid_self b c, _, _, rfl⟩
          subst han0
          go_wp2_with fail
          refine (FE.out _ _ rfl (FZ.out _ _)).mono ?_
          rintro e w2 ⟨r, rfl, ho, hb⟩
          have HO := Lib.hid ho
          have HB := Lib.hid hb
          clear ho hb
          go_wp2_with fail
          go_ret
          exact ⟨r, rfl, HO.out, HB.out⟩
        · go_wp2_with fail
          refine (FE.out _ _ rfl (FM.out _ _ _ HB.out hoa (Nat.le_refl _))).mono ?_
          rintro e w2 ⟨r, rfl, ho, hb⟩
          have HO := Lib.hid ho
          have HB := Lib.hid hb
          clear ho hb
          go_wp2_with fail
          go_ret
          exact ⟨r, rfl, HO.out, HB.out⟩
end Pa
end Go.Proofs.YtjmddomkoholoaaGreatDoor

/- The document's chains: plain mathematics. -/
namespace Go.Proofs.YtjmddomkoholoaaGreatDoor
namespace Lc
open Lm

def p2 (b : List Nat) (i : Nat) : Nat := g b i * 256 + g b (i + 1)
theorem p2_lt {b : List Nat} (hX : ∀ x ∈ b, x < 256) (i : Nat) : p2 b i < 65536 := by
  have a0 := g_lt hX i
  have a1 := g_lt hX (i + 1)
  unfold p2
  omega
/-- One more than the greatest place below a place at which the pair x stands; 0: there is none. -/
def pb (b : List Nat) (x : Nat) : Nat → Nat
  | 0 => 0
  | j + 1 => if x = p2 b j then j + 1 else pb b x j
theorem pb_le (b : List Nat) (x : Nat) : ∀ k, pb b x k ≤ k := by
  intro k
  induction k with
  | zero => exact Nat.le_refl _
  | succ k ih => simp only [pb]; split <;> omega
theorem pb_zero {b : List Nat} {x : Nat} : ∀ {k}, pb b x k = 0 → ∀ q, q < k → x ≠ p2 b q := by
  intro k
  induction k with
  | zero => intro _ q h; omega
  | succ k ih =>
    intro h q hq
    simp only [pb] at h
    split at h
    · cases h
    · rename_i hne
      by_cases e : q = k
      · subst e; exact hne
      · exact ih h q (by omega)
theorem pb_succ {b : List Nat} {x p : Nat} : ∀ {k}, pb b x k = p + 1 → p < k ∧ x = p2 b p ∧ ∀ q, p < q → q < k → x ≠ p2 b q := by
  intro k
  induction k with
  | zero => intro h; cases h
  | succ k ih =>
    intro h
    simp only [pb] at h
    split at h
    · rename_i he
      obtain rfl : k = p := by omega
      exact ⟨by omega, he, fun q h1 h2 => by omega⟩
    · rename_i hne
      obtain ⟨h1, h2, h3⟩ := ih h
      refine ⟨by omega, h2, fun q a1 a2 => ?_⟩
      by_cases e : q = k
      · subst e; exact hne
      · exact h3 q a1 (by omega)
theorem same_p2 {b : List Nat} {p a : Nat} (h : Same b p a) : p2 b a = p2 b p := by
  obtain ⟨h1, h2, _⟩ := h
  unfold p2
  rw [h1, h2]
theorem p2_same {b : List Nat} (hX : ∀ x ∈ b, x < 256) {p a : Nat} (h : p2 b a = p2 b p) (h2 : g b (p + 2) = g b (a + 2)) (h3 : g b (p + 3) = g b (a + 3)) : Same b p a := by
  have a0 := g_lt hX a
  have a1 := g_lt hX (a + 1)
  have q0 := g_lt hX p
  have q1 := g_lt hX (p + 1)
  unfold p2 at h
  exact ⟨by omega, by omega, h2, h3⟩
/-- What place is, where it stands still. -/
def plc (b : List Nat) (a : Nat) : Int := match latest b a with
  | none => -1
  | some p => (p : Nat)
theorem plc_none {b : List Nat} {a : Nat} (h : latest b a = none) : plc b a = -1 := by unfold plc; rw [h]
theorem plc_some {b : List Nat} {a p : Nat} (h : latest b a = some p) : plc b a = (p : Nat) := by unfold plc; rw [h]
/-- Nothing is left to look at. -/
theorem walk_end {b : List Nat} {a k : Nat} (hno : ∀ q, k ≤ q → q < a → ¬ Same b q a) (h : pb b (p2 b a) k = 0) : plc b a = -1 :=
  plc_none (latest_none fun q hq hs => by
    by_cases e : k ≤ q
    · exact hno q e hq hs
    · exact pb_zero h q (by omega) (same_p2 hs))
theorem walk_gap {b : List Nat} {a k p : Nat} (hno : ∀ q, k ≤ q → q < a → ¬ Same b q a) (h : pb b (p2 b a) k = p + 1) : ∀ q, p < q → q < a → ¬ Same b q a := fun q h1 h2 hs => by
  by_cases e : k ≤ q
  · exact hno q e h2 hs
  · exact (pb_succ h).2.2 q h1 (by omega) (same_p2 hs)
theorem walk_far {b : List Nat} {a k p : Nat} (hno : ∀ q, k ≤ q → q < a → ¬ Same b q a) (h : pb b (p2 b a) k = p + 1) (hf : ¬ a - p ≤ 65535) : plc b a = -1 := plc_none (latest_far (walk_gap hno h) hf)
theorem walk_hit {b : List Nat} (hX : ∀ x ∈ b, x < 256) {a k p : Nat} (hk : k ≤ a) (h4 : a + 4 ≤ b.length) (hno : ∀ q, k ≤ q → q < a → ¬ Same b q a) (h : pb b (p2 b a) k = p + 1) (hf : a - p ≤ 65535) (h2 : g b (p + 2) = g b (a + 2)) (h3 : g b (p + 3) = g b (a + 3)) : plc b a = (p : Nat) :=
  plc_some (latest_some h4 (by have := (pb_succ h).1; omega) (p2_same hX (pb_succ h).2.1 h2 h3) (walk_gap hno h) hf)
theorem walk_on {b : List Nat} {a k p : Nat} (hno : ∀ q, k ≤ q → q < a → ¬ Same b q a) (h : pb b (p2 b a) k = p + 1) (hne : ¬ (g b (p + 2) = g b (a + 2) ∧ g b (p + 3) = g b (a + 3))) : ∀ q, p ≤ q → q < a → ¬ Same b q a := fun q h1 h2 hs => by
  by_cases e : p = q
  · subst e; exact hne ⟨hs.2.2.1, hs.2.2.2⟩
  · exact walk_gap hno h q (by omega) h2 hs
end Lc
end Go.Proofs.YtjmddomkoholoaaGreatDoor

/- The document's side: chains. -/
namespace Go.Proofs.YtjmddomkoholoaaGreatDoor
open Go.RowKit
namespace Ch
open Lm Lc Bs Fa Fb

theorem ofInt64 (a : Nat) (ha : a < 18446744073709551616) : (BitVec.ofInt 64 (a : Int)).toNat = a := ofInt_u64 a ha
theorem i64_or_nat (a b : Nat) (ha : a < 4294967296) (hb : b < 4294967296) : bits .or .i64 (a : Int) (b : Int) = ((a ||| b : Nat) : Int) := by
  have hx : a ||| b < 2 ^ 32 := Nat.or_lt_two_pow (by omega) (by omega)
  show IntKind.i64.wrap ((BitVec.ofInt 64 (a : Int) ||| BitVec.ofInt 64 (b : Int)).toNat : Int) = _
  rw [BitVec.toNat_or, ofInt_u64 a (by omega), ofInt_u64 b (by omega), IntWalk.i64_left]
  unfold wrap64
  omega

/-- The first n cells of block L. -/
def Arr (w : World) (L n : Nat) (f : Nat → Int) : Prop := L < w.heap.size ∧ ∀ i, i < n → w.cell? ⟨L, i, none⟩ = some (.int .i64 (f i)) ∧ w.frozen? ⟨L, i, none⟩ = false
theorem Arr.of_block {w w' : World} {L n : Nat} {f : Nat → Int} (h : Arr w L n f) (e : w'.heap[L]? = w.heap[L]?) (hs : w.heap.size ≤ w'.heap.size) : Arr w' L n f :=
  ⟨Nat.lt_of_lt_of_le h.1 hs, fun i hi => ⟨(World.cell?_of_block e).trans (h.2 i hi).1, (World.frozen?_of_block e).trans (h.2 i hi).2⟩⟩
theorem Arr.other {w : World} {L n : Nat} {f : Nat → Int} (h : Arr w L n f) {g i : Nat} (hne : L ≠ g) (v : Value) : Arr (w.setCell ⟨g, i, none⟩ v) L n f := h.of_block (heap_setCell_other _ _ _ _ hne) (by simp)
theorem Arr.store {w : World} {L n : Nat} {f : Nat → Int} (h : Arr w L n f) {i : Nat} (hi : i < n) (x : Int) : Arr (w.setCell ⟨L, i, none⟩ (.int .i64 x)) L n (fun j => if j = i then x else f j) := by
  refine ⟨by simpa using h.1, fun j hj => ⟨?_, by simpa using (h.2 j hj).2⟩⟩
  by_cases e : j = i
  · subst e
    dsimp only
    rw [if_pos rfl]
    exact cell_same (h.2 j hj).1
  · dsimp only
    rw [if_neg e, cell_other (by simp <;> omega)]
    exact (h.2 j hj).1
theorem Arr.ext {w : World} {L n : Nat} {f f' : Nat → Int} (h : Arr w L n f) (e : ∀ i, i < n → f i = f' i) : Arr w L n f' := ⟨h.1, fun i hi => by rw [← e i hi]; exact h.2 i hi⟩
theorem Arr.drewN {w : World} {L n : Nat} {f : Nat → Int} (h : Arr w L n f) (m : Nat) : Arr (w.drewN m) L n f := h
theorem arr_made {w w' : World} {base n c : Nat} (h : w'.ownsRow base 3 1 (.slice (some ⟨w.heap.size, 0, none⟩) n c) n (madeCells (Value.int .i64 0).cells (n * 1)).toList) : Arr w' w.heap.size n (fun _ => 0) := by
  refine ⟨(h.lt _ rfl).2, fun i hi => ⟨?_, h.frozenAt i⟩⟩
  rw [h.cellAt i (by omega)]
  simp [madeCells, Value.cells, hi, Nat.mod_one]

/-- What chains holds ahead of place i. -/
def Cr (w wr : World) (b : List Nat) (n L O i : Nat) : Prop :=
  Arr wr L 65536 (fun x => (pb b x i : Nat)) ∧ Arr wr O n (fun j => if j < i then (pb b (p2 b j) j : Int) - 1 else 0) ∧ L ≠ O ∧ w.heap.size ≤ L ∧ w.heap.size ≤ O ∧ Below w.heap.size w wr
theorem cr_step {w wr : World} {b : List Nat} {n L O i : Nat} (hX : ∀ x ∈ b, x < 256) (h : Cr w wr b n L O i) (hi : i < n) : Cr w ((wr.setCell ⟨O, i, none⟩ (.int .i64 ((pb b (p2 b i) i : Int) - 1))).setCell ⟨L, p2 b i, none⟩ (.int .i64 ((i + 1 : Nat) : Int))) b n L O (i + 1) := by
  obtain ⟨h1, h2, h3, h4, h5, h6⟩ := h
  have hx := p2_lt hX i
  refine ⟨((h1.other (Ne.symm (Ne.symm h3)) _).store hx _).ext fun x hx => ?_, ((h2.store hi _).other (Ne.symm h3) _).ext fun j hj => ?_, h3, h4, h5, (h6.setCell h5 _).setCell h4 _⟩
  · simp only [pb]
    split <;> rfl
  · by_cases e : j = i
    · subst e; rw [if_pos rfl, if_pos (by omega)]
    · rw [if_neg e]
      by_cases e2 : j < i
      · rw [if_pos e2, if_pos (by omega)]
      · rw [if_neg e2, if_neg (by omega)]

set_option maxRecDepth 100000 in
set_option maxHeartbeats 2000000 in
theorem chains15 (w : World) (R : Nat → Prop) (v : Value) (b : List Nat) (hS : Src w R v b) (hR : ∀ k, R k → k < w.heap.size) (hX : ∀ x ∈ b, x < 256) (hl : b.length ≤ 17592186044416) :
    Calls Tryz.prog 143 #[v] w fun e w' => ∃ O, e = .returned (.slice (some ⟨O, 0, none⟩) b.length b.length) ∧ Arr w' O b.length (fun j => if j + 1 < b.length then (pb b (p2 b j) j : Int) - 1 else 0) ∧ w.heap.size ≤ O ∧ Below w.heap.size w w' := by
  obtain ⟨i0, hi, hz0, hz1, hz2⟩ := info_parts info3
  obtain ⟨ad, c, hv⟩ := hS.forms
  obtain ⟨n, hn⟩ : ∃ n, n = b.length := ⟨_, rfl⟩
  have HS := Lib.hid hS
  subst hv
  rw [← hn] at HS hl ⊢
  have HN := Lib.hid hn
  have HX := Lib.hid hX
  have HR := Lib.hid hR
  clear hS hX hn hR
  go_enter Tryz.func143, Tryz.ntmps143
  go_wp2_with (at_make; refine wpList_make_full _ rfl _ _ 172 rfl w.heap.size 3 i0 (.int .i64 0) 1 Tryz.underlying172 hi hz0 hz1 .i64 .i64 65536 65536 65536 rfl rfl (by omega) (by omega) (by rw [hz2]; omega) (by unfold maxLen; omega) (Nat.le_refl _) ?_)
  intro w1 hown1 hgrow1
  have A1 := Lib.hid (arr_made hown1)
  have B1 : Hid (Below w.heap.size w w1) := Lib.hid ⟨hgrow1.os, hgrow1.tape, hgrow1.output, hgrow1.size, fun k hk => hgrow1.block k hk (by simp)⟩
  have S1 : Hid (w.heap.size < w1.heap.size) := Lib.hid A1.out.1
  clear hown1 hgrow1
  go_wp2_with (at_make; refine wpList_make_full _ rfl _ _ 172 rfl w1.heap.size 3 i0 (.int .i64 0) 1 Tryz.underlying172 hi hz0 hz1 .i64 .i64 n n n rfl rfl rfl rfl (by rw [hz2]; omega) (by unfold maxLen; omega) (Nat.le_refl _) ?_)
  intro w2 hown2 hgrow2
  have A2 := Lib.hid (arr_made (w := w1) (w' := w2) (base := w1.heap.size) (n := n) (c := n) (by rw [Nat.mul_one]; exact hown2))
  have B2 : Hid (Below w.heap.size w w2) := Lib.hid (B1.out.trans ⟨hgrow2.os, hgrow2.tape, hgrow2.output, hgrow2.size, fun k hk => hgrow2.block k (by have := S1.out; omega) (by simp)⟩)
  have A12 : Hid (Arr w2 w.heap.size 65536 (fun _ => 0)) := Lib.hid (A1.out.of_block (hgrow2.block _ S1.out (by simp)) hgrow2.size)
  have R0 : Hid (Cr w w2 b n w.heap.size w1.heap.size 0) := Lib.hid ⟨A12.out, A2.out.ext fun i hi => by simp, by have := S1.out; omega, Nat.le_refl _, by have := S1.out; omega, B2.out⟩
  clear hown2 hgrow2 A1 A2 A12 B1 B2
  go_wp2_with fail
  obtain ⟨L, hL⟩ : ∃ L, L = w.heap.size := ⟨_, rfl⟩
  obtain ⟨O, hO⟩ : ∃ O, O = w1.heap.size := ⟨_, rfl⟩
  rw [← hL, ← hO]
  rw [← hL, ← hO] at R0
  have HL := Lib.hid hL
  clear hL hO S1
  go_loopw [5] (fun i wr => ∃ k, (k = 0 ∨ k + 1 ≤ n) ∧ i = .int .i64 (k : Nat) ∧ Cr w wr b n L O k) (fun i _ => n - (intOf i).toNat)
  case atStart => exact ⟨0, .inl rfl, rfl, R0.out⟩
  case round =>
    obtain ⟨k, hk, rfl, hC⟩ := hrel
    by_cases hlt : k + 1 < n
    · have hs := HS.out.below hC.2.2.2.2.2 (fun k hk => HR.out k hk)
      rcases hs with ⟨rfl, _⟩ | ⟨h0, q, off, c', he, hnc, hq, hcell⟩
      · have := HN.out; simp at this; omega
      · injection he with h1 h2 h3
        subst h1
        subst h3
        have e1 := hcell k (by have := HN.out; omega)
        have e2 := hcell (k + 1) (by have := HN.out; omega)
        have l1 := g_lt HX.out k
        have l2 := g_lt HX.out (k + 1)
        have hp := p2_lt HX.out k
        have hP : p2 b k = g b k * 256 + g b (k + 1) := rfl
        have hstep : Hid (∀ wq m, wq = wr.drewN m → Cr w ((wq.setCell ⟨O, k, none⟩ (.int .i64 ((pb b (p2 b k) k : Int) - 1))).setCell ⟨L, p2 b k, none⟩ (.int .i64 ((k + 1 : Nat) : Int))) b n L O (k + 1)) := Lib.hid fun wq m hm => by
          subst hm
          exact cr_step (wr := wr.drewN m) HX.out ⟨hC.1.drewN m, hC.2.1.drewN m, hC.2.2.1, hC.2.2.2.1, hC.2.2.2.2.1, ⟨hC.2.2.2.2.2.os, hC.2.2.2.2.2.tape, hC.2.2.2.2.2.output, hC.2.2.2.2.2.size, hC.2.2.2.2.2.block⟩⟩ (by omega)
        have hcl : wr.cell? ⟨L, p2 b k, none⟩ = some (.int .i64 (pb b (p2 b k) k : Nat)) ∧ wr.frozen? ⟨L, p2 b k, none⟩ = false := hC.1.2 (p2 b k) hp
        have hco := (hC.2.1.2 k (by omega))
        have hle := pb_le b (p2 b k) k
        obtain ⟨V, hV⟩ : ∃ V, V = pb b (p2 b k) k := ⟨_, rfl⟩
        rw [← hV] at hcl hstep hle
        obtain ⟨X, hX⟩ : ∃ X, X = g b k := ⟨_, rfl⟩
        obtain ⟨Y, hY⟩ : ∃ Y, Y = g b (k + 1) := ⟨_, rfl⟩
        rw [← hX] at e1 l1 hP
        rw [← hY] at e2 l2 hP
        obtain ⟨P, hPP⟩ : ∃ P, P = p2 b k := ⟨_, rfl⟩
        rw [← hPP] at hP hcl hp hstep
        have hor : bits .or .i64 ((X : Int) * 256) (Y : Int) = (P : Int) := by
          rw [show (X : Int) * 256 = ((X * 256 : Nat) : Int) from by omega, i64_or_nat _ _ (by omega) (by omega), join_lit 8 256 _ _ rfl (by omega) (by omega), hP]
        obtain ⟨d1, z1⟩ := hcl
        obtain ⟨d2, z2⟩ := hco
        have HC := Lib.hid hC
        have hLO : Hid (L ≠ O) := Lib.hid hC.2.2.1
        clear hP hC hcell hq h0 hV hX hY hPP h2
        go_upto_region 6 with (fail)
        go_quiet (fail)
        obtain ⟨wq, hwq⟩ : ∃ wq, wq = wr.drewN nq := ⟨_, rfl⟩
        have st := Lib.hid (hstep.out wq nq hwq)
        have d1' : wq.cell? ⟨L, P, none⟩ = some (.int .i64 (V : Nat)) := by rw [hwq]; exact d1
        have z1' : wq.frozen? ⟨L, P, none⟩ = false := by rw [hwq]; exact z1
        obtain ⟨u, d2'⟩ : ∃ u, wq.cell? ⟨O, k, none⟩ = some u := ⟨_, by rw [hwq]; exact d2⟩
        have z2' : wq.frozen? ⟨O, k, none⟩ = false := by rw [hwq]; exact z2
        rw [← hwq]
        have d3 : (wq.setCell ⟨O, k, none⟩ (.int .i64 ((V : Int) - 1))).cell? ⟨L, P, none⟩ = some (.int .i64 (V : Nat)) := by rw [cell_other (by intro e; injection e with e _ _; exact hLO.out e.symm)]; exact d1'
        clear d1 d2 z1 z2 hwq hstep e1 e2 hor
        go_wp2_with fail
        go_roundw
        case rel => exact ⟨k + 1, by omega, by go_num, by exact st.out⟩
        case measure => simp [intOf]; omega
    · have HC := Lib.hid hC
      clear hC
      go_wp2_with fail
      go_ret
      refine ⟨O, rfl, HC.out.2.1.ext fun j hj => ?_, by rw [← HL.out]; have := HC.out.2.2.2.2.1; rw [← HL.out] at this; exact this, HC.out.2.2.2.2.2⟩
      by_cases e : j + 1 < n
      · rw [if_pos e, if_pos (by omega)]
      · rw [if_neg e, if_neg (by omega)]
end Ch
end Go.Proofs.YtjmddomkoholoaaGreatDoor

/- The program's side: readCopy, readPiece. -/
namespace Go.Proofs.YtjmddomkoholoaaGreatDoor
open Go.RowKit
namespace Ua
open Lm Lu Bs Fa Fb Ch

/-- What a piece that is none is told by. -/
def none0 : Value := .tuple #[.agg #[.slice none 0 0, .int .i64 0, .int .i64 0], .int .i64 0]

/-- A struct of three fields that is stored in the block that was laid for it. -/
def Three (w : World) (nq : Nat) (a b c : Value) : World := ((((w.alloc (.cells #[.slice none 0 0, .int .i64 0, .int .i64 0] 195)).drewN nq).setCell ⟨w.heap.size, 0, none⟩ a).setCell ⟨w.heap.size, 1, none⟩ b).setCell ⟨w.heap.size, 2, none⟩ c
theorem three (w : World) (nq : Nat) (a b c : Value) : (Three w nq a b c).cell? ⟨w.heap.size, 0, none⟩ = some a ∧ (Three w nq a b c).cell? ⟨w.heap.size, 1, none⟩ = some b ∧ (Three w nq a b c).cell? ⟨w.heap.size, 2, none⟩ = some c ∧ Below w.heap.size w (Three w nq a b c) := by
  have h := fun i v hv => Np.new_cell w #[.slice none 0 0, .int .i64 0, .int .i64 0] 195 i v hv
  have h0 : ((w.alloc (.cells #[.slice none 0 0, .int .i64 0, .int .i64 0] 195)).drewN nq).cell? ⟨w.heap.size, 0, none⟩ = some (.slice none 0 0) := h 0 _ rfl
  have h1 : ((w.alloc (.cells #[.slice none 0 0, .int .i64 0, .int .i64 0] 195)).drewN nq).cell? ⟨w.heap.size, 1, none⟩ = some (.int .i64 0) := h 1 _ rfl
  have h2 : ((w.alloc (.cells #[.slice none 0 0, .int .i64 0, .int .i64 0] 195)).drewN nq).cell? ⟨w.heap.size, 2, none⟩ = some (.int .i64 0) := h 2 _ rfl
  unfold Three
  refine ⟨?_, ?_, ?_, ((((Pa.below_drewN ((Below.refl _ _).alloc (Nat.le_refl _) _) nq).setCell (Nat.le_refl _) _).setCell (Nat.le_refl _) _).setCell (Nat.le_refl _) _)⟩
  · rw [cell_other (by simp), cell_other (by simp)]
    exact cell_same h0
  · rw [cell_other (by simp)]
    exact cell_same (u := .int .i64 0) (by rw [cell_other (by simp)]; exact h1)
  · exact cell_same (u := .int .i64 0) (by rw [cell_other (by simp), cell_other (by simp)]; exact h2)

set_option maxRecDepth 100000 in
theorem copy_few (w : World) (ad : Option Addr) (n c : Nat) (h : n < 3) : Calls Tryz.prog 179 #[.slice ad n c] w fun e w' => e = .returned none0 ∧ Below w.heap.size w w' := by
  have hi : (n : Int) < 3 := by omega
  go_enter Tryz.func179, Tryz.ntmps179
  go_wp2_with fail
  refine bodyPost_ret (v := none0) (by simp [results, Tryz.results179, go_sem, none0]) rfl ⟨rfl, ?_⟩
  exact (Below.refl _ _).alloc (Nat.le_refl _) _

set_option maxRecDepth 100000 in
theorem copy_noughts (w : World) (R : Nat → Prop) (v : Value) (n : Nat) (r : List Nat) (hS : Src w R v (n :: r)) (_hX : ∀ x ∈ (n :: r), x < 256) (h2 : 2 ≤ r.length) (hl : r.length ≤ 140737488353272) (hd : g r 0 * 256 + g r 1 = 0) :
    Calls Tryz.prog 179 #[v] w fun e w' => e = .returned none0 ∧ Below w.heap.size w w' := by
  rcases hS with ⟨h, _⟩ | ⟨h0, q, off, c, rfl, hnc, hq, hcell⟩
  · cases h
  · have e1 := hcell 1 (by simp; omega)
    have e2 := hcell 2 (by simp; omega)
    have g1 : g (n :: r) 1 = 0 := (show g (n :: r) 1 = g r 0 from rfl).trans (by omega)
    have g2 : g (n :: r) 2 = 0 := (show g (n :: r) 2 = g r 1 from rfl).trans (by omega)
    rw [g1] at e1
    rw [g2] at e2
    obtain ⟨L, hL⟩ : ∃ L, L = (n :: r).length := ⟨_, rfl⟩
    have hL3 : 3 ≤ L := by rw [hL]; simp; omega
    have hL4 : L ≤ 140737488353273 := by rw [hL]; simp; omega
    rw [← hL] at hnc ⊢
    have hor : bits .or .i64 0 0 = 0 := by decide
    have hql : q < w.heap.size := cell_lt e1
    have f1 : (w.alloc (.cells #[.slice none 0 0, .int .i64 0, .int .i64 0] 195)).cell? ⟨q, off + 1, none⟩ = some (.int .u8 0) := (World.cell?_of_block (Below.heap_alloc w _ q hql)).trans e1
    have f2 : (w.alloc (.cells #[.slice none 0 0, .int .i64 0, .int .i64 0] 195)).cell? ⟨q, off + 2, none⟩ = some (.int .u8 0) := (World.cell?_of_block (Below.heap_alloc w _ q hql)).trans e2
    have hi1 : (1 : Int) < (L : Int) := by omega
    have hi2 : (2 : Int) < (L : Int) := by omega
    clear hcell g1 g2 hd hL h0 h2 hl
    go_enter Tryz.func179, Tryz.ntmps179
    go_wp2_with fail
    go_quiet (fail)
    go_wp2_with fail
    obtain ⟨c0, c1, c2, bl⟩ := three w nq (.slice none 0 0) (.int .i64 0) (.int .i64 0)
    change bodyPost _ _ _ _ _ (Three w nq (.slice none 0 0) (.int .i64 0) (.int .i64 0))
    refine bodyPost_ret (v := none0) (by simp [results, Tryz.results179, go_sem, none0, c0, c1, c2]) rfl ⟨rfl, bl⟩

set_option maxRecDepth 100000 in
theorem copy_is (w : World) (R : Nat → Prop) (v : Value) (n : Nat) (r : List Nat) (hS : Src w R v (n :: r)) (hX : ∀ x ∈ (n :: r), x < 256) (h128 : 128 ≤ n) (h2 : 2 ≤ r.length) (hl : r.length ≤ 140737488353272) (hd : ¬ g r 0 * 256 + g r 1 = 0) :
    Calls Tryz.prog 179 #[v] w fun e w' => e = .returned (.tuple #[.agg #[.slice none 0 0, .int .i64 ((g r 0 * 256 + g r 1 : Nat) : Int), .int .i64 ((n - 124 : Nat) : Int)], .int .i64 3]) ∧ Below w.heap.size w w' := by
  rcases hS with ⟨h, _⟩ | ⟨h0, q, off, c, rfl, hnc, hq, hcell⟩
  · cases h
  · have e0 : w.cell? ⟨q, off, none⟩ = some (.int .u8 (n : Nat)) := hcell 0 (by simp)
    have e1 : w.cell? ⟨q, off + 1, none⟩ = some (.int .u8 (g r 0 : Nat)) := hcell 1 (by simp; omega)
    have e2 : w.cell? ⟨q, off + 2, none⟩ = some (.int .u8 (g r 1 : Nat)) := hcell 2 (by simp; omega)
    have hn : n < 256 := hX n (by simp)
    have l1 : g r 0 < 256 := g_lt (fun x hx => hX x (List.mem_cons_of_mem _ hx)) 0
    have l2 : g r 1 < 256 := g_lt (fun x hx => hX x (List.mem_cons_of_mem _ hx)) 1
    obtain ⟨X, hXX⟩ : ∃ X, X = g r 0 := ⟨_, rfl⟩
    obtain ⟨Y, hY⟩ : ∃ Y, Y = g r 1 := ⟨_, rfl⟩
    rw [← hXX] at e1 l1 hd ⊢
    rw [← hY] at e2 l2 hd ⊢
    obtain ⟨D, hD⟩ : ∃ D, D = X * 256 + Y := ⟨_, rfl⟩
    rw [← hD] at hd ⊢
    obtain ⟨M, hM⟩ : ∃ M, M = n - 124 := ⟨_, rfl⟩
    rw [← hM]
    obtain ⟨L, hL⟩ : ∃ L, L = (n :: r).length := ⟨_, rfl⟩
    have hL3 : 3 ≤ L := by rw [hL]; simp; omega
    have hL4 : L ≤ 140737488353273 := by rw [hL]; simp; omega
    rw [← hL] at hnc ⊢
    have hor : bits .or .i64 ((X : Int) * 256) (Y : Int) = (D : Int) := by
      rw [show (X : Int) * 256 = ((X * 256 : Nat) : Int) from by omega, i64_or_nat _ _ (by omega) (by omega), join_lit 8 256 _ _ rfl (by omega) (by omega), hD]
    have hm : (n : Int) - 128 + 4 = (M : Int) := by omega
    have hd0 : ((D : Int) == 0) = false := by rw [beq_eq_false_iff_ne]; omega
    have hql : q < w.heap.size := cell_lt e1
    have f0 : (w.alloc (.cells #[.slice none 0 0, .int .i64 0, .int .i64 0] 195)).cell? ⟨q, off, none⟩ = some (.int .u8 (n : Nat)) := (World.cell?_of_block (Below.heap_alloc w _ q hql)).trans e0
    have f1 : (w.alloc (.cells #[.slice none 0 0, .int .i64 0, .int .i64 0] 195)).cell? ⟨q, off + 1, none⟩ = some (.int .u8 (X : Nat)) := (World.cell?_of_block (Below.heap_alloc w _ q hql)).trans e1
    have f2 : (w.alloc (.cells #[.slice none 0 0, .int .i64 0, .int .i64 0] 195)).cell? ⟨q, off + 2, none⟩ = some (.int .u8 (Y : Nat)) := (World.cell?_of_block (Below.heap_alloc w _ q hql)).trans e2
    have hi0 : (0 : Int) < (L : Int) := by omega
    have hi1 : (1 : Int) < (L : Int) := by omega
    have hi2 : (2 : Int) < (L : Int) := by omega
    clear hcell hX hL h0 h2 hl hXX hY hD hM hd e0 e1 e2
    go_enter Tryz.func179, Tryz.ntmps179
    go_wp2_with fail
    go_quiet (fail)
    go_wp2_with fail
    obtain ⟨c0, c1, c2, bl⟩ := three w nq (.slice none 0 0) (.int .i64 (D : Nat)) (.int .i64 (M : Nat))
    change bodyPost _ _ _ _ _ (Three w nq (.slice none 0 0) (.int .i64 (D : Nat)) (.int .i64 (M : Nat)))
    refine bodyPost_ret (v := .tuple #[.agg #[.slice none 0 0, .int .i64 (D : Nat), .int .i64 (M : Nat)], .int .i64 3]) (by simp [results, Tryz.results179, go_sem, c0, c1, c2]) rfl ⟨rfl, bl⟩
end Ua
end Go.Proofs.YtjmddomkoholoaaGreatDoor
