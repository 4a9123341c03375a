import Derived.Test.YtjmddomkoholoaaGreatDoorG12
import Derived.Test.YtjmddomkoholoaaGreatDoorG06
import Derived.Test.YtjmddomkoholoaaGreatDoorG07
import Derived.Laws.BytesArg
import Derived.Deep.RegionWith

/- integerBytes. -/
namespace Go.Proofs.YtjmddomkoholoaaGreatDoor
open Go.RowKit
namespace Ic
open Cm Wr Bm Pk Zs Wl Vs Fo Cv Fl Rx

/-- One byte ahead of bytes: what the append leaves. -/
theorem cons_own {w : World} {B : Nat} {v : Value} {m k : Nat} {bs : List Nat} (h : w.ownsRow B 5 1 v (1 + k) ([.int .u8 (m : Nat)] ++ u8s bs)) (hk : k = bs.length) : w.ownsRow B 5 1 v (m :: bs).length (u8s (m :: bs)) := by
  rw [hk, Nat.add_comm] at h
  exact h
theorem sts_lt (l : List Nat) : ∀ p, ∀ x ∈ sts p l, x < 18446744073709551616 := by
  induction l with
  | nil => intro p x hx; simp [sts] at hx
  | cons a r ih =>
    intro p x hx
    simp only [sts, List.mem_cons] at hx
    rcases hx with rfl | hx
    · exact (step_of p a).2
    · exact ih a x hx
theorem packs_pos {l : List Nat} (h : 0 < l.length) : 8 ≤ (Mt.packs l).length := by
  rw [Mt.packs_len, Mt.words_cons h, List.length_cons]
  omega
theorem packs_le (l : List Nat) : (Mt.packs l).length ≤ 8 * l.length := by
  rw [Mt.packs_len]
  have := Mt.words_len l
  omega

set_option maxRecDepth 100000 in
set_option maxHeartbeats 2000000 in
theorem ints24 (w : World) (v : Value) (T : List Vl) (h : Vi w v T) (h0 : 0 < T.length) (hl : T.length ≤ 1000) (hT : Tab w) :
    Calls Tryz.prog 89 #[v] w fun e w' => ∃ r, e = .returned r ∧ w'.ownsRow w.heap.size 5 1 r (ibytes (ns T)).length (u8s (ibytes (ns T))) ∧ Below w.heap.size w w' := by
  obtain ⟨i0, hi, hz0, hz1, hz2⟩ := info_parts info5
  have hsl : (sts 0 (ns T)).length = T.length := by rw [sts_len]; simp [ns]
  have F46 := Lib.hid (Is.steps46 w v T h (by omega))
  have FP := Lib.hid (fun (y : World) (r : Value) (hb : Below w.heap.size w y) (ho : y.ownsRow w.heap.size 33 1 r (sts 0 (ns T)).length (u64s (sts 0 (ns T)))) => pack9 y r (sts 0 (ns T)) (iu_own ho (sts_lt _ _)) (hT.below hb hT.1) (by omega))
  have F47 := Lib.hid (fun (y : World) (hb : Below w.heap.size w y) => Ib.plain47 y v T (h.below hb) h0 hl)
  obtain ⟨a, c, rfl⟩ := h.forms
  obtain ⟨bs, hbs⟩ : ∃ bs, bs = ibytes (ns T) := ⟨_, rfl⟩
  rw [← hbs]
  unfold ibytes at hbs
  by_cases hS : Mt.Small (sts 0 (ns T))
  · rw [if_pos hS] at hbs
    have FK := Lib.hid (fun (y : World) (r : Value) (hb : Below w.heap.size w y) (ho : y.ownsRow w.heap.size 33 1 r (sts 0 (ns T)).length (u64s (sts 0 (ns T)))) => (FP.out y r hb ho).mono fun e w' hp => La.Packed.ok hp hS)
    have hmm := packs_pos (l := sts 0 (ns T)) (by omega)
    have hmx := packs_le (sts 0 (ns T))
    rw [hsl] at hmx
    have HL := Lib.hid (u8s_len (Mt.packs (sts 0 (ns T))))
    obtain ⟨ps, hps⟩ : ∃ ps, ps = Mt.packs (sts 0 (ns T)) := ⟨_, rfl⟩
    rw [← hps] at FK hmm hmx HL hbs
    obtain ⟨m, hm⟩ : ∃ m, m = ps.length := ⟨_, rfl⟩
    rw [← hm] at FK hmm hmx HL
    have HM := Lib.hid hm
    subst hbs
    have hmy : m ≤ 8000 := by omega
    clear FP F47 h h0 hl hT hS hps hm hsl hmx
    go_enter Tryz.func89, Tryz.ntmps89
    go_wp2_with fail
    refine F46.out.mono ?_
    rintro e w1 ⟨r1, rfl, o1, b1⟩
    have F45 := Lib.hid (FK.out w1 r1 b1 o1)
    have B1 := Lib.hid b1
    clear o1 b1
    go_wp2_with fail
    refine F45.out.mono ?_
    rintro e w2 ⟨r2, rfl, o2, b2⟩
    obtain ⟨q, cq, rfl⟩ := Go.Joins.ownsRow_form o2 (by omega)
    have O2 := Lib.hid (o2.alloc (.cells #[.int .u8 1] 5))
    have B2 := Lib.hid (B1.out.trans (b2.mono B1.out.size))
    have OL := Lib.hid (World.ownsRow_lit (size := 1) (e := 5) w2 #[.int .u8 1] 1 (Nat.le_refl _) (by decide) rfl)
    clear o2 b2
    go_wp2_with (at_builtin; refine wpList_append_own _ rfl (.tmp 15) (.tmp 16) 22 rfl w2.heap.size 5 i0 (.int .u8 0) 1 1 Tryz.underlying22 hi hz0 hz1 hz2 rfl (by decide) _ _ _ rfl OL.out ⟨q, 0, none⟩ m cq (u8s ps) rfl (by rw [HL.out]; omega) ?c1 ?c2 ?c3 ?c4 ?c5 ?_)
    case c1 => exact O2.out.cells rfl
    case c2 => intro u hu; simp [u8s] at hu; obtain ⟨x, _, rfl⟩ := hu; rfl
    case c3 => unfold maxLen; omega
    case c4 => omega
    case c5 => simp
    intro v' w4 ho4 hg4 _
    have B4 := Lib.hid ((B2.out.alloc B2.out.size _).grown hg4 (by have := B2.out.size; simp; omega) (fun r hr => by have := B2.out.size; simp [Value.ownBlock] at hr; omega))
    have O4 := Lib.hid ho4
    clear ho4 hg4
    go_wp2_with fail
    go_ret
    exact ⟨_, rfl, cons_own (Go.Joins.ownsRow_le O4.out B2.out.size) HM.out, B4.out⟩
  · rw [if_neg hS] at hbs
    have FK := Lib.hid (fun (y : World) (r : Value) (hb : Below w.heap.size w y) (ho : y.ownsRow w.heap.size 33 1 r (sts 0 (ns T)).length (u64s (sts 0 (ns T)))) => (FP.out y r hb ho).mono fun e w' hp => La.Packed.bad hp hS)
    subst hbs
    clear FP h h0 hl hT hS hsl
    go_enter Tryz.func89, Tryz.ntmps89
    go_wp2_with fail
    refine F46.out.mono ?_
    rintro e w1 ⟨r1, rfl, o1, b1⟩
    have F45 := Lib.hid (FK.out w1 r1 b1 o1)
    have B1 := Lib.hid b1
    clear o1 b1
    go_wp2_with fail
    refine F45.out.mono ?_
    rintro e w2 ⟨rfl, b2⟩
    have B2 := Lib.hid (B1.out.trans (b2.mono B1.out.size))
    clear b2
    go_wp2_with fail
    refine (F47.out _ B2.out).mono ?_
    rintro e w3 ⟨r3, rfl, o3, b3⟩
    have O3 := Lib.hid o3
    have B3 := Lib.hid b3
    clear o3 b3
    go_wp2_with fail
    go_ret
    exact ⟨_, rfl, Go.Joins.ownsRow_le O3.out B2.out.size, B2.out.trans (B3.out.mono B2.out.size)⟩
end Ic
end Go.Proofs.YtjmddomkoholoaaGreatDoor

/- Short bytes: the walks of the program's Short and the document's. -/
namespace Go.Proofs.YtjmddomkoholoaaGreatDoor
open Go.RowKit
namespace Sw
open Sm Wr

set_option maxRecDepth 100000 in
theorem or128 (x : Nat) (hx : x < 256) : x ||| 128 = x % 128 + 128 := by
  have : ∀ x : Fin 256, x.1 ||| 128 = x.1 % 128 + 128 := by decide
  exact this ⟨x, hx⟩

set_option maxRecDepth 100000 in
set_option maxHeartbeats 1000000 in
theorem short26 (n : Nat) (hn : n < 18446744073709551616) (w : World) :
    Calls Tryz.prog 163 #[.int .u64 (n : Nat)] w fun e w' => ∃ v l, e = .returned v ∧ IsShort n l ∧ w'.ownsRow w.heap.size 5 1 v l.length (u8s l) ∧ Below w.heap.size w w' := by
  obtain ⟨i0, hi, hz0, hz1, hz2⟩ := info_parts info5
  go_enter Tryz.func163, Tryz.ntmps163
  go_wp2_with fail
  go_loopw [0, 3] (fun x v wr => ∃ k, x = .int .u64 ((n / 128 ^ k : Nat) : Int) ∧ (∀ j, j < k → 128 ≤ n / 128 ^ j) ∧ wr.ownsRow w.heap.size 5 1 v k (u8s (sh n k)) ∧ Below w.heap.size w wr) (fun x _ _ => (intOf x).toNat)
  case atStart => exact ⟨0, by simp, fun j hj => absurd hj (by omega), World.ownsRow_nil _ _ _ _, Below.refl _ _⟩
  case round =>
    obtain ⟨k, rfl, hk, hown, hbl⟩ := hrel
    have hk9 := k_le hn hk
    have hX : n / 128 ^ k < 18446744073709551616 := Nat.lt_of_le_of_lt (Nat.div_le_self _ _) hn
    obtain ⟨X, hXe⟩ : ∃ X, X = n / 128 ^ k := ⟨_, rfl⟩
    rw [← hXe] at hX ⊢
    have HX := Lib.hid hXe
    have HK := Lib.hid hk
    have hsz := hbl.size
    clear hXe hk
    have hor : bits .or .u8 ((X : Int) % 256) 128 = ((X % 128 + 128 : Nat) : Int) := by
      have := u8_or_nat (X % 256) 128 (by omega) (by decide)
      rw [or128 _ (by omega)] at this
      rw [show ((X : Int) % 256) = ((X % 256 : Nat) : Int) from by omega]
      refine Eq.trans this ?_
      omega
    by_cases h128 : 128 ≤ X
    · go_wp2_with (at_builtin; refine wpList_append_own _ rfl (.tmp 6) (.tmp 10) 22 rfl w.heap.size 5 i0 (.int .u8 0) 1 1 Tryz.underlying22 hi hz0 hz1 hz2 rfl (by decide) _ _ _ rfl (hown.alloc _) ⟨wr.heap.size, 0, none⟩ 1 1 [.int .u8 ((X : Int) % 128 + 128)] rfl rfl ?c1 ?c2 ?c3 ?c4 ?c5 ?_)
      case c1 =>
        intro j u hj
        match j, hj with
        | 0, hj => simp at hj; subst hj; simp [Addr.add]
      case c2 => intro u hu; simp at hu; subst hu; rfl
      case c3 => unfold maxLen; omega
      case c4 => omega
      case c5 => simp; omega
      intro v' w2 hown' hgrow _
      have hbl2 : Below w.heap.size w w2 := (hbl.alloc (by omega) _).grown hgrow (by simp; omega) (fun r hr => (hown.lt r hr).1)
      have hown2 : w2.ownsRow w.heap.size 5 1 v' (k + 1) (u8s (sh n (k + 1))) := by
        rw [sh_succ, u8s_snoc, ← HX.out]
        rw [show ((X % 128 + 128 : Nat) : Int) = (X : Int) % 128 + 128 from by omega]
        exact hown'
      clear hgrow hown hbl hown'
      go_wp2
      go_roundw
      case rel =>
        refine ⟨k + 1, ?_, fun j hj => ?_, hown2, hbl2⟩
        · rw [Nat.pow_succ, ← Nat.div_div_eq_div_mul, ← HX.out]
          rw [show ((X / 128 : Nat) : Int) = (X : Int) / 128 from by omega]
        · by_cases e : j = k
          · subst e; rw [← HX.out]; exact h128
          · exact HK.out j (by omega)
      case measure => simp [intOf]; omega
    · have hX2 : (X : Int) % 256 = X := by omega
      go_wp2_with (at_builtin; refine wpList_append_own _ rfl (.tmp 14) (.tmp 17) 22 rfl w.heap.size 5 i0 (.int .u8 0) 1 1 Tryz.underlying22 hi hz0 hz1 hz2 rfl (by decide) _ _ _ rfl (hown.alloc _) ⟨wr.heap.size, 0, none⟩ 1 1 [.int .u8 (X : Int)] rfl rfl ?c1 ?c2 ?c3 ?c4 ?c5 ?_)
      case c1 =>
        intro j u hj
        match j, hj with
        | 0, hj => simp at hj; subst hj; simp [Addr.add]
      case c2 => intro u hu; simp at hu; subst hu; rfl
      case c3 => unfold maxLen; omega
      case c4 => omega
      case c5 => simp; omega
      intro v' w2 hown' hgrow _
      have hbl2 : Below w.heap.size w w2 := (hbl.alloc (by omega) _).grown hgrow (by simp; omega) (fun r hr => (hown.lt r hr).1)
      clear hgrow hown hbl
      go_wp2
      go_ret
      refine ⟨_, _, rfl, ⟨k, HK.out, by rw [← HX.out]; omega, rfl⟩, ?_, hbl2⟩
      rw [List.length_append, sh_len, u8s_snoc, ← HX.out]
      exact hown'

set_option maxRecDepth 100000 in
set_option maxHeartbeats 1000000 in
theorem short29 (n : Nat) (hn : n < 18446744073709551616) (w : World) :
    Calls Tryz.prog 106 #[.int .u64 (n : Nat)] w fun e w' => ∃ v l, e = .returned v ∧ IsShort n l ∧ w'.ownsRow w.heap.size 5 1 v l.length (u8s l) ∧ Below w.heap.size w w' := by
  obtain ⟨i0, hi, hz0, hz1, hz2⟩ := info_parts info5
  go_enter Tryz.func106, Tryz.ntmps106
  go_wp2_with fail
  go_loopw [0, 3] (fun x v wr => ∃ k, x = .int .u64 ((n / 128 ^ k : Nat) : Int) ∧ (∀ j, j < k → 128 ≤ n / 128 ^ j) ∧ wr.ownsRow w.heap.size 5 1 v k (u8s (sh n k)) ∧ Below w.heap.size w wr) (fun x _ _ => (intOf x).toNat)
  case atStart => exact ⟨0, by simp, fun j hj => absurd hj (by omega), World.ownsRow_nil _ _ _ _, Below.refl _ _⟩
  case round =>
    obtain ⟨k, rfl, hk, hown, hbl⟩ := hrel
    have hk9 := k_le hn hk
    have hX : n / 128 ^ k < 18446744073709551616 := Nat.lt_of_le_of_lt (Nat.div_le_self _ _) hn
    obtain ⟨X, hXe⟩ : ∃ X, X = n / 128 ^ k := ⟨_, rfl⟩
    rw [← hXe] at hX ⊢
    have HX := Lib.hid hXe
    have HK := Lib.hid hk
    have hsz := hbl.size
    clear hXe hk
    have hor : bits .or .u8 ((X : Int) % 256) 128 = ((X % 128 + 128 : Nat) : Int) := by
      have := u8_or_nat (X % 256) 128 (by omega) (by decide)
      rw [or128 _ (by omega)] at this
      rw [show ((X : Int) % 256) = ((X % 256 : Nat) : Int) from by omega]
      refine Eq.trans this ?_
      omega
    by_cases h128 : 128 ≤ X
    · go_wp2_with (at_builtin; refine wpList_append_own _ rfl (.tmp 6) (.tmp 11) 22 rfl w.heap.size 5 i0 (.int .u8 0) 1 1 Tryz.underlying22 hi hz0 hz1 hz2 rfl (by decide) _ _ _ rfl (hown.alloc _) ⟨wr.heap.size, 0, none⟩ 1 1 [.int .u8 ((X : Int) % 128 + 128)] rfl rfl ?c1 ?c2 ?c3 ?c4 ?c5 ?_)
      case c1 =>
        intro j u hj
        match j, hj with
        | 0, hj => simp at hj; subst hj; simp [Addr.add]
      case c2 => intro u hu; simp at hu; subst hu; rfl
      case c3 => unfold maxLen; omega
      case c4 => omega
      case c5 => simp; omega
      intro v' w2 hown' hgrow _
      have hbl2 : Below w.heap.size w w2 := (hbl.alloc (by omega) _).grown hgrow (by simp; omega) (fun r hr => (hown.lt r hr).1)
      have hown2 : w2.ownsRow w.heap.size 5 1 v' (k + 1) (u8s (sh n (k + 1))) := by
        rw [sh_succ, u8s_snoc, ← HX.out]
        rw [show ((X % 128 + 128 : Nat) : Int) = (X : Int) % 128 + 128 from by omega]
        exact hown'
      clear hgrow hown hbl hown'
      go_wp2
      go_roundw
      case rel =>
        refine ⟨k + 1, ?_, fun j hj => ?_, hown2, hbl2⟩
        · rw [Nat.pow_succ, ← Nat.div_div_eq_div_mul, ← HX.out]
          rw [show ((X / 128 : Nat) : Int) = (X : Int) / 128 from by omega]
        · by_cases e : j = k
          · subst e; rw [← HX.out]; exact h128
          · exact HK.out j (by omega)
      case measure => simp [intOf]; omega
    · have hX2 : (X : Int) % 256 = X := by omega
      go_wp2_with (at_builtin; refine wpList_append_own _ rfl (.tmp 15) (.tmp 18) 22 rfl w.heap.size 5 i0 (.int .u8 0) 1 1 Tryz.underlying22 hi hz0 hz1 hz2 rfl (by decide) _ _ _ rfl (hown.alloc _) ⟨wr.heap.size, 0, none⟩ 1 1 [.int .u8 (X : Int)] rfl rfl ?c1 ?c2 ?c3 ?c4 ?c5 ?_)
      case c1 =>
        intro j u hj
        match j, hj with
        | 0, hj => simp at hj; subst hj; simp [Addr.add]
      case c2 => intro u hu; simp at hu; subst hu; rfl
      case c3 => unfold maxLen; omega
      case c4 => omega
      case c5 => simp; omega
      intro v' w2 hown' hgrow _
      have hbl2 : Below w.heap.size w w2 := (hbl.alloc (by omega) _).grown hgrow (by simp; omega) (fun r hr => (hown.lt r hr).1)
      clear hgrow hown hbl
      go_wp2
      go_ret
      refine ⟨_, _, rfl, ⟨k, HK.out, by rw [← HX.out]; omega, rfl⟩, ?_, hbl2⟩
      rw [List.length_append, sh_len, u8s_snoc, ← HX.out]
      exact hown'

end Sw
end Go.Proofs.YtjmddomkoholoaaGreatDoor

/- Short bytes: the walks of the program's ReadShort and the document's. -/
namespace Go.Proofs.YtjmddomkoholoaaGreatDoor
open Go.RowKit
namespace Sr
open Sm Wr

/-- A slice of these bytes, its address plain where there are any. -/
def Pl (w : World) (s : Value) (bs : List Nat) : Prop :=
  (bs = [] ∧ ∃ a c, s = .slice a 0 c) ∨ (0 < bs.length ∧ ∃ b off c, s = .slice (some ⟨b, off, none⟩) bs.length c ∧ bs.length ≤ c ∧ ∀ i, i < bs.length → w.cell? ⟨b, off + i, none⟩ = some (.int .u8 (bs.getD i 0 : Nat)))

theorem no_good {bs : List Nat} {k : Nat} (h : ∀ j, j < k → 128 ≤ bs.getD j 0) (hk : bs.length ≤ k ∨ (k < bs.length ∧ bs.getD k 0 < 128 ∧ ¬ Sm.Good bs k) ∨ (k = 9 ∧ 1 < bs.getD k 0)) : ∀ i, ¬ Sm.Good bs i := by
  intro i g
  have hi : k ≤ i := by
    by_cases hlt : i < k
    · have := h i hlt; have := g.2.2.1; omega
    · omega
  rcases hk with h1 | ⟨h1, h2, h3⟩ | ⟨rfl, h1⟩
  · have := g.1; omega
  · by_cases e : i = k
    · subst e; exact h3 g
    · have := g.2.1 k (by omega); omega
  · have h9 := g.2.2.2.1
    obtain rfl : i = 9 := by omega
    have := g.2.2.2.2.2 rfl
    omega

theorem pow7 (k : Nat) : 2 ^ (7 * k) = 128 ^ k := by rw [Nat.pow_mul]
theorem part_lt {C k : Nat} (hk : k ≤ 9) (h9 : k = 9 → C ≤ 1) : C % 128 * 128 ^ k < 18446744073709551616 := by
  by_cases h : k = 9
  · subst h
    have := h9 rfl
    have h1 : C % 128 ≤ 1 := by omega
    have := Nat.mul_le_mul_right (128 ^ 9) h1
    omega
  · have h1 : C % 128 ≤ 127 := by omega
    have h2 : 128 ^ k ≤ 128 ^ 8 := Nat.pow_le_pow_right (by decide) (by omega)
    have h3 := Nat.mul_le_mul h1 h2
    omega
theorem step {N C k : Nat} (hk : k ≤ 9) (h9 : k = 9 → C ≤ 1) (hN : N < 128 ^ k) : bits .or .u64 (N : Int) (IntKind.u64.wrap ((C : Int) % 128 * 2 ^ (7 * k))) = ((N + C % 128 * 128 ^ k : Nat) : Int) := by
  have hp := part_lt hk h9
  have h128 : 128 ^ k ≤ 128 ^ 9 := Nat.pow_le_pow_right (by decide) hk
  have e : (C : Int) % 128 * 2 ^ (7 * k) = ((C % 128 * 128 ^ k : Nat) : Int) := by rw [← pow7]; push_cast; rfl
  rw [e, IntKind.wrap_u64, show ((C % 128 * 128 ^ k : Nat) : Int) % 18446744073709551616 = ((C % 128 * 128 ^ k : Nat) : Int) from by omega,
    u64_or_nat _ _ (by omega) hp, Nat.or_comm, nat_join (7 * k) _ _ (by rw [pow7]; exact Nat.mul_mod_left _ _) (by rw [pow7]; exact hN), Nat.add_comm]
theorem good_at {bs : List Nat} {k : Nat} (h1 : k < bs.length) (h2 : ∀ j, j < k → 128 ≤ bs.getD j 0) (h3 : bs.getD k 0 < 128) (h4 : k ≤ 9) (h5 : bs.getD k 0 ≠ 0 ∨ k = 0) (h6 : k = 9 → bs.getD k 0 ≤ 1) : Sm.Good bs k := ⟨h1, h2, h3, h4, h5, h6⟩

set_option maxRecDepth 100000 in
set_option maxHeartbeats 1000000 in
theorem read27 (w : World) (s : Value) (bs : List Nat) (h : Pl w s bs) (hb : ∀ x ∈ bs, x < 256) (hl : bs.length ≤ 9223372036854775807) :
    Calls Tryz.prog 170 #[s] w fun e w' => ∃ x k : Nat, e = .returned (.tuple #[.int .u64 (x : Nat), .int .i64 (k : Nat)]) ∧ Res bs x k ∧ w' = w := by
  rcases h with ⟨rfl, a, c, rfl⟩ | ⟨h0, b, off, c, rfl, hlc, hcell⟩
  · go_enter Tryz.func170, Tryz.ntmps170
    go_wp2_with fail
    refine wp_loop_rounds 1 ?_
    rw [rounds_succ]
    go_wp2_with fail
    go_ret2
    exact ⟨0, 0, rfl, .inr ⟨fun i g => by have := g.1; simp at this, rfl, rfl⟩, rfl⟩
  · obtain ⟨len, hlen⟩ : ∃ len, len = bs.length := ⟨_, rfl⟩
    rw [← hlen] at h0 hlc hl hcell ⊢
    have HL := Lib.hid hlen
    clear hlen
    go_enter Tryz.func170, Tryz.ntmps170
    go_wp2_with fail
    go_loop [4, 9] (fun n i => ∃ k, k ≤ len ∧ k ≤ 9 ∧ i = .int .i64 (k : Nat) ∧ n = .int .u64 (vs bs k : Nat) ∧ ∀ j, j < k → 128 ≤ bs.getD j 0) (fun _ i => len - (intOf i).toNat)
    case atStart => exact ⟨0, Nat.zero_le _, by omega, rfl, rfl, fun j hj => absurd hj (by omega)⟩
    case round =>
      obtain ⟨k, hk, hk9, rfl, rfl, hall⟩ := hrel
      by_cases hkl : k < len
      · have e := hcell k hkl
        have hC := Bm.getD_lt hb k
        have hN := vs_fit (b := bs) hk9
        obtain ⟨C, hCe⟩ : ∃ C, C = bs.getD k 0 := ⟨_, rfl⟩
        obtain ⟨N, hNe⟩ : ∃ N, N = vs bs k := ⟨_, rfl⟩
        rw [← hCe] at e hC
        rw [← hNe] at hN ⊢
        have HC := Lib.hid hCe
        have HN := Lib.hid hNe
        have HA := Lib.hid hall
        have HB := Lib.hid hb
        clear hCe hNe hall hb hcell
        have h7 : bits .andNot .u8 (C : Int) 128 = ((C % 128 : Nat) : Int) := by
          have := u8_andNot_nat C 128 hC (by decide)
          rw [nat_mask7] at this
          exact this
        have h8 : bits .and .u8 (C : Int) 128 = ((C / 128 * 128 : Nat) : Int) := by
          have := u8_and_nat C 128 hC (by decide)
          rw [show C &&& 128 = C / 128 % 2 * 128 from nat_bit 7 C] at this
          refine Eq.trans this ?_
          omega
        have hst : (k = 9 → C ≤ 1) → bits .or .u64 (N : Int) (IntKind.u64.wrap ((C : Int) % 128 * 2 ^ (7 * k))) = ((vs bs (k + 1) : Nat) : Int) := by
          intro h9
          rw [step hk9 h9 (by rw [HN.out]; exact vs_lt _ _), HN.out, HC.out]
          rfl
        have HST := Lib.hid hst
        clear hst
        go_wp2_with fail
        · have hk' : k = 9 := by omega
          go_ret2
          exact ⟨0, 0, rfl, .inr ⟨no_good HA.out (.inr (.inr ⟨hk', by rw [← HC.out]; omega⟩)), rfl, rfl⟩, rfl⟩
        · have hk' : k = 9 := by omega
          have hC0 : C = 0 := by omega
          go_ret2
          exact ⟨0, 0, rfl, .inr ⟨no_good HA.out (.inr (.inl ⟨by rw [← HL.out]; exact hkl, by rw [← HC.out]; omega, fun g => by have := g.2.2.2.2.1; rw [← HC.out] at this; omega⟩)), rfl, rfl⟩, rfl⟩
        · have hk' : k = 9 := by omega
          have hC1 : C ≤ 1 := by omega
          have hC0 : C ≠ 0 := by assumption
          subst hk'
          have e2 : bits .or .u64 (N : Int) ((C : Int) % 128 * 9223372036854775808) = ((vs bs 10 : Nat) : Int) := by
            rw [← HST.out (fun _ => hC1), IntKind.wrap_u64]
            congr 1
            omega
          rw [e2]
          go_ret2
          exact ⟨vs bs 10, 10, rfl, .inl ⟨9, good_at (by rw [← HL.out]; exact hkl) HA.out (by rw [← HC.out]; omega) (by omega) (.inl (by rw [← HC.out]; exact hC0)) (fun _ => by rw [← HC.out]; exact hC1), rfl, rfl⟩, rfl⟩
        · have hk' : k ≠ 9 := by omega
          have hC1 : 128 ≤ C := by rename_i hx; simp at hx; omega
          go_round
          case rel =>
            exact ⟨k + 1, by omega, by omega, by go_num, by rw [HST.out (fun h => absurd h hk')], fun j hj => by
              by_cases ej : j = k
              · rw [ej, ← HC.out]; exact hC1
              · exact HA.out j (by omega)⟩
          case measure => simp [intOf]; omega
        · have hC0 : C = 0 := by assumption
          go_ret2
          exact ⟨0, 0, rfl, .inr ⟨no_good HA.out (.inr (.inl ⟨by rw [← HL.out]; exact hkl, by rw [← HC.out]; omega, fun g => by have := g.2.2.2.2.1; rw [← HC.out] at this; omega⟩)), rfl, rfl⟩, rfl⟩
        · have hC0 : C = 0 := by assumption
          have hk' : k = 0 := by omega
          subst hk'
          have e2 : bits .or .u64 (N : Int) (IntKind.u64.wrap 0) = ((vs bs 1 : Nat) : Int) := by
            rw [← HST.out (fun h => absurd h (by decide)), hC0]
            rfl
          rw [e2]
          go_ret2
          exact ⟨vs bs 1, 1, rfl, .inl ⟨0, good_at (by rw [← HL.out]; exact hkl) HA.out (by rw [← HC.out]; omega) (by omega) (.inr rfl) (fun h => absurd h (by decide)), rfl, rfl⟩, rfl⟩
        · have hC0 : C ≠ 0 := by assumption
          have hk' : k ≠ 9 := by omega
          have hC1 : C < 128 := by rename_i hx _ _; simp at hx; omega
          rw [HST.out (fun h => absurd h hk')]
          go_ret2
          exact ⟨vs bs (k + 1), k + 1, rfl, .inl ⟨k, good_at (by rw [← HL.out]; exact hkl) HA.out (by rw [← HC.out]; omega) hk9 (.inl (by rw [← HC.out]; exact hC0)) (fun h => absurd h hk'), rfl, rfl⟩, rfl⟩
      · obtain rfl : k = len := by omega
        go_wp2_with fail
        go_ret2
        exact ⟨0, 0, rfl, .inr ⟨no_good hall (.inl (by rw [HL.out]; exact Nat.le_refl _)), rfl, rfl⟩, rfl⟩
end Sr
end Go.Proofs.YtjmddomkoholoaaGreatDoor

/- Short bytes: the walk of the document's ReadShort. -/
namespace Go.Proofs.YtjmddomkoholoaaGreatDoor
open Go.RowKit
namespace Sr
open Sm Wr

/-- The string of bytes. -/
def str (bs : List Nat) : ByteArray := strOfNums (bs.map fun b : Nat => (b : Int))
theorem str_inj {cs bs : List Nat} (ha : ∀ x ∈ cs, x < 256) (hb : ∀ x ∈ bs, x < 256) (h : str cs = str bs) : cs = bs := by
  have e : (str cs).data.toList = (str bs).data.toList := by rw [h]
  unfold str at e
  rw [strOfNums_data, strOfNums_data] at e
  simp only [List.map_map] at e
  have hl : cs.length = bs.length := by simpa using congrArg List.length e
  apply List.ext_getElem hl
  intro j h1 h2
  have ej : (UInt8.ofNat cs[j]) = UInt8.ofNat bs[j] := by
    have := congrArg (fun l => l[j]?) e
    simpa [h1, h2] using this
  have l1 := ha _ (List.getElem_mem h1)
  have l2 := hb _ (List.getElem_mem h2)
  have := congrArg UInt8.toNat ej
  simp only [UInt8.toNat_ofNat'] at this
  omega
theorem toList_ne {S T : ByteArray} (h : S ≠ T) : (S.toList == T.toList) = false := by
  rw [ByteArray.toList_eq, ByteArray.toList_eq, beq_eq_false_iff_ne]
  intro e
  apply h
  cases S; cases T
  congr 1
  exact Array.toList_inj.1 e
theorem conv_cells (w : World) (src : TypeId) (hs : Tryz.prog.underlying src = some (.slice 5)) (b off c : Nat) (bs : List Nat) (h : ∀ i, i < bs.length → w.cell? ⟨b, off + i, none⟩ = some (.int .u8 (bs.getD i 0 : Nat))) :
    (convert src 9 (.slice (some ⟨b, off, none⟩) bs.length c)).run Tryz.prog w = .ok (.string (str bs)) w := by
  refine run_convert_bytes_arg w src 5 hs Tryz.underlying5 b off bs.length c _ (by simp) (fun i hi => ?_) 9 Tryz.underlying9
  rw [h i hi]
  simp [List.getD_eq_getElem?_getD, hi]
theorem conv_own {w : World} {B : Nat} {v : Value} {bs : List Nat} (h : w.ownsRow B 5 1 v bs.length (u8s bs)) : (convert 22 9 v).run Tryz.prog w = .ok (.string (str bs)) w := by
  rcases Go.Joins.ownsRow_forms h with ⟨rfl, h0⟩ | ⟨g, c, rfl⟩
  · obtain rfl := List.length_eq_zero_iff.1 h0
    exact run_convert_bytes_nil w 22 5 Tryz.underlying22 Tryz.underlying5 0 0 9 Tryz.underlying9
  · refine conv_cells w 22 Tryz.underlying22 g 0 c bs fun i hi => ?_
    rw [Nat.zero_add, h.cellAt i (by omega)]
    exact u8s_get bs i hi
theorem exists_short {n : Nat} (hn : n < 18446744073709551616) : ∃ l, IsShort n l := by
  have h : ∀ m, (∀ j, j < m → 128 ≤ n / 128 ^ j) ∨ ∃ l, IsShort n l := by
    intro m
    induction m with
    | zero => exact .inl fun j hj => absurd hj (by omega)
    | succ m ih =>
      rcases ih with ih | ih
      · by_cases hm : 128 ≤ n / 128 ^ m
        · exact .inl fun j hj => by
            by_cases e : j = m
            · subst e; exact hm
            · exact ih j (by omega)
        · exact .inr ⟨_, m, ih, by omega, rfl⟩
      · exact .inr ih
  rcases h 10 with h | h
  · have := k_le hn h; omega
  · exact h
theorem short_of (n : Nat) (hn : n < 18446744073709551616) (l : List Nat) (hl : IsShort n l) (w : World) :
    Calls Tryz.prog 106 #[.int .u64 (n : Nat)] w fun e w' => ∃ v, e = .returned v ∧ (convert 22 9 v).run Tryz.prog w' = .ok (.string (str l)) w' ∧ Below w.heap.size w w' := by
  refine (Sw.short29 n hn w).mono ?_
  rintro e w' ⟨v, l', rfl, h, ho, bl⟩
  obtain rfl := h.unique hl
  exact ⟨v, rfl, conv_own ho, bl⟩
theorem take_lt {bs : List Nat} (hb : ∀ x ∈ bs, x < 256) (k : Nat) : ∀ x ∈ bs.take k, x < 256 := fun x hx => hb x (List.mem_of_mem_take hx)
theorem short_lt {n : Nat} {l : List Nat} (h : IsShort n l) : ∀ x ∈ l, x < 256 := by
  obtain ⟨k, h1, h2, rfl⟩ := h
  intro x hx
  rcases List.mem_append.1 hx with hx | hx
  · simp only [sh, List.mem_map] at hx
    obtain ⟨j, _, rfl⟩ := hx
    omega
  · simp at hx; omega
theorem conv_take {w : World} {b off c k : Nat} {bs : List Nat} (hk : k < bs.length) (h : ∀ i, i < bs.length → w.cell? ⟨b, off + i, none⟩ = some (.int .u8 (bs.getD i 0 : Nat))) (W : World) (hW : ∀ i, i < bs.length → W.cell? ⟨b, off + i, none⟩ = w.cell? ⟨b, off + i, none⟩) :
    (convert 22 9 (.slice (some ⟨b, off, none⟩) (k + 1) c)).run Tryz.prog W = .ok (.string (str (bs.take (k + 1)))) W := by
  have hl : (bs.take (k + 1)).length = k + 1 := by rw [List.length_take]; omega
  have := conv_cells W 22 Tryz.underlying22 b off c (bs.take (k + 1)) (fun i hi => by
    rw [hl] at hi
    rw [hW i (by omega), h i (by omega)]
    simp [List.getD_eq_getElem?_getD, hi])
  rwa [hl] at this

set_option maxRecDepth 100000 in
set_option maxHeartbeats 2000000 in
theorem read28 (w : World) (s : Value) (bs : List Nat) (h : Pl w s bs) (hb : ∀ x ∈ bs, x < 256) (hl : bs.length ≤ 9223372036854775807) :
    Calls Tryz.prog 101 #[s] w fun e w' => ∃ x k : Nat, e = .returned (.tuple #[.int .u64 (x : Nat), .int .i64 (k : Nat)]) ∧ Res bs x k ∧ Below w.heap.size w w' := by
  rcases h with ⟨rfl, a, c, rfl⟩ | ⟨h0, b, off, c, rfl, hlc, hcell⟩
  · go_enter Tryz.func101, Tryz.ntmps101
    go_wp2_with fail
    refine wp_loop_rounds 1 ?_
    rw [rounds_succ]
    go_wp2_with fail
    go_ret2
    exact ⟨0, 0, rfl, .inr ⟨fun i g => by have := g.1; simp at this, rfl, rfl⟩, Below.refl _ _⟩
  · obtain ⟨len, hlen⟩ : ∃ len, len = bs.length := ⟨_, rfl⟩
    rw [← hlen] at h0 hlc hl hcell ⊢
    have HL := Lib.hid hlen
    clear hlen
    have hbw : b < w.heap.size := cell_lt (hcell 0 h0)
    go_enter Tryz.func101, Tryz.ntmps101
    go_wp2_with fail
    go_loopw [4, 5] (fun n i wr => ∃ k, k ≤ len ∧ k ≤ 10 ∧ i = .int .i64 (k : Nat) ∧ (k ≤ 9 → n = .int .u64 (vs bs k : Nat)) ∧ (∀ j, j < k → 128 ≤ bs.getD j 0) ∧ wr = w) (fun _ i _ => len - (intOf i).toNat)
    case atStart => exact ⟨0, Nat.zero_le _, by omega, rfl, fun _ => rfl, fun j hj => absurd hj (by omega), rfl⟩
    case round =>
      obtain ⟨k, hk, hk10, rfl, hn, hall, rfl⟩ := hrel
      by_cases hkl : k < len
      · by_cases hk9 : k ≤ 9
        · have hn' := hn hk9
          subst hn'
          clear hn
          have e := hcell k hkl
          have hC := Bm.getD_lt hb k
          have hN := vs_fit (b := bs) hk9
          obtain ⟨C, hCe⟩ : ∃ C, C = bs.getD k 0 := ⟨_, rfl⟩
          obtain ⟨N, hNe⟩ : ∃ N, N = vs bs k := ⟨_, rfl⟩
          rw [← hCe] at e hC
          rw [← hNe] at hN ⊢
          have h7 : bits .and .u8 (C : Int) 127 = ((C % 128 : Nat) : Int) := by
            have := u8_and_nat C 127 hC (by decide)
            rw [nat_mask7] at this
            exact this
          have hst : ∃ M : Nat, M < 18446744073709551616 ∧ ((k = 9 → C ≤ 1) → M = vs bs (k + 1)) ∧ bits .or .u64 (N : Int) (IntKind.u64.wrap ((C : Int) % 128 * 2 ^ (7 * k))) = ((M : Nat) : Int) := by
            have hk128 : 128 ^ k ≤ 128 ^ 9 := Nat.pow_le_pow_right (by decide) hk9
            have hNk : N < 128 ^ k := by rw [hNe]; exact vs_lt _ _
            have e0 : (C : Int) % 128 * 2 ^ (7 * k) = ((C % 128 * 128 ^ k : Nat) : Int) := by rw [← pow7]; push_cast; rfl
            have e1 : IntKind.u64.wrap ((C : Int) % 128 * 2 ^ (7 * k)) = ((C % 128 * 128 ^ k % 18446744073709551616 : Nat) : Int) := by rw [e0, IntKind.wrap_u64]; omega
            refine ⟨N ||| (C % 128 * 128 ^ k % 18446744073709551616), Nat.or_lt_two_pow (n := 64) (by omega) (Nat.mod_lt _ (by decide)), fun h9 => ?_, ?_⟩
            · have hs := step hk9 h9 hNk
              rw [e1, u64_or_nat _ _ (by omega) (Nat.mod_lt _ (by decide))] at hs
              have hs' := Int.ofNat.inj hs
              rw [hs', hCe, hNe]
              rfl
            · rw [e1, u64_or_nat _ _ (by omega) (Nat.mod_lt _ (by decide))]
          obtain ⟨M, hM1, hM2, hM3⟩ := hst
          have HC := Lib.hid hCe
          have HN := Lib.hid hNe
          have HA := Lib.hid hall
          have HB := Lib.hid hb
          have HCELL := Lib.hid hcell
          have HM := Lib.hid hM2
          clear hCe hNe hall hb hcell hM2
          by_cases hC1 : C < 128
          · obtain ⟨l, hl0⟩ := exists_short hM1
            have hti := test_iff (b := bs) (i := k) HB.out (by rw [← HL.out]; exact hkl) hM1 (fun h9 => HM.out (by rw [HC.out]; exact h9)) hl0
            have hcv := conv_take (w := wr) (c := c) (by rw [← HL.out]; exact hkl) (by rw [← HL.out]; exact HCELL.out)
            obtain ⟨T, hT⟩ : ∃ T, T = str (bs.take (k + 1)) := ⟨_, rfl⟩
            rw [← hT] at hcv
            have hq0 : (convert 22 9 (.slice (some ⟨b, off, none⟩) (k + 1) c)).run Tryz.prog wr.drew = .ok (.string T) wr.drew := hcv wr.drew fun _ _ => rfl
            have HQ : Hid (∀ W, Below wr.heap.size wr.drew W → (convert 22 9 (.slice (some ⟨b, off, none⟩) (k + 1) c)).run Tryz.prog W = .ok (.string T) W) := Lib.hid fun W hW => hcv W fun i hi => by
              rw [hW.cell (by exact hbw)]; rfl
            have HSH := Lib.hid (short_of M hM1 l hl0)
            obtain ⟨S, hS⟩ : ∃ S, S = str l := ⟨_, rfl⟩
            rw [← hS] at HSH
            clear hcv
            by_cases hg : Sm.Good bs k
            · have hST : T = S := by rw [hT, hS, hti.2 hg]
              subst hST
              have HS := Lib.hid hS
              have HTT := Lib.hid hT
              have HTI := Lib.hid hti
              have HGG := Lib.hid hg
              clear hS hT hti hg
              have hwr : IntKind.i64.wrap ((k : Int) + 1) = (k : Int) + 1 := IntWalk.i64_in _ (by omega)
              have hi1 : (k : Int) + 1 ≤ (c : Int) := by omega
              have hi2 : (0 : Int) ≤ (k : Int) + 1 := by omega
              have hi3 : ¬ c = 0 := by omega
              go_wp2_with fail
              go_region_with (go_at_call 106; refine (HSH.out _).mono ?_; rintro e W2 ⟨v, rfl, q1, b1⟩; have q2 := HQ.out W2 b1)
              all_goals
                go_wp2_with fail
                go_ret2
                exact ⟨M, k + 1, rfl, .inl ⟨k, HGG.out, HM.out (by rw [HC.out]; exact HGG.out.2.2.2.2.2), rfl⟩, (Below.refl _ _).drew.trans b1⟩
            · have hST : S ≠ T := fun h => hg (hti.1 (str_inj (short_lt hl0) (take_lt HB.out _) (by rw [← hS, ← hT]; exact h)))
              have hST2 := toList_ne hST
              have HTI := Lib.hid hti
              have HGG := Lib.hid hg
              clear hS hT hti hg
              have hwr : IntKind.i64.wrap ((k : Int) + 1) = (k : Int) + 1 := IntWalk.i64_in _ (by omega)
              have hi1 : (k : Int) + 1 ≤ (c : Int) := by omega
              have hi2 : (0 : Int) ≤ (k : Int) + 1 := by omega
              have hi3 : ¬ c = 0 := by omega
              go_wp2_with fail
              go_region_with (go_at_call 106; refine (HSH.out _).mono ?_; rintro e W2 ⟨v, rfl, q1, b1⟩; have q2 := HQ.out W2 b1)
              all_goals
                go_wp2_with fail
                go_ret2
                exact ⟨0, 0, rfl, .inr ⟨no_good HA.out (.inr (.inl ⟨by rw [← HL.out]; exact hkl, by rw [← HC.out]; exact hC1, HGG.out⟩)), rfl, rfl⟩, (Below.refl _ _).drew.trans b1⟩
          · have hC2 : ¬ (C : Int) < 128 := by omega
            go_wp2_with fail
            go_roundw
            case rel =>
              exact ⟨k + 1, by omega, by omega, by go_num, fun h9 => by rw [HM.out (fun h => by omega)], fun j hj => by
                by_cases ej : j = k
                · rw [ej, ← HC.out]; omega
                · exact HA.out j (by omega), trivial⟩
            case measure => simp [intOf]; omega
        · obtain rfl : k = 10 := by omega
          go_wp2_with fail
          go_ret2
          exact ⟨0, 0, rfl, .inr ⟨fun i g => by have := g.2.2.1; have h9 := g.2.2.2.1; have := hall i (by omega); omega, rfl, rfl⟩, Below.refl _ _⟩
      · obtain rfl : k = len := by omega
        go_wp2_with fail
        go_ret2
        exact ⟨0, 0, rfl, .inr ⟨no_good hall (.inl (by rw [HL.out]; exact Nat.le_refl _)), rfl, rfl⟩, Below.refl _ _⟩
end Sr
end Go.Proofs.YtjmddomkoholoaaGreatDoor
