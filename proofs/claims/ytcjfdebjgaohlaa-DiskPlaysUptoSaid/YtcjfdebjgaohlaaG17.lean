import Derived.Test.YtcjfdebjgaohlaaG15
import Derived.Deep.RegionLaw

/- The law's play: SetRoom, SetFuse, a call of no kind. -/
namespace Go.Proofs.Ytcjfdebjgaohlaa
open Go.RowKit Go.Maps Go.ChangeMaps Go.MapKept
namespace Za
open Jb Jm Jd Jw Jx Jn Je Jf Jg Jh Jk Jc Jl Jo Jq J1 J2 J3 J4 Jr J6 J9 Ya Yb Yc Yd Ye Yf Yg Yh Yi Yj Yk Yl Ym Yn Yo Yp Yq Yr Ys Yt Yu Yv Yw

set_option maxRecDepth 100000
set_option maxHeartbeats 2000000 in
theorem play_room (w : World) (S T : Nat → Prop) (g h N : Nat) (V : Vw) (t : Dt) (q : Two w S T g h N V t) (n : Int) (hn : -9223372036854775808 ≤ n ∧ n ≤ 9223372036854775807) (nm tn : ByteArray) (v : Value) :
    Calls Try.prog 7 #[.pointer (some ⟨g, 0, none⟩), .pointer (some ⟨h, 0, none⟩), .agg #[.int .i64 6, .int .i64 n, .string nm, .string tn, v]] w fun e w' => e = .returned (.bool true) ∧ Aft w S T g h (N + 1) V t 1 0 w' := by
  have bo := room_both V t q.mt n hn N
  have hS : ¬ S w.heap.size := fun e => Nat.lt_irrefl _ (q.dv.lt e)
  have B0 : Below w.heap.size w (w.alloc (.cells #[.int .i64 6, .int .i64 n, .string nm, .string tn, v] 31)) := (Below.refl _ _).alloc (Nat.le_refl _) _
  have z0 := heap_alloc_new w (.cells #[.int .i64 6, .int .i64 n, .string nm, .string tn, v] 31)
  have ea : ∀ a b : Value, #[a] ++ #[b] = #[a, b] := fun _ _ => rfl
  have P1 := both_P (q.below B0) bo
  simp only [ea] at P1
  have P1 := Lib.hid P1
  have HB := Lib.hid (fun y (c : Chg (w.alloc (.cells #[.int .i64 6, .int .i64 n, .string nm, .string tn, v] 31)) y S) => bx_of (y := y) ((c.block w.heap.size (by simp) hS).trans z0))
  have FIN := Lib.hid (fun w2 (e : Aft (w.alloc (.cells #[.int .i64 6, .int .i64 n, .string nm, .string tn, v] 31)) S T g h N V t 0 0 w2) => Aft.mono (Aft.lift B0 e) (Nat.le_succ N) (Nat.zero_le 1) (Nat.le_refl 0))
  obtain ⟨x0, x1, x2, x3, x4⟩ := bx_of z0
  clear q bo z0 B0 ea hn
  go_enter Try.func7, Try.ntmps7
  go_wp2_with (first
    | (go_at_call 12; refine P1.out.mono ?_; rintro e y1 ⟨rfl, c1, g2⟩; have G2 := Lib.hid g2; obtain ⟨y10, y11, y12, y13, y14⟩ := HB.out y1 c1; clear g2 c1)
    | (go_at_call 21; refine G2.out.mono ?_; rintro e y2 ⟨rfl, e2, _⟩; have E2 := Lib.hid e2; clear e2))
  go_ret
  exact ⟨rfl, FIN.out _ E2.out⟩
set_option maxHeartbeats 2000000 in
theorem play_fuse (w : World) (S T : Nat → Prop) (g h N : Nat) (V : Vw) (t : Dt) (q : Two w S T g h N V t) (n : Int) (hn : -9223372036854775808 ≤ n ∧ n ≤ 9223372036854775807) (nm tn : ByteArray) (v : Value) :
    Calls Try.prog 7 #[.pointer (some ⟨g, 0, none⟩), .pointer (some ⟨h, 0, none⟩), .agg #[.int .i64 7, .int .i64 n, .string nm, .string tn, v]] w fun e w' => e = .returned (.bool true) ∧ Aft w S T g h (N + 1) V t 1 0 w' := by
  have bo := fuse_both V t q.mt n hn N
  have hS : ¬ S w.heap.size := fun e => Nat.lt_irrefl _ (q.dv.lt e)
  have B0 : Below w.heap.size w (w.alloc (.cells #[.int .i64 7, .int .i64 n, .string nm, .string tn, v] 31)) := (Below.refl _ _).alloc (Nat.le_refl _) _
  have z0 := heap_alloc_new w (.cells #[.int .i64 7, .int .i64 n, .string nm, .string tn, v] 31)
  have ea : ∀ a b : Value, #[a] ++ #[b] = #[a, b] := fun _ _ => rfl
  have P1 := both_P (q.below B0) bo
  simp only [ea] at P1
  have P1 := Lib.hid P1
  have HB := Lib.hid (fun y (c : Chg (w.alloc (.cells #[.int .i64 7, .int .i64 n, .string nm, .string tn, v] 31)) y S) => bx_of (y := y) ((c.block w.heap.size (by simp) hS).trans z0))
  have FIN := Lib.hid (fun w2 (e : Aft (w.alloc (.cells #[.int .i64 7, .int .i64 n, .string nm, .string tn, v] 31)) S T g h N V t 0 0 w2) => Aft.mono (Aft.lift B0 e) (Nat.le_succ N) (Nat.zero_le 1) (Nat.le_refl 0))
  obtain ⟨x0, x1, x2, x3, x4⟩ := bx_of z0
  clear q bo z0 B0 ea hn
  go_enter Try.func7, Try.ntmps7
  go_wp2_with (first
    | (go_at_call 22; refine P1.out.mono ?_; rintro e y1 ⟨rfl, c1, g2⟩; have G2 := Lib.hid g2; obtain ⟨y10, y11, y12, y13, y14⟩ := HB.out y1 c1; clear g2 c1)
    | (go_at_call 23; refine G2.out.mono ?_; rintro e y2 ⟨rfl, e2, _⟩; have E2 := Lib.hid e2; clear e2))
  go_ret
  exact ⟨rfl, FIN.out _ E2.out⟩
set_option maxHeartbeats 2000000 in
theorem play_none (w : World) (S T : Nat → Prop) (g h N : Nat) (V : Vw) (t : Dt) (q : Two w S T g h N V t) (kd n : Int) (hk : kd < 1 ∨ 9 < kd) (nm tn : ByteArray) (v : Value) :
    Calls Try.prog 7 #[.pointer (some ⟨g, 0, none⟩), .pointer (some ⟨h, 0, none⟩), .agg #[.int .i64 kd, .int .i64 n, .string nm, .string tn, v]] w fun e w' => e = .returned (.bool true) ∧ Aft w S T g h (N + 1) V t 1 0 w' := by
  have B0 : Below w.heap.size w (w.alloc (.cells #[.int .i64 kd, .int .i64 n, .string nm, .string tn, v] 31)) := (Below.refl _ _).alloc (Nat.le_refl _) _
  have z0 := heap_alloc_new w (.cells #[.int .i64 kd, .int .i64 n, .string nm, .string tn, v] 31)
  have FIN := Lib.hid (show Aft w S T g h (N + 1) V t 1 0 (w.alloc (.cells #[.int .i64 kd, .int .i64 n, .string nm, .string tn, v] 31)) from by
    have q' := q.below B0
    have e : Aft w S T g h N V t 0 0 (w.alloc (.cells #[.int .i64 kd, .int .i64 n, .string nm, .string tn, v] 31)) := Aft.lift B0 ⟨S, T, V, t, q', by omega, by omega, Chg.refl _ _, fun k hk => .inl hk, fun k hk => .inl hk⟩
    exact Aft.mono e (Nat.le_succ N) (Nat.zero_le 1) (Nat.le_refl 0))
  obtain ⟨x0, x1, x2, x3, x4⟩ := bx_of z0
  have n1 : (kd == 1) = false := by rw [beq_eq_false_iff_ne]; omega
  have n2 : (kd == 2) = false := by rw [beq_eq_false_iff_ne]; omega
  have n3 : (kd == 3) = false := by rw [beq_eq_false_iff_ne]; omega
  have n4 : (kd == 4) = false := by rw [beq_eq_false_iff_ne]; omega
  have n5 : (kd == 5) = false := by rw [beq_eq_false_iff_ne]; omega
  have n6 : (kd == 6) = false := by rw [beq_eq_false_iff_ne]; omega
  have n7 : (kd == 7) = false := by rw [beq_eq_false_iff_ne]; omega
  have n8 : (kd == 8) = false := by rw [beq_eq_false_iff_ne]; omega
  have n9 : (kd == 9) = false := by rw [beq_eq_false_iff_ne]; omega
  clear q z0 B0 hk
  go_enter Try.func7, Try.ntmps7
  go_wp2_with fail
  go_ret
  exact ⟨rfl, FIN.out⟩
end Za
end Go.Proofs.Ytcjfdebjgaohlaa

/- The law's play: Restart, Read. -/
namespace Go.Proofs.Ytcjfdebjgaohlaa
open Go.RowKit Go.Maps Go.ChangeMaps Go.MapKept
namespace Zb
open Jb Jm Jd Jw Jx Jn Je Jf Jg Jh Jk Jc Jl Jo Jq J1 J2 J3 J4 Jr J6 J9 Ya Yb Yc Yd Ye Yf Yg Yh Yi Yj Yk Yl Ym Yn Yo Yp Yq Yr Ys Yt Yu Yv Yw

theorem rest_P {w : World} {S T : Nat → Prop} {g h N : Nat} {V : Vw} {t : Dt} (q : Two w S T g h N V t) (v : Value) (ch : List Nat) (R : Nat → Prop) (hs : Src w R v ch) (hR : ∀ k, R k → ¬ S k ∧ ¬ T k ∧ k < w.heap.size) (hby : ∀ x ∈ ch, x < 256) (hlc : ch.length ≤ 140737488355328)
    (hb : t.L.length ≤ 1000000000) (hbd : sumL t.L ≤ 140737488355328) (hN : N ≤ 8796093022208) :
    Calls Try.prog 24 #[.pointer (some ⟨g, 0, none⟩), v] w fun e w1 => e = .returned (.tuple #[]) ∧ Chg w w1 S ∧ Calls Try.prog 25 #[.pointer (some ⟨h, 0, none⟩), v] w1 fun e w2 => e = .returned (.tuple #[]) ∧ Aft w S T g h N V t 0 0 w2 := by
  obtain ⟨V', hu, P, D⟩ := restart_both V t q.mt ch hby hlc hb hbd N hN
  have hT : ∀ k, T k → k < w.heap.size := q.wk.lt
  have hS : ∀ k, S k → k < w.heap.size := fun k hk => q.dv.lt hk
  refine (P w S g v R q.dv (fun k hk => ⟨(hR k hk).1, (hR k hk).2.2⟩) hs).mono ?_
  rintro e w1 ⟨rfl, d1, c1⟩
  have k1 : Wk w1 T h t := q.wk.move c1.size fun k hk => c1.block k (hT k hk) fun e => q.ap k e hk
  have hs1 : Src w1 R v ch := hs.move fun k hk hkl => c1.block k hkl (hR k hk).1
  refine ⟨rfl, c1, (D w1 T h v R k1 (fun k hk => ⟨(hR k hk).2.1, Nat.lt_of_lt_of_le (hR k hk).2.2 c1.size⟩) hs1).mono ?_⟩
  rintro e w2 ⟨rfl, ⟨t', m', k2, hl⟩, c2⟩
  have hap := new_apart (w2 := w2) q.ap hS hT c1.size
  refine ⟨rfl, ⟨New S w w1, New T w1 w2, V', t', ⟨d1.move c2.size (fun k hk hkl => c2.block k hkl fun e => hap k hk (.inl e)), k2, hap, m'⟩, by omega, by have := sum_le q.mt m' hu; omega, ?_, fun k hk => ?_, fun k hk => ?_⟩⟩
  · exact (c1.imp fun k hk _ => .inl hk).trans (c2.imp fun k hk _ => .inr hk) (fun k hk _ => hk)
  · exact hk.imp (fun e => e) fun e => ⟨e.1, Nat.lt_of_lt_of_le e.2 c2.size⟩
  · exact hk.imp (fun e => e) fun e => ⟨Nat.le_trans c1.size e.1, e.2⟩
set_option maxRecDepth 100000
set_option maxHeartbeats 2000000 in
theorem play_restart (w : World) (S T : Nat → Prop) (g h N : Nat) (V : Vw) (t : Dt) (q : Two w S T g h N V t) (n : Int) (nm tn : ByteArray) (v : Value) (ch : List Nat) (R : Nat → Prop) (hs : Src w R v ch) (hR : ∀ k, R k → ¬ S k ∧ ¬ T k ∧ k < w.heap.size) (hby : ∀ x ∈ ch, x < 256) (hlc : ch.length ≤ 140737488355328)
    (hb : t.L.length ≤ 1000000000) (hbd : sumL t.L ≤ 140737488355328) (hN : N ≤ 8796093022208) :
    Calls Try.prog 7 #[.pointer (some ⟨g, 0, none⟩), .pointer (some ⟨h, 0, none⟩), .agg #[.int .i64 8, .int .i64 n, .string nm, .string tn, v]] w fun e w' => e = .returned (.bool true) ∧ Aft w S T g h (N + 1) V t 1 0 w' := by
  have hS : ¬ S w.heap.size := fun e => Nat.lt_irrefl _ (q.dv.lt e)
  obtain ⟨va, vc, hvf⟩ := hs.forms
  obtain ⟨l, hl⟩ : ∃ l, l = ch.length := ⟨_, rfl⟩
  rw [← hl] at hvf
  subst hvf
  have B0 : Below w.heap.size w (w.alloc (.cells #[.int .i64 8, .int .i64 n, .string nm, .string tn, .slice va l vc] 31)) := (Below.refl _ _).alloc (Nat.le_refl _) _
  have z0 := heap_alloc_new w (.cells #[.int .i64 8, .int .i64 n, .string nm, .string tn, .slice va l vc] 31)
  have P1 := Lib.hid (rest_P (q.below B0) (.slice va l vc) ch R (hs.below B0 fun k hk => (hR k hk).2.2) (fun k hk => ⟨(hR k hk).1, (hR k hk).2.1, Nat.lt_of_lt_of_le (hR k hk).2.2 B0.size⟩) hby hlc hb hbd hN)
  have HB := Lib.hid (fun y (c : Chg (w.alloc (.cells #[.int .i64 8, .int .i64 n, .string nm, .string tn, .slice va l vc] 31)) y S) => bx_of (y := y) ((c.block w.heap.size (by simp) hS).trans z0))
  have FIN := Lib.hid (fun w2 (e : Aft (w.alloc (.cells #[.int .i64 8, .int .i64 n, .string nm, .string tn, .slice va l vc] 31)) S T g h N V t 0 0 w2) => Aft.mono (Aft.lift B0 e) (Nat.le_succ N) (Nat.zero_le 1) (Nat.le_refl 0))
  obtain ⟨x0, x1, x2, x3, x4⟩ := bx_of z0
  clear q z0 B0 hs hR hby hlc hb hbd hN hl
  go_enter Try.func7, Try.ntmps7
  go_wp2_with (first
    | (go_at_call 24; refine P1.out.mono ?_; rintro e y1 ⟨rfl, c1, g2⟩; have G2 := Lib.hid g2; obtain ⟨y10, y11, y12, y13, y14⟩ := HB.out y1 c1; clear g2 c1)
    | (go_at_call 25; refine G2.out.mono ?_; rintro e y2 ⟨rfl, e2⟩; have E2 := Lib.hid e2; clear e2))
  go_ret
  exact ⟨rfl, FIN.out _ E2.out⟩
set_option maxHeartbeats 2000000 in
theorem play_read (w : World) (S T : Nat → Prop) (g h N : Nat) (V : Vw) (t : Dt) (q : Two w S T g h N V t) (n : Int) (nm tn : ByteArray) (v : Value) (hs : nm.size ≤ 140737488355328) (hb : t.L.length ≤ 1000000000) (hbd : sumL t.L ≤ 140737488355328) :
    Calls Try.prog 7 #[.pointer (some ⟨g, 0, none⟩), .pointer (some ⟨h, 0, none⟩), .agg #[.int .i64 9, .int .i64 n, .string nm, .string tn, v]] w fun e w' => e = .returned (.bool true) ∧ Aft w S T g h (N + 1) V t 1 0 w' := by
  obtain ⟨r, bs, P, D⟩ := read_both V t q.mt nm hs hb hbd N
  have B0 : Below w.heap.size w (w.alloc (.cells #[.int .i64 9, .int .i64 n, .string nm, .string tn, v] 31)) := (Below.refl _ _).alloc (Nat.le_refl _) _
  have z0 := heap_alloc_new w (.cells #[.int .i64 9, .int .i64 n, .string nm, .string tn, v] 31)
  have P1 := Lib.hid (P _ S g (q.below B0).dv)
  have HB := Lib.hid (fun y (b : Below (w.alloc (.cells #[.int .i64 9, .int .i64 n, .string nm, .string tn, v] 31)).heap.size (w.alloc (.cells #[.int .i64 9, .int .i64 n, .string nm, .string tn, v] 31)) y) => (show Bx y w.heap.size 9 n nm tn v ∧ Wk y T h t from ⟨bx_of ((b.block w.heap.size (by simp)).trans z0), ((q.below B0).below b).wk⟩))
  have DD := Lib.hid (fun y (k : Wk y T h t) => D y T h k)
  have FIN := Lib.hid (fun y (b : Below (w.alloc (.cells #[.int .i64 9, .int .i64 n, .string nm, .string tn, v] 31)).heap.size (w.alloc (.cells #[.int .i64 9, .int .i64 n, .string nm, .string tn, v] 31)) y) => (show Aft w S T g h (N + 1) V t 1 0 y from by
    have e : Aft w S T g h N V t 0 0 y := Aft.lift (B0.trans (b.mono B0.size)) ⟨S, T, V, t, (q.below B0).below b, by omega, by omega, Chg.refl _ _, fun k hk => .inl hk, fun k hk => .inl hk⟩
    exact Aft.mono e (Nat.le_succ N) (Nat.zero_le 1) (Nat.le_refl 0)))
  have hbq := beq_same (str bs)
  obtain ⟨x0, x1, x2, x3, x4⟩ := bx_of z0
  clear q z0 B0 hs hb hbd P D
  go_enter Try.func7, Try.ntmps7
  go_upto_region 27 with (first
    | (go_at_call 26; refine P1.out.mono ?_; rintro e y1 ⟨va, rfl, ra, ba⟩; have RA := Lib.hid ra; have BA := Lib.hid ba; obtain ⟨⟨y10, y11, y12, y13, y14⟩, wk1⟩ := HB.out y1 ba; have WK1 := Lib.hid wk1; clear ra ba wk1)
    | (go_at_call 27; refine (DD.out _ WK1.out).mono ?_; rintro e y2 ⟨vb, rfl, rb, hy2⟩; have CB := Lib.hid (conv_src rb); have CA := Lib.hid (conv_own RA.out); clear rb; subst hy2))
  have ca := CA.out
  have cb := CB.out
  go_wp2_with fail
  go_ret
  exact ⟨rfl, FIN.out _ BA.out⟩
end Zb
end Go.Proofs.Ytcjfdebjgaohlaa

/- The law's play: Append. -/
namespace Go.Proofs.Ytcjfdebjgaohlaa
open Go.RowKit Go.Maps Go.ChangeMaps Go.MapKept
namespace Zc
open Jb Jm Jd Jw Jx Jn Je Jf Jg Jh Jk Jc Jl Jo Jq J1 J2 J3 J4 Jr J6 J9 Ya Yb Yc Yd Ye Yf Yg Yh Yi Yj Yk Yl Ym Yn Yo Yp Yq Yr Ys Yt Yu Yv Yw

theorem nil_cap {w : World} {B n : Nat} {v : Value} {xs : List Value} (o : w.ownsRow B 5 1 v n xs) : ∀ c, v = .slice none n c → c = 0 := by
  intro c e
  rcases o with ⟨_, ⟨e', _⟩ | ⟨g', c'', cur, e', _⟩⟩
  · rw [e'] at e; injection e with _ _ e3; exact e3.symm
  · rw [e'] at e; cases e
theorem app_P (V : Vw) (t : Dt) (m : MT V t) (nm : ByteArray) (bs : List Nat) (hnm : nm.size ≤ 140737488355328) (hby : ∀ x ∈ bs, x < 256) (hb : t.L.length ≤ 999999999) (hbd : sumL t.L + bs.length ≤ 140737488355328) (N : Nat) (hN : N ≤ 140737488353000) : ∃ ra rb : Nat,
    ∀ (w : World) (S T : Nat → Prop) (g h : Nat) (_ : Two w S T g h N V t) (v' v : Value) (R' R : Nat → Prop), Src w R' v' bs → (∀ k, R' k → ¬ S k) → (∀ c, v' = .slice none bs.length c → c = 0) → Src w R v bs → (∀ k, R k → ¬ S k ∧ ¬ T k ∧ k < w.heap.size) → (∀ c, v = .slice none bs.length c → c = 0) →
    Calls Try.prog 9 #[.pointer (some ⟨g, 0, none⟩), .string nm, v'] w fun e w1 => e = .returned (.tuple #[.int .i64 (ra : Nat), .int .i64 (rb : Nat)]) ∧ Chg w w1 S ∧
      Calls Try.prog 13 #[.pointer (some ⟨h, 0, none⟩), .string nm, v] w1 fun e w2 => e = .returned (.tuple #[.int .i64 (ra : Nat), .int .i64 (rb : Nat)]) ∧ Aft w S T g h (N + 1) V t 1 bs.length w2 := by
  obtain ⟨ra, rb, V', P, D⟩ := append_both V t m nm bs hnm hby hb hbd N hN
  refine ⟨ra, rb, fun w S T g h q v' v R' R hs' hR' hc' hs hR hc => ?_⟩
  have hT : ∀ k, T k → k < w.heap.size := q.wk.lt
  have hS : ∀ k, S k → k < w.heap.size := fun k hk => q.dv.lt hk
  refine (P w S g v' R' q.dv hR' hs' hc').mono ?_
  rintro e w1 ⟨rfl, d1, c1⟩
  have k1 : Wk w1 T h t := q.wk.move c1.size fun k hk => c1.block k (hT k hk) fun e => q.ap k e hk
  have hs1 : Src w1 R v bs := hs.move fun k hk hkl => c1.block k hkl (hR k hk).1
  refine ⟨rfl, c1, (D w1 T h v R k1 (fun k hk => ⟨(hR k hk).2.1, Nat.lt_of_lt_of_le (hR k hk).2.2 c1.size⟩) hs1 hc).mono ?_⟩
  rintro e w2 ⟨rfl, ⟨t', m', k2, hl, hu⟩, c2⟩
  have hap := new_apart (w2 := w2) q.ap hS hT c1.size
  refine ⟨rfl, ⟨New S w w1, New T w1 w2, V', t', ⟨d1.move c2.size (fun k hk hkl => c2.block k hkl fun e => hap k hk (.inl e)), k2, hap, m'⟩, hl, hu, ?_, fun k hk => ?_, fun k hk => ?_⟩⟩
  · exact (c1.imp fun k hk _ => .inl hk).trans (c2.imp fun k hk _ => .inr hk) (fun k hk _ => hk)
  · exact hk.imp (fun e => e) fun e => ⟨e.1, Nat.lt_of_lt_of_le e.2 c2.size⟩
  · exact hk.imp (fun e => e) fun e => ⟨Nat.le_trans c1.size e.1, e.2⟩
set_option maxRecDepth 100000
set_option maxHeartbeats 4000000 in
theorem play_append (w : World) (S T : Nat → Prop) (g h N : Nat) (V : Vw) (t : Dt) (q : Two w S T g h N V t) (n : Int) (nm tn : ByteArray) (v : Value) (bs : List Nat) (R : Nat → Prop) (hs : Src w R v bs) (hR : ∀ k, R k → ¬ S k ∧ ¬ T k ∧ k < w.heap.size) (hc : ∀ c, v = .slice none bs.length c → c = 0) (hby : ∀ x ∈ bs, x < 256)
    (hnm : nm.size ≤ 140737488355328) (hb : t.L.length ≤ 999999999) (hbd : sumL t.L + bs.length ≤ 140737488355328) (hN : N ≤ 8796093022208) :
    Calls Try.prog 7 #[.pointer (some ⟨g, 0, none⟩), .pointer (some ⟨h, 0, none⟩), .agg #[.int .i64 1, .int .i64 n, .string nm, .string tn, v]] w fun e w' => e = .returned (.bool true) ∧ Aft w S T g h (N + 1) V t 1 bs.length w' := by
  obtain ⟨ra, rb, AP⟩ := app_P V t q.mt nm bs hnm hby hb hbd N (by omega)
  have hS : ¬ S w.heap.size := fun e => Nat.lt_irrefl _ (q.dv.lt e)
  obtain ⟨va, vc, hvf⟩ := hs.forms
  obtain ⟨l, hl⟩ : ∃ l, l = bs.length := ⟨_, rfl⟩
  rw [← hl] at hvf
  subst hvf
  obtain ⟨y0, hy0⟩ : ∃ y0, y0 = w.alloc (.cells #[.int .i64 1, .int .i64 n, .string nm, .string tn, .slice va l vc] 31) := ⟨_, rfl⟩
  have B0 : Below w.heap.size w y0 := by rw [hy0]; exact (Below.refl _ _).alloc (Nat.le_refl _) _
  have s0 : w.heap.size < y0.heap.size := by rw [hy0]; simp
  have z0 : y0.heap[w.heap.size]? = some (.cells #[.int .i64 1, .int .i64 n, .string nm, .string tn, .slice va l vc] 31 (0, 0)) := by rw [hy0]; exact heap_alloc_new _ _
  have q0 := q.below B0
  have hs0 : Src y0 R (.slice va l vc) bs := hs.below B0 fun k hk => (hR k hk).2.2
  have HB := Lib.hid (fun y (b : Below y0.heap.size y0 y) => bx_of (y := y) ((b.block w.heap.size s0).trans z0))
  have APR : Hid (∀ ty, ∃ v' w', (Builtin.append_ #[29, 29] ty #[.slice (some ⟨y0.heap.size, 0, none⟩) 0 0, .slice va l vc]).run Try.prog (y0.alloc (.cells #[] 5)).drew = .ok v' w' ∧ Bn y0 bs v' w') := Lib.hid fun ty => by
    have r0 := Bn.fresh (w2 := y0) (Below.refl _ _)
    obtain ⟨v', w', x1, x2⟩ := Bn.append (R := R) (ad := va) (c := vc) (bs := bs) r0 (by rw [← hl]; exact hs0.move fun k hk hkl => r0.2.1.block k hkl) bs.length (Nat.le_refl _) (fun e => hc vc (by rw [e, hl])) (by show 0 + _ ≤ _; omega) ty
    rw [List.nil_append, List.take_length] at x2
    rw [← hl] at x1
    exact ⟨v', w', x1, x2⟩
  have CALL := Lib.hid (fun v' w3 (r : Bn y0 bs v' w3) => AP w3 S T g h (q0.below r.2.1) v' (.slice va l vc) _ R (src_own r.1) (fun k hk e => by have := (r.2.2.1 k hk.2).1; have := q.dv.lt e; omega) (nil_cap r.1) (hs0.move fun k hk hkl => r.2.1.block k hkl) (fun k hk => ⟨(hR k hk).1, (hR k hk).2.1, by have := (hR k hk).2.2; have := r.2.1.size; omega⟩) (fun c e => hc c (by rw [← e])))
  have HB2 := Lib.hid (fun v' w3 y (r : Bn y0 bs v' w3) (c : Chg w3 y S) => bx_of (y := y) ((c.block w.heap.size (by have := r.2.1.size; omega) hS).trans ((r.2.1.block w.heap.size s0).trans z0)))
  have FIN := Lib.hid (fun v' w3 w2 (r : Bn y0 bs v' w3) (e : Aft w3 S T g h (N + 1) V t 1 bs.length w2) => (show Aft w S T g h (N + 1) V t 1 bs.length w2 from Aft.lift (B0.trans (r.2.1.mono B0.size)) e))
  obtain ⟨x0, x1, x2, x3, x4⟩ := bx_of z0
  obtain ⟨a0, a1, a2, a3, a4⟩ := HB.out _ ((Below.refl y0.heap.size y0).alloc (Nat.le_refl _) (.cells #[] 5))
  have HY0 := Lib.hid hy0
  clear q z0 B0 hs hR hby hb hbd hN hc hnm AP q0 hs0 hy0 s0 hl
  go_enter Try.func7, Try.ntmps7
  go_upto_region 4 with (fail)
  rw [← HY0.out]
  go_region_law (first
    | (refine step_append rfl (.tmp 25) (.tmp 27) 29 rfl (.slice (some ⟨y0.heap.size, 0, none⟩) 0 0) (.slice va l vc) (by simp [Act.eval]) (by simp [Act.eval]) (Bn y0 bs) APR.out ?_; intro v' w3 r3; have R3 := Lib.hid r3; obtain ⟨b0, b1, b2, b3, b4⟩ := HB.out w3 r3.2.1; clear r3)
    | (go_simp; go_at_call 9; refine (CALL.out _ _ R3.out).mono ?_; rintro e y1 ⟨rfl, c1, g2⟩; have G2 := Lib.hid g2; obtain ⟨c10, c11, c12, c13, c14⟩ := HB2.out _ _ _ R3.out c1; clear c1 g2))
  all_goals
    go_wp2_with (go_at_call 13; refine G2.out.mono ?_; rintro e y2 ⟨rfl, e2⟩; have E2 := Lib.hid e2; clear e2)
    go_ret
    exact ⟨rfl, FIN.out _ _ _ R3.out E2.out⟩
end Zc
end Go.Proofs.Ytcjfdebjgaohlaa
