import Derived.Test.YtcjfdebjgaohlaaG14

/- The law's same. -/
namespace Go.Proofs.Ytcjfdebjgaohlaa
open Go.RowKit Go.Maps Go.ChangeMaps Go.MapKept
namespace Yu
open Jb Jm Jd Jw Jx Jn Je Jf Jg Jh Jk Jc Jl Jo Jq J1 J2 J3 J4 Jr J6 J9 Ya Yb Yc Yd Ye Yf Yg Yh Yi Yj Yk Yl Ym Yn Yo Yp Yq Yr Ys Yt

theorem enc_names (L : List En) : (nsL L).map Go.Proofs.encStr = (L.map fun e => e.name).map Value.string := by
  unfold nsL
  rw [List.map_map, List.map_map]
  refine List.map_congr_left fun e _ => ?_
  show Go.Proofs.encStr e.name.data.toList = Value.string e.name
  have h : Go.Proofs.encStr e.name.data.toList = Value.string (nm e.name.data.toList) := rfl
  rw [h, nm_name]
theorem nmv_map (L : List En) : nmv L = (L.map fun e => e.name).map Value.string := by
  unfold nmv
  rw [List.map_map]
  rfl
theorem list_both (V : Vw) (t : Dt) (m : MT V t) (hb : t.L.length ≤ 1000000000) (N : Nat) (hN : N ≤ 8796093022208) : ∃ ss : List ByteArray, (∀ s ∈ ss, s.size ≤ 64) ∧ ss.length ≤ t.L.length ∧
    (∀ w S g, DV w S g N V → Calls Try.prog 28 #[.pointer (some ⟨g, 0, none⟩)] w fun e w' => ∃ v, e = .returned v ∧ w'.ownsRow w.heap.size 9 1 v ss.length (ss.map Value.string) ∧ Below w.heap.size w w') ∧
    (∀ w T g, Wk w T g t → Calls Try.prog 33 #[.pointer (some ⟨g, 0, none⟩)] w fun e w' => ∃ v, e = .returned v ∧ w'.ownsRow w.heap.size 9 1 v ss.length (ss.map Value.string) ∧ Below w.heap.size w w') := by
  by_cases hd : V.down = true
  · refine ⟨[], fun s hs => by simp at hs, Nat.zero_le _, fun w S g h => ?_, fun w T g h => ?_⟩
    · exact (list_down w S g N V h hd).mono (by rintro e w' ⟨rfl, rfl⟩; exact ⟨_, rfl, ⟨rfl, .inl ⟨rfl, rfl⟩⟩, Below.refl _ _⟩)
    · exact (rlist_down w T g t h (by rw [← m.down]; exact hd) hb).mono (by rintro e w' ⟨rfl, rfl⟩; exact ⟨_, rfl, ⟨rfl, .inl ⟨rfl, rfl⟩⟩, Below.refl _ _⟩)
  have hd' : V.down = false := by simpa using hd
  have htd : t.down = false := by rw [← m.down]; exact hd'
  refine ⟨t.L.map fun e => e.name, fun s hs => ?_, by simp, fun w S g h => ?_, fun w T g h => ?_⟩
  · obtain ⟨e, he, rfl⟩ := List.mem_map.1 hs
    exact nm64 (m.nm e he)
  · have := list_up w S g N V h hd' hN (nsL t.L) (names_v m)
    rw [enc_names, show (nsL t.L).length = (t.L.map fun e => e.name).length by simp [nsL]] at this
    exact this
  · have := rlist_up w T g t h htd hb
    rw [nmv_map, show t.L.length = (t.L.map fun e => e.name).length by simp] at this
    exact this
set_option maxRecDepth 100000
set_option maxHeartbeats 2000000 in
theorem same8 (w : World) (S T : Nat → Prop) (g h N : Nat) (V : Vw) (t : Dt) (hV : DV w S g N V) (ht : Wk w T h t) (m : MT V t) (hb : t.L.length ≤ 1000000000) (hbd : sumL t.L ≤ 140737488355328) (hN : N ≤ 8796093022208) :
    Calls Try.prog 8 #[.pointer (some ⟨g, 0, none⟩), .pointer (some ⟨h, 0, none⟩)] w fun e w' => e = .returned (.bool true) ∧ Below w.heap.size w w' := by
  obtain ⟨ss, h64, hsl, LP, LD⟩ := list_both V t m hb N hN
  obtain ⟨n, hn⟩ : ∃ n, n = ss.length := ⟨_, rfl⟩
  have HW := Lib.hid (fun (y : World) (b : Below w.heap.size w y) => (show DV y S g N V ∧ Wk y T h t from ⟨hV.below b (Nat.le_refl _), ht.below b (Nat.le_refl _)⟩))
  have L1 := Lib.hid (LP w S g hV)
  have L2 := Lib.hid (fun y (b : Below w.heap.size w y) => LD y T h (HW.out y b).2)
  have D1 := Lib.hid (fun y (b : Below w.heap.size w y) => Down_c y S g N V (HW.out y b).1)
  have D2 := Lib.hid (fun y (b : Below w.heap.size w y) => (show Calls Try.prog 30 #[.pointer (some ⟨h, 0, none⟩)] y fun e w' => e = .returned (.bool V.down) ∧ w' = y from by rw [m.down]; exact down35 y h t (HW.out y b).2.cs))
  have U1 := Lib.hid (fun y (b : Below w.heap.size w y) => Used_c y S g N V (HW.out y b).1)
  have U2 := Lib.hid (fun y (b : Below w.heap.size w y) => (show Calls Try.prog 31 #[.pointer (some ⟨h, 0, none⟩)] y fun e w' => e = .returned (.int .i64 (V.used : Nat)) ∧ w' = y from by rw [m.used]; exact used36 y T h t (HW.out y b).2 hb hbd))
  have RD := Lib.hid (fun k (hk : k < n) => (show ∃ s, (ss.map Value.string)[k]? = some (.string s) ∧ ∃ (r : Nat) (bs : List Nat),
    (∀ y, Below w.heap.size w y → Calls Try.prog 26 #[.pointer (some ⟨g, 0, none⟩), .string s] y fun e w' => ∃ v, e = .returned (.tuple #[v, .int .i64 (r : Nat)]) ∧ w'.ownsRow y.heap.size 5 1 v bs.length (u8s bs) ∧ Below y.heap.size y w') ∧
    (∀ y, Below w.heap.size w y → Calls Try.prog 27 #[.pointer (some ⟨h, 0, none⟩), .string s] y fun e w' => ∃ v, e = .returned (.tuple #[v, .int .i64 (r : Nat)]) ∧ Src y T v bs ∧ w' = y) from by
      have hk' : k < ss.length := by omega
      refine ⟨ss[k], by simp [hk'], ?_⟩
      have := h64 ss[k] (List.getElem_mem _)
      obtain ⟨r, bs, a, b⟩ := read_both V t m ss[k] (by omega) hb hbd N
      exact ⟨r, bs, fun y hy => a y S g (HW.out y hy).1, fun y hy => b y T h (HW.out y hy).2⟩))
  have TX := Lib.hid (fun y B B' v1 v2 (h1 : y.ownsRow B 9 1 v1 n (ss.map Value.string)) (h2 : y.ownsRow B' 9 1 v2 n (ss.map Value.string)) => texts32 y B B' v1 v2 n ss h1 h2 (by omega))
  obtain ⟨dn, hdn⟩ : ∃ dn, dn = V.down := ⟨_, rfl⟩
  obtain ⟨us, hus⟩ : ∃ us, us = V.used := ⟨_, rfl⟩
  have hn9 : n ≤ 1000000000 := by omega
  rw [← hn] at L1 L2
  rw [← hdn] at D1 D2
  rw [← hus] at U1 U2
  clear hV ht m hb hbd hN h64 hsl LP LD hn hdn hus
  have BR := Lib.hid (Below.refl w.heap.size w)
  go_enter Try.func8, Try.ntmps8
  go_upto_region 2 with (go_at_call 28; refine L1.out.mono ?_; rintro e w1 ⟨v1, rfl, r1, b1⟩)
  have R1 := Lib.hid r1
  have B1 := Lib.hid b1
  clear r1 b1
  have beqd : (dn == dn) = true := by simp
  go_upto_region 4 with (first
    | (go_at_call 29; refine (D1.out _ B1.out).mono ?_; rintro e w1 ⟨rfl, rfl⟩)
    | (go_at_call 30; refine (D2.out _ B1.out).mono ?_; rintro e w1 ⟨rfl, rfl⟩)
    | (go_at_call 10; refine (U1.out _ B1.out).mono ?_; rintro e w1 ⟨rfl, rfl⟩)
    | (go_at_call 31; refine (U2.out _ B1.out).mono ?_; rintro e w1 ⟨rfl, rfl⟩)
    | (go_at_call 33; refine (L2.out _ B1.out).mono ?_; rintro e w2 ⟨v2, rfl, r2, b2⟩; have R2 := Lib.hid r2; have B2 := Lib.hid b2; have R1' := Lib.hid (own_below R1.out b2); clear r2 b2)
    | (go_at_call 32; refine (TX.out _ _ _ _ _ R1'.out R2.out).mono ?_; rintro e w3 ⟨rfl, b3⟩; have B3 := Lib.hid b3; clear b3))
  have b03 : Below w.heap.size w w3 := B1.out.trans ((B2.out.trans (B3.out.mono B2.out.size)).mono B1.out.size)
  have r3 := own_below R1'.out B3.out
  obtain ⟨_, r3⟩ := row9_at r3
  have B03 := Lib.hid b03
  clear b03
  rcases r3 with ⟨h0, a1, c1, hv1⟩ | ⟨hn0, q, c1, hv1, hc1, hk1⟩
  · subst hv1
    go_wp2_with fail
    refine wp_loop_rounds 1 ?_
    rw [rounds_succ]
    go_wp2_with fail
    go_ret
    exact ⟨rfl, B03.out⟩
  · subst hv1
    have HK := Lib.hid hk1
    have HQ := Lib.hid (show q < w3.heap.size from by
      obtain ⟨s, hs, _⟩ := RD.out 0 hn0
      have := HK.out 0 _ hs
      exact World.block_lt_of_cell? w3 ⟨q, 0, none⟩ this)
    clear hk1
    go_wp2_with fail
    go_loopw [34] (fun i wr => ∃ k : Nat, k ≤ n ∧ i = .int .i64 (k : Nat) ∧ Below w3.heap.size w3 wr) (fun i _ => n - (intOf i).toNat)
    case atStart => exact ⟨0, Nat.zero_le _, rfl, Below.refl _ _⟩
    case round =>
      obtain ⟨k, hk, rfl, hbl⟩ := hrel
      by_cases hkn : k < n
      · obtain ⟨s, hs, r, bs, RP, RQ⟩ := RD.out k hkn
        have xk := (hbl.cell (p := ⟨q, k, none⟩) HQ.out).trans (HK.out k _ hs)
        have b0 : Below w.heap.size w wr := B03.out.trans (hbl.mono B03.out.size)
        have RP := Lib.hid (RP wr b0)
        have RQ := Lib.hid (fun y (hy : Below wr.heap.size wr y) => RQ y (b0.trans (hy.mono b0.size)))
        have XK := Lib.hid (fun y (hy : Below wr.heap.size wr y) => (hy.cell (p := ⟨q, k, none⟩) (Nat.lt_of_lt_of_le HQ.out hbl.size)).trans xk)
        have HBL := Lib.hid hbl
        have hbq := beq_same (str bs)
        clear hs b0 hbl
        go_upto_region 9 with (first
          | (go_at_call 26; refine RP.out.mono ?_; rintro e wy ⟨va, rfl, ra, ba⟩; have RA := Lib.hid ra; have BA := Lib.hid ba; have xk2 := XK.out _ ba; clear ra ba)
          | (go_at_call 27; refine (RQ.out _ BA.out).mono ?_; rintro e wz ⟨vb, rfl, rb, hwz⟩; have CB := Lib.hid (conv_src rb); have CA := Lib.hid (conv_own RA.out); clear rb; subst hwz))
        have ca := CA.out
        have cb := CB.out
        go_wp2_with fail
        go_roundw
        case rel => exact ⟨k + 1, by omega, by go_num, HBL.out.trans (BA.out.mono HBL.out.size)⟩
        case measure => simp [intOf]; omega
      · go_wp2_with fail
        go_ret
        exact ⟨rfl, B03.out.trans (hbl.mono B03.out.size)⟩
end Yu
end Go.Proofs.Ytcjfdebjgaohlaa

/- Two disks side by side: a call on both, in either order. -/
namespace Go.Proofs.Ytcjfdebjgaohlaa
open Go.RowKit Go.Maps Go.ChangeMaps Go.MapKept
namespace Yv
open Jb Jm Jd Jw Jx Jn Je Jf Jg Jh Jk Jc Jl Jo Jq J1 J2 J3 J4 Jr J6 J9 Ya Yb Yc Yd Ye Yf Yg Yh Yi Yj Yk Yl Ym Yn Yo Yp Yq Yr Ys Yt Yu

structure Two (w : World) (S T : Nat → Prop) (g h N : Nat) (V : Vw) (t : Dt) : Prop where
  dv : DV w S g N V
  wk : Wk w T h t
  ap : ∀ k, S k → ¬ T k
  mt : MT V t
theorem Two.below {w w' : World} {S T : Nat → Prop} {g h N : Nat} {V : Vw} {t : Dt} (q : Two w S T g h N V t) (b : Below w.heap.size w w') : Two w' S T g h N V t :=
  ⟨q.dv.below b (Nat.le_refl _), q.wk.below b (Nat.le_refl _), q.ap, q.mt⟩
/-- What a call on both leaves: the two again, a files and u bytes more at most. -/
def Aft (w : World) (S T : Nat → Prop) (g h N' : Nat) (_ : Vw) (t : Dt) (a u : Nat) (w2 : World) : Prop :=
  ∃ S' T' V' t', Two w2 S' T' g h N' V' t' ∧ t'.L.length ≤ t.L.length + a ∧ sumL t'.L ≤ sumL t.L + u ∧ Chg w w2 (fun k => S k ∨ T k) ∧ (∀ k, S' k → New S w w2 k) ∧ (∀ k, T' k → New T w w2 k)
theorem new_apart {w w1 w2 : World} {S T : Nat → Prop} (ap : ∀ k, S k → ¬ T k) (hS : ∀ k, S k → k < w.heap.size) (hT : ∀ k, T k → k < w.heap.size) (h1 : w.heap.size ≤ w1.heap.size) : ∀ k, New S w w1 k → ¬ New T w1 w2 k := by
  intro k h1 h2
  rcases h1 with h1 | h1 <;> rcases h2 with h2 | h2
  · exact ap k h1 h2
  · have := hS k h1; omega
  · have := hT k h2; omega
  · omega
theorem sum_le {V V' : Vw} {t t' : Dt} (m : MT V t) (m' : MT V' t') (h : V'.used ≤ V.used) : sumL t'.L ≤ sumL t.L := by rw [← m.used, ← m'.used]; exact h
/-- The program's call first. -/
theorem both_P {w : World} {S T : Nat → Prop} {g h N N' : Nat} {V : Vw} {t : Dt} (q : Two w S T g h N V t) {fp fd : Nat} {args : Array Value} {r : Value} (b : Both fp fd args r V t N N') :
    Calls Try.prog fp (#[.pointer (some ⟨g, 0, none⟩)] ++ args) w fun e w1 => e = .returned r ∧ Chg w w1 S ∧ Calls Try.prog fd (#[.pointer (some ⟨h, 0, none⟩)] ++ args) w1 fun e w2 => e = .returned r ∧ Aft w S T g h N' V t 0 0 w2 ∧ Chg w1 w2 T := by
  obtain ⟨V', hu, P, D⟩ := b
  have hT : ∀ k, T k → k < w.heap.size := q.wk.lt
  have hS : ∀ k, S k → k < w.heap.size := fun k hk => q.dv.lt hk
  refine (P w S g q.dv).mono ?_
  rintro e w1 ⟨rfl, d1, c1⟩
  have k1 : Wk w1 T h t := q.wk.move c1.size fun k hk => c1.block k (hT k hk) fun e => q.ap k e hk
  refine ⟨rfl, c1, (D w1 T h k1).mono ?_⟩
  rintro e w2 ⟨rfl, ⟨t', m', k2, hl⟩, c2⟩
  have hap := new_apart (w2 := w2) q.ap hS hT c1.size
  refine ⟨rfl, ⟨New S w w1, New T w1 w2, V', t', ⟨d1.move c2.size (fun k hk hkl => c2.block k hkl fun e => hap k hk (.inl e)), k2, hap, m'⟩, by omega, by have := sum_le q.mt m' hu; omega, ?_, fun k hk => ?_, fun k hk => ?_⟩, c2⟩
  · exact (c1.imp fun k hk _ => .inl hk).trans (c2.imp fun k hk _ => .inr hk) (fun k hk _ => hk)
  · exact hk.imp (fun e => e) fun e => ⟨e.1, Nat.lt_of_lt_of_le e.2 c2.size⟩
  · exact hk.imp (fun e => e) fun e => ⟨Nat.le_trans c1.size e.1, e.2⟩
/-- The document's call first. -/
theorem both_D {w : World} {S T : Nat → Prop} {g h N N' : Nat} {V : Vw} {t : Dt} (q : Two w S T g h N V t) {fp fd : Nat} {args : Array Value} {r : Value} (b : Both fp fd args r V t N N') :
    Calls Try.prog fd (#[.pointer (some ⟨h, 0, none⟩)] ++ args) w fun e w1 => e = .returned r ∧ Chg w w1 T ∧ Calls Try.prog fp (#[.pointer (some ⟨g, 0, none⟩)] ++ args) w1 fun e w2 => e = .returned r ∧ Aft w S T g h N' V t 0 0 w2 ∧ Chg w1 w2 S := by
  obtain ⟨V', hu, P, D⟩ := b
  have hT : ∀ k, T k → k < w.heap.size := q.wk.lt
  have hS : ∀ k, S k → k < w.heap.size := fun k hk => q.dv.lt hk
  refine (D w T h q.wk).mono ?_
  rintro e w1 ⟨rfl, ⟨t', m', k2, hl⟩, c1⟩
  have d1 : DV w1 S g N V := q.dv.move c1.size fun k hk hkl => c1.block k hkl fun e => q.ap k hk e
  refine ⟨rfl, c1, (P w1 S g d1).mono ?_⟩
  rintro e w2 ⟨rfl, d2, c2⟩
  have hap := new_apart (S := T) (T := S) (w2 := w2) (fun k a b => q.ap k b a) hT hS c1.size
  refine ⟨rfl, ⟨New S w1 w2, New T w w1, V', t', ⟨d2, k2.move c2.size (fun k hk => c2.block k (k2.lt k hk) fun e => hap k hk (.inl e)), fun k a b => hap k b a, m'⟩, by omega, by have := sum_le q.mt m' hu; omega, ?_, fun k hk => ?_, fun k hk => ?_⟩, c2⟩
  · exact (c1.imp fun k hk _ => .inr hk).trans (c2.imp fun k hk _ => .inl hk) (fun k hk _ => hk)
  · exact hk.imp (fun e => e) fun e => ⟨Nat.le_trans c1.size e.1, e.2⟩
  · exact hk.imp (fun e => e) fun e => ⟨e.1, Nat.lt_of_lt_of_le e.2 c2.size⟩
end Yv
end Go.Proofs.Ytcjfdebjgaohlaa

/- The law's play: Sync, Rename, Remove, Cut. -/
namespace Go.Proofs.Ytcjfdebjgaohlaa
open Go.RowKit Go.Maps Go.ChangeMaps Go.MapKept
namespace Yw
open Jb Jm Jd Jw Jx Jn Je Jf Jg Jh Jk Jc Jl Jo Jq J1 J2 J3 J4 Jr J6 J9 Ya Yb Yc Yd Ye Yf Yg Yh Yi Yj Yk Yl Ym Yn Yo Yp Yq Yr Ys Yt Yu Yv

theorem Aft.lift {w w0 w2 : World} {S T : Nat → Prop} {g h N' : Nat} {V : Vw} {t : Dt} {a u : Nat} (b : Below w.heap.size w w0) (e : Aft w0 S T g h N' V t a u w2) : Aft w S T g h N' V t a u w2 := by
  obtain ⟨S', T', V', t', q, h1, h2, c, f1, f2⟩ := e
  refine ⟨S', T', V', t', q, h1, h2, ⟨c.os.trans b.os, c.tape.trans b.tape, c.output.trans b.output, Nat.le_trans b.size c.size, fun k hk hn => (c.block k (Nat.lt_of_lt_of_le hk b.size) hn).trans (b.block k hk)⟩, fun k hk => ?_, fun k hk => ?_⟩
  · exact (f1 k hk).imp (fun e => e) fun e => ⟨Nat.le_trans b.size e.1, e.2⟩
  · exact (f2 k hk).imp (fun e => e) fun e => ⟨Nat.le_trans b.size e.1, e.2⟩
theorem Aft.mono {w w2 : World} {S T : Nat → Prop} {g h N N' : Nat} {V : Vw} {t : Dt} {a u a' u' : Nat} (e : Aft w S T g h N V t a u w2) (hN : N ≤ N') (ha : a ≤ a') (hu : u ≤ u') : Aft w S T g h N' V t a' u' w2 := by
  obtain ⟨S', T', V', t', q, h1, h2, r⟩ := e
  exact ⟨S', T', V', t', ⟨q.dv.mono hN, q.wk, q.ap, q.mt⟩, by omega, by omega, r⟩
/-- The box of the call, behind one of the two. -/
def Bx (y : World) (b : Nat) (kd n : Int) (nm tn : ByteArray) (v : Value) : Prop :=
  y.cell? ⟨b, 0, none⟩ = some (.int .i64 kd) ∧ y.cell? ⟨b, 1, none⟩ = some (.int .i64 n) ∧ y.cell? ⟨b, 2, none⟩ = some (.string nm) ∧ y.cell? ⟨b, 3, none⟩ = some (.string tn) ∧ y.cell? ⟨b, 4, none⟩ = some v
theorem bx_of {y : World} {b : Nat} {kd n : Int} {nm tn : ByteArray} {v : Value} (z : y.heap[b]? = some (.cells #[.int .i64 kd, .int .i64 n, .string nm, .string tn, v] 31 (0, 0))) : Bx y b kd n nm tn v :=
  ⟨Go.Joins.cell_of_block z 0, Go.Joins.cell_of_block z 1, Go.Joins.cell_of_block z 2, Go.Joins.cell_of_block z 3, Go.Joins.cell_of_block z 4⟩
set_option maxRecDepth 100000
set_option maxHeartbeats 2000000 in
theorem play_sync (w : World) (S T : Nat → Prop) (g h N : Nat) (V : Vw) (t : Dt) (q : Two w S T g h N V t) (n : Int) (nm tn : ByteArray) (v : Value) (hs : nm.size ≤ 140737488355328) (hb : t.L.length ≤ 999999999) :
    Calls Try.prog 7 #[.pointer (some ⟨g, 0, none⟩), .pointer (some ⟨h, 0, none⟩), .agg #[.int .i64 2, .int .i64 n, .string nm, .string tn, v]] w fun e w' => e = .returned (.bool true) ∧ Aft w S T g h (N + 1) V t 1 0 w' := by
  obtain ⟨r, bo⟩ := sync_both V t q.mt nm hs (by omega) N
  have hS : ¬ S w.heap.size := fun e => Nat.lt_irrefl _ (q.dv.lt e)
  have hT : ¬ T w.heap.size := fun e => Nat.lt_irrefl _ (q.wk.lt _ e)
  have B0 : Below w.heap.size w (w.alloc (.cells #[.int .i64 2, .int .i64 n, .string nm, .string tn, v] 31)).drew := ((Below.refl _ _).alloc (Nat.le_refl _) _).drew
  have z0 := heap_alloc_new w (.cells #[.int .i64 2, .int .i64 n, .string nm, .string tn, v] 31)
  have ea : ∀ a b : Value, #[a] ++ #[b] = #[a, b] := fun _ _ => rfl
  have P1 := both_P (q.below B0) bo
  have D1 := both_D (q.below B0) bo
  simp only [ea] at P1 D1
  have P1 := Lib.hid P1
  have D1 := Lib.hid D1
  clear ea
  have HB := Lib.hid (fun y (X : Nat → Prop) (hX : ¬ X w.heap.size) (c : Chg (w.alloc (.cells #[.int .i64 2, .int .i64 n, .string nm, .string tn, v] 31)).drew y X) => bx_of (y := y) ((c.block w.heap.size (by simp) hX).trans z0))
  have FIN := Lib.hid (fun w2 (e : Aft (w.alloc (.cells #[.int .i64 2, .int .i64 n, .string nm, .string tn, v] 31)).drew S T g h N V t 0 0 w2) => Aft.mono (Aft.lift B0 e) (Nat.le_succ N) (Nat.zero_le 1) (Nat.le_refl 0))
  obtain ⟨x0, x1, x2, x3, x4⟩ := bx_of z0
  clear q bo z0 B0
  go_enter Try.func7, Try.ntmps7
  go_upto_region 8 with (fail)
  go_region_with (first
    | (go_at_call 11; refine G2.out.mono ?_; rintro e y2 ⟨rfl, e2, _⟩; have E2 := Lib.hid e2; clear e2)
    | (go_at_call 14; refine G2.out.mono ?_; rintro e y2 ⟨rfl, e2, _⟩; have E2 := Lib.hid e2; clear e2)
    | (go_at_call 11; refine P1.out.mono ?_; rintro e y1 ⟨rfl, c1, g2⟩; have G2 := Lib.hid g2; obtain ⟨y10, y11, y12, y13, y14⟩ := HB.out y1 S hS c1; clear g2 c1)
    | (go_at_call 14; refine D1.out.mono ?_; rintro e y1 ⟨rfl, c1, g2⟩; have G2 := Lib.hid g2; obtain ⟨y10, y11, y12, y13, y14⟩ := HB.out y1 T hT c1; clear g2 c1))
  all_goals
    go_wp2_with fail
    go_ret
    exact ⟨rfl, FIN.out _ E2.out⟩
end Yw
end Go.Proofs.Ytcjfdebjgaohlaa
