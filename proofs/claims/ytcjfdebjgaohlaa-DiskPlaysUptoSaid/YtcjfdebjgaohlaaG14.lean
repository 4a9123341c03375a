import Derived.Test.YtcjfdebjgaohlaaG13
import Derived.Test.YtcjfdebjgaohlaaG12

/- Append, SetRoom, SetFuse, Restart of both disks. -/
namespace Go.Proofs.Ytcjfdebjgaohlaa
open Go.RowKit Go.Maps Go.ChangeMaps Go.MapKept
namespace Ys
open Jb Jm Jd Jw Jx Jn Je Jf Jg Jh Jk Jc Jl Jo Jq J1 J2 J3 J4 Jr J6 J9 Ya Yb Yc Yd Ye Yf Yg Yh Yi Yj Yk Yl Yn Yo Yp Yq Yr

/-- Both calls answer r from what they are given, and then tell one thing again. -/
theorem append_both (V : Vw) (t : Dt) (m : MT V t) (s : ByteArray) (bs : List Nat) (hs : s.size ≤ 140737488355328) (hby : ∀ x ∈ bs, x < 256) (hb : t.L.length ≤ 999999999) (hbd : sumL t.L + bs.length ≤ 140737488355328) (N : Nat) (hN : N ≤ 140737488353000) : ∃ (ra rb : Nat) (V' : Vw),
    (∀ w S g v R, DV w S g N V → (∀ k, R k → ¬ S k) → Src w R v bs → (∀ c, v = .slice none bs.length c → c = 0) → Calls Try.prog 9 #[.pointer (some ⟨g, 0, none⟩), .string s, v] w fun e w' => e = .returned (.tuple #[.int .i64 (ra : Nat), .int .i64 (rb : Nat)]) ∧ DV w' (New S w w') g (N + 1) V' ∧ Chg w w' S) ∧
    (∀ w T g v R, Wk w T g t → (∀ k, R k → ¬ T k ∧ k < w.heap.size) → Src w R v bs → (∀ c, v = .slice none bs.length c → c = 0) → Calls Try.prog 13 #[.pointer (some ⟨g, 0, none⟩), .string s, v] w fun e w' => e = .returned (.tuple #[.int .i64 (ra : Nat), .int .i64 (rb : Nat)]) ∧ (∃ t', MT V' t' ∧ Wk w' (New T w w') g t' ∧ t'.L.length ≤ t.L.length + 1 ∧ sumL t'.L ≤ sumL t.L + bs.length) ∧ Chg w w' T) := by
  have hold : (old V s).1.length ≤ sumL t.L := by
    unfold old
    obtain ⟨A, _, ⟨_, hF⟩ | ⟨hl, _, hF⟩⟩ := m.find s
    · rw [hF]; exact Nat.zero_le _
    · rw [hF]; exact sum_ge hl
  have hus := m.used
  have hr : V.used + bs.length ≤ 9223372036854775807 := by omega
  refine ⟨_, _, _, fun w S g v R h hR hv hc => Append_c w S g N V h s hs R hR v bs hv hc hby hN (by omega) hr, fun w T g v R h hR hv hc => ?_⟩
  unfold appN appE appV
  by_cases hd : V.down = true
  · rw [if_pos hd, if_pos hd, if_pos hd]
    refine (radd_down w g s v t h.cs (by rw [← m.down]; exact hd)).mono ?_
    rintro e w' ⟨rfl, rfl⟩
    exact ⟨rfl, ⟨t, m, Wk.new h, by omega, by omega⟩, Chg.refl _ _⟩
  rw [if_neg hd, if_neg hd, if_neg hd]
  have hd' : V.down = false := by simpa using hd
  have htd : t.down = false := by rw [← m.down]; exact hd'
  cases hn : isNm s
  · rw [if_neg (by simp), if_neg (by simp), if_neg (by simp)]
    refine (radd_bad w g s v t h.cs htd hs hn).mono ?_
    rintro e w' ⟨rfl, rfl⟩
    exact ⟨rfl, ⟨t, m, Wk.new h, by omega, by omega⟩, Chg.refl _ _⟩
  rw [if_pos rfl, if_pos rfl, if_pos rfl]
  have hlost := m.lost
  cases hv' : V.lost
  · rw [hv'] at hlost
    simp only [Bool.false_eq_true, ↓reduceIte]
    have hfree : Vw.free V = t.room - sumL t.L := by unfold Vw.free; rw [m.room, m.used]
    rw [hfree]
    obtain ⟨n, hne⟩ : ∃ n, n = min bs.length (t.room - sumL t.L) := ⟨_, rfl⟩
    rw [← hne]
    have hnl : (bs.take n).length = n := by rw [List.length_take]; omega
    obtain ⟨A, hA, ⟨e, hF⟩ | ⟨hl, hnm, hF⟩⟩ := m.find s
    · rw [e] at hA
      have hno : s.data.toList ∉ nsL t.L := not_in m.up (by rw [← m.F]; exact hF)
      obtain ⟨C, hC⟩ := pos_at t.L s
      have hCl : C < (ins t.L C ⟨s, .slice none 0 0, [], 0⟩).length := by have := hC.1; simp [ins]; omega
      have hgc : (ins t.L C ⟨s, .slice none 0 0, [], 0⟩).getD C e0 = ⟨s, .slice none 0 0, [], 0⟩ := by
        have := hC.1
        unfold ins
        rw [List.getD_eq_getElem?_getD, List.append_assoc, List.getElem?_append_right (by rw [List.length_take]; omega), List.length_take, show C - min C t.L.length = 0 by omega]
        rfl
      have hup := Up.ins m.up (e := ⟨s, .slice none 0 0, [], 0⟩) hC hno
      refine (radd_new w T g t h s htd hs hn hlost hb v bs R hR hv hc hby hbd hA C hC _ rfl).mono ?_
      rintro e w' ⟨rfl, ⟨vv, bv, k⟩, c⟩
      rw [← hne] at k
      have h1 := sum_set _ C ⟨((ins t.L C ⟨s, .slice none 0 0, [], 0⟩).getD C e0).name, bv, ((ins t.L C ⟨s, .slice none 0 0, [], 0⟩).getD C e0).bs ++ bs.take n, ((ins t.L C ⟨s, .slice none 0 0, [], 0⟩).getD C e0).syn⟩ hCl
      rw [sumL_ins] at h1
      dsimp only at h1
      rw [List.length_append, hnl, hgc] at h1
      dsimp only at h1
      refine ⟨by rw [← hne], ⟨_, ?_, k, ?_, ?_⟩, c⟩
      · refine m.op.row vv ?_ (up_set hup hCl _ _ _) ?_ (nm_set (nm_ins m.nm C hn) hCl _ _ _)
        · rw [lk_set hup.nodup hCl, lk_ins hno, m.F]
          rw [hgc]
          funext x
          unfold upd old
          by_cases hx : x = s
          · rw [if_pos hx, if_pos hx, hF]; rfl
          · rw [if_neg hx, if_neg hx, if_neg hx]
        · rw [m.used, hgc]; dsimp only; simp only [List.length_nil] at h1; omega
      · show ((ins t.L C _).set C _).length ≤ _
        have := hC.1
        simp [ins]; omega
      · show sumL ((ins t.L C _).set C _) ≤ _
        rw [hgc]
        dsimp only
        simp only [List.length_nil] at h1
        omega
    · refine (radd_old w T g t h s htd hs hn hlost hb v bs R hR hv hc hby hbd A hA hl _ rfl).mono ?_
      rintro e w' ⟨rfl, ⟨vv, bv, k⟩, c⟩
      rw [← hne] at k
      have h1 := sum_set t.L A ⟨(t.L.getD A e0).name, bv, (t.L.getD A e0).bs ++ bs.take n, (t.L.getD A e0).syn⟩ hl
      dsimp only at h1
      rw [List.length_append, hnl] at h1
      refine ⟨by rw [← hne], ⟨_, ?_, k, ?_, ?_⟩, c⟩
      · refine m.op.row vv ?_ (up_set m.up hl _ _ _) ?_ (nm_set m.nm hl _ _ _)
        · rw [lk_set m.up.nodup hl, hnm, ← m.F]
          funext x
          unfold upd old
          by_cases hx : x = s
          · rw [if_pos hx, if_pos hx, hF]; rfl
          · rw [if_neg hx, if_neg hx]
        · rw [m.used]; omega
      · show (t.L.set A _).length ≤ _
        simp
      · show sumL (t.L.set A _) ≤ _
        omega
  · rw [hv'] at hlost
    rw [if_pos rfl, if_pos rfl, if_pos rfl]
    refine (radd_lost w T g s v t h htd hs hn hlost).mono ?_
    rintro e w' ⟨rfl, k, c⟩
    exact ⟨rfl, ⟨_, m.op, Wk.new k, by rw [opT_L]; omega, by rw [opT_L]; omega⟩, c⟩
end Ys
end Go.Proofs.Ytcjfdebjgaohlaa

/- SameTexts of two lists that are one. -/
namespace Go.Proofs.Ytcjfdebjgaohlaa
open Go.RowKit Go.Maps Go.ChangeMaps Go.MapKept
namespace Ym
open Jb Jm Jd Jw Jx Jn J1 J6 J9 Ya Yb Yc Yd Ye Jh Yf Yg Yh Yi Yj Yk Yl

theorem row9_at {w : World} {B n : Nat} {v : Value} {xs : List Value} (h : w.ownsRow B 9 1 v n xs) : xs.length = n ∧ ((n = 0 ∧ ∃ a c, v = .slice a 0 c) ∨ (0 < n ∧ ∃ q c, v = .slice (some ⟨q, 0, none⟩) n c ∧ n ≤ c ∧ ∀ i u, xs[i]? = some u → w.cell? ⟨q, i, none⟩ = some u)) := by
  have h' := h
  obtain ⟨hl, ⟨rfl, h0⟩ | ⟨g, c, cur, rfl, hg, hh, hnc, hr⟩⟩ := h
  · exact ⟨by simpa using hl, .inl ⟨h0, _, _, rfl⟩⟩
  · refine ⟨by simpa using hl, ?_⟩
    by_cases h0 : n = 0
    · subst h0
      exact .inl ⟨rfl, _, _, rfl⟩
    · refine .inr ⟨by omega, g, c, rfl, hnc, fun i u hu => ?_⟩
      have := h'.cells rfl i u hu
      unfold Addr.add at this
      split at this
      · rename_i e; rw [e] at *; exact this
      · simpa using this
set_option maxRecDepth 100000
theorem texts32 (w : World) (B B' : Nat) (v1 v2 : Value) (n : Nat) (ss : List ByteArray) (h1 : w.ownsRow B 9 1 v1 n (ss.map Value.string)) (h2 : w.ownsRow B' 9 1 v2 n (ss.map Value.string)) (hb : n ≤ 1000000000) :
    Calls Try.prog 32 #[v1, v2] w fun e w' => e = .returned (.bool true) ∧ Below w.heap.size w w' := by
  obtain ⟨hl, r1⟩ := row9_at h1
  obtain ⟨_, r2⟩ := row9_at h2
  clear h1 h2
  rcases r1 with ⟨h0, a1, c1, rfl⟩ | ⟨hn, q1, c1, rfl, hc1, k1⟩
  · rcases r2 with ⟨_, a2, c2, rfl⟩ | ⟨hn, _⟩
    · clear hl
      go_enter Try.func32, Try.ntmps32
      go_wp2_with fail
      refine wp_loop_rounds 1 ?_
      rw [rounds_succ]
      go_wp2_with fail
      go_ret
      exact ⟨rfl, Below.refl _ _⟩
    · omega
  · rcases r2 with ⟨h0, _⟩ | ⟨_, q2, c2, rfl, hc2, k2⟩
    · omega
    · have HK := Lib.hid (fun i (hi : i < n) => (show ∃ s, w.cell? ⟨q1, i, none⟩ = some (.string s) ∧ w.cell? ⟨q2, i, none⟩ = some (.string s) from by
        have hlt : i < ss.length := by rw [List.length_map] at hl; omega
        refine ⟨ss[i], k1 i _ ?_, k2 i _ ?_⟩ <;> simp [hlt]))
      clear k1 k2 hl
      go_enter Try.func32, Try.ntmps32
      go_wp2_with fail
      go_loopw [13] (fun i wr => ∃ k m : Nat, k ≤ n ∧ i = .int .i64 (k : Nat) ∧ wr = w.drewN m) (fun i _ => n - (intOf i).toNat)
      case atStart => exact ⟨0, 0, Nat.zero_le _, rfl, by first | rfl | trivial⟩
      case round =>
        obtain ⟨k, m, hk, rfl, rfl⟩ := hrel
        by_cases hkn : k < n
        · obtain ⟨s, x1, x2⟩ := HK.out k hkn
          have hbq := beq_same s
          go_upto_region 6 with (fail)
          go_quiet (fail)
          go_wp2_with fail
          go_roundw
          case rel => exact ⟨k + 1, _, by omega, by go_num, by first | rfl | trivial⟩
          case measure => simp [intOf]; omega
        · go_wp2_with fail
          go_ret
          exact ⟨rfl, ⟨rfl, rfl, rfl, Nat.le_refl _, fun _ _ => rfl⟩⟩
end Ym
end Go.Proofs.Ytcjfdebjgaohlaa

/- SetRoom, SetFuse, Restart, Read of both disks. -/
namespace Go.Proofs.Ytcjfdebjgaohlaa
open Go.RowKit Go.Maps Go.ChangeMaps Go.MapKept
namespace Yt
open Jb Jm Jd Jw Jx Jn Je Jf Jg Jh Jk Jc Jl Jo Jq J1 J2 J3 J4 Jr J6 J9 Ya Yb Yc Yd Ye Yf Yg Yh Yi Yj Yk Yl Yn Yo Yp Yq Yr Ys

theorem room_both (V : Vw) (t : Dt) (m : MT V t) (n : Int) (hn : -9223372036854775808 ≤ n ∧ n ≤ 9223372036854775807) (N : Nat) : Both 12 21 #[.int .i64 n] (.tuple #[]) V t N N := by
  refine ⟨{ V with room := n.toNat }, Nat.le_refl _, fun w S g h => ?_, fun w T g h => ?_⟩
  · exact (SetRoom_c w S g N V h n hn).mono (by rintro e w' ⟨rfl, k1, k2⟩; exact ⟨rfl, k1.new, k2⟩)
  · refine (setRoom31 w g t n hn h.cs).mono ?_
    rintro e w' ⟨rfl, k1, k2⟩
    exact ⟨rfl, ⟨{ t with room := n.toNat }, ⟨m.F, m.up, m.used, rfl, m.lit, m.fuse, m.down, m.nm⟩, Wk.new (h.nums k2 k1 rfl rfl), Nat.le_refl _⟩, k2.imp fun k hk _ => hk ▸ h.tg⟩
theorem fuse_both (V : Vw) (t : Dt) (m : MT V t) (n : Int) (hn : -9223372036854775808 ≤ n ∧ n ≤ 9223372036854775807) (N : Nat) : Both 22 23 #[.int .i64 n] (.tuple #[]) V t N N := by
  refine ⟨{ V with fused := decide (0 ≤ n), fuse := n.toNat }, Nat.le_refl _, fun w S g h => ?_, fun w T g h => ?_⟩
  · exact (SetFuse_c w S g N V h n hn).mono (by rintro e w' ⟨rfl, k1, k2⟩; exact ⟨rfl, k1.new, k2⟩)
  · refine (setFuse32 w g t n hn h.cs).mono ?_
    rintro e w' ⟨rfl, k1, k2⟩
    exact ⟨rfl, ⟨{ t with lit := decide (0 ≤ n), fuse := n }, ⟨m.F, m.up, m.used, m.room, rfl, fun e => Int.toNat_of_nonneg (of_decide_eq_true e), m.down, m.nm⟩, Wk.new (h.nums k2 k1 rfl rfl), Nat.le_refl _⟩, k2.imp fun k hk _ => hk ▸ h.tg⟩
theorem names_v {V : Vw} {t : Dt} (m : MT V t) : Names V.F (nsL t.L) := by rw [m.F]; exact names_lk m.up
theorem ns_64 {V : Vw} {t : Dt} (m : MT V t) : ∀ x ∈ nsL t.L, x.length ≤ 64 := by
  intro x hx
  obtain ⟨e, he, rfl⟩ := List.mem_map.1 hx
  have := nm64 (m.nm e he)
  simpa using this
theorem le_sum {L : List En} {e : En} (h : e ∈ L) : e.bs.length ≤ sumL L := by
  obtain ⟨i, hi, rfl⟩ := List.mem_iff_getElem.1 h
  have := sum_ge hi
  rwa [show L.getD i e0 = L[i] from by simp [List.getD_eq_getElem?_getD, hi]] at this
theorem restart_both (V : Vw) (t : Dt) (m : MT V t) (ch : List Nat) (hby : ∀ x ∈ ch, x < 256) (hlc : ch.length ≤ 140737488355328) (hb : t.L.length ≤ 1000000000) (hbd : sumL t.L ≤ 140737488355328) (N : Nat) (hN : N ≤ 8796093022208) : ∃ V' : Vw, V'.used ≤ V.used ∧
    (∀ w S g v R, DV w S g N V → (∀ k, R k → ¬ S k ∧ k < w.heap.size) → Src w R v ch → Calls Try.prog 24 #[.pointer (some ⟨g, 0, none⟩), v] w fun e w' => e = .returned (.tuple #[]) ∧ DV w' (New S w w') g N V' ∧ Chg w w' S) ∧
    (∀ w T g v R, Wk w T g t → (∀ k, R k → ¬ T k ∧ k < w.heap.size) → Src w R v ch → Calls Try.prog 25 #[.pointer (some ⟨g, 0, none⟩), v] w fun e w' => e = .returned (.tuple #[]) ∧ (∃ t', MT V' t' ∧ Wk w' (New T w w') g t' ∧ t'.L.length ≤ t.L.length) ∧ Chg w w' T) := by
  have hnl : (nsL t.L).length = t.L.length := by simp [nsL]
  have hut : V.used = tot V.F (nsL t.L) := by rw [m.used, m.F]; exact (tot_lk m.up.nodup).symm
  refine ⟨rsV V (rs ⟨V.F, V.used, ch⟩ (nsL t.L)), rs_used_le _ _, fun w S g v R h hR hv => ?_, fun w T g v R h hR hv => ?_⟩
  · exact Restart_c w S g N V h hN R hR v ch hv hby (nsL t.L) (names_v m) hut (by rw [m.used]; exact hbd) (ns_64 m) (by rw [hnl]; omega)
  · refine (rres25 w T g t h hb m.up.nodup (fun e he => Nat.le_trans (le_sum he) hbd) R hR v ch hv hby hlc V.used).mono ?_
    rintro e w' ⟨rfl, ⟨L', k, hns, hF⟩, c⟩
    have hlen : L'.length = t.L.length := by
      have := congrArg List.length hns
      simpa [nsL] using this
    rw [← m.F] at hF
    have hinv0 : Inv V.F (nsL t.L) ⟨V.F, V.used, ch⟩ := ⟨hut, fun s => Iff.rfl, fun s b hb => by
      obtain ⟨A, _, ⟨_, hF⟩ | ⟨hl, _, hF⟩⟩ := m.find s
      · change V.F s = some b at hb
        rw [hF] at hb; cases hb
      · change V.F s = some b at hb
        rw [hF] at hb
        cases hb
        exact (h.ent _ (mem_getD hl)).2.2.2⟩
    have inv := inv_rs m.up.nodup hinv0 (nsL t.L).length (Nat.le_refl _)
    rw [List.take_length] at inv
    have hup : Up L' := by unfold Up; rw [hns]; exact m.up
    refine ⟨rfl, ⟨{ t with L := L', lit := false, down := false }, ⟨hF.symm, hup, ?_, m.room, rfl, fun e => (by cases e), rfl, fun e he => ?_⟩, Wk.new k, Nat.le_of_eq hlen⟩, c⟩
    · show (rs _ _).used = sumL L'
      rw [inv.1, ← tot_lk hup.nodup, hF, hns]
    · have hm : e.name.data.toList ∈ nsL t.L := by rw [← hns]; exact List.mem_map.2 ⟨e, he, rfl⟩
      obtain ⟨e', he', hee⟩ := List.mem_map.1 hm
      rw [← name_inj hee]
      exact m.nm e' he'
/-- Both Reads give the same bytes. -/
theorem read_both (V : Vw) (t : Dt) (m : MT V t) (s : ByteArray) (hs : s.size ≤ 140737488355328) (hb : t.L.length ≤ 1000000000) (hbd : sumL t.L ≤ 140737488355328) (N : Nat) : ∃ (r : Nat) (bs : List Nat),
    (∀ w S g, DV w S g N V → Calls Try.prog 26 #[.pointer (some ⟨g, 0, none⟩), .string s] w fun e w' => ∃ v, e = .returned (.tuple #[v, .int .i64 (r : Nat)]) ∧ w'.ownsRow w.heap.size 5 1 v bs.length (u8s bs) ∧ Below w.heap.size w w') ∧
    (∀ w T g, Wk w T g t → Calls Try.prog 27 #[.pointer (some ⟨g, 0, none⟩), .string s] w fun e w' => ∃ v, e = .returned (.tuple #[v, .int .i64 (r : Nat)]) ∧ Src w T v bs ∧ w' = w) := by
  by_cases hd : V.down = true
  · refine ⟨8, [], fun w S g h => ?_, fun w T g h => ?_⟩
    · have hE : finE V s = 8 := by unfold finE; rw [if_pos hd]
      have := Read_bad w S g N V h s hs (by omega)
      rw [hE] at this
      exact this.mono (by rintro e w' ⟨rfl, rfl⟩; exact ⟨_, rfl, ⟨rfl, .inl ⟨rfl, rfl⟩⟩, Below.refl _ _⟩)
    · exact (rread_down w T g s t h (by rw [← m.down]; exact hd)).mono (by rintro e w' ⟨rfl, rfl⟩; exact ⟨_, rfl, .inl ⟨rfl, _, _, rfl⟩, rfl⟩)
  have hd' : V.down = false := by simpa using hd
  have htd : t.down = false := by rw [← m.down]; exact hd'
  obtain ⟨A, hA, ⟨e, hF⟩ | ⟨hl, hnm, hF⟩⟩ := m.find s
  · refine ⟨6, [], fun w S g h => ?_, fun w T g h => ?_⟩
    · have hE : finE V s = 6 := by unfold finE; rw [if_neg hd, hF]; rfl
      have := Read_bad w S g N V h s hs (by omega)
      rw [hE] at this
      exact this.mono (by rintro e w' ⟨rfl, rfl⟩; exact ⟨_, rfl, ⟨rfl, .inl ⟨rfl, rfl⟩⟩, Below.refl _ _⟩)
    · exact (rread_none w T g s t h htd (e ▸ hA) hb).mono (by rintro e w' ⟨rfl, rfl⟩; exact ⟨_, rfl, .inl ⟨rfl, _, _, rfl⟩, rfl⟩)
  have hge := sum_ge hl
  refine ⟨0, (t.L.getD A e0).bs, fun w S g h => Read_c w S g N V h s hs _ _ hd' hF (by omega), fun w T g h => ?_⟩
  refine (rread_some w T g s t h htd A hA hl hb).mono ?_
  rintro e w' ⟨rfl, rfl⟩
  exact ⟨_, rfl, (h.ent _ (mem_getD hl)).1.imp fun k hk => hk.1, rfl⟩
end Yt
end Go.Proofs.Ytcjfdebjgaohlaa
