/- The law PackWords. -/
import Derived.Test.YtjeimfgapkgmiaaDoorRx
import Derived.Test.YtjeimfgapkgmiaaDoorLa
namespace Go.Proofs.YtjeimfgapkgmiaaDoor
open Go.RowKit
namespace Lw
open Mt Wr Bm Pk Rp Cv Rd Rx La

/-- s is the code of the least width that holds d bits. -/
def IsLw (d s : Nat) : Prop := d ≤ W s ∧ s ≤ 13 ∧ ∀ t, t < s → ¬ d ≤ W t
theorem exists_lw {d : Nat} (hd : d ≤ 60) : ∃ s, IsLw d s := by
  have key : ∀ n s, (∀ t, t < s → ¬ d ≤ W t) → s + n = 13 → ∃ s', IsLw d s' := by
    intro n
    induction n with
    | zero => intro s h1 h2; exact ⟨s, by rw [show s = 13 from by omega]; exact hd, by omega, h1⟩
    | succ n ih =>
      intro s h1 h2
      by_cases hf : d ≤ W s
      · exact ⟨s, hf, by omega, h1⟩
      · refine ih (s + 1) (fun t ht => ?_) (by omega)
        by_cases e : t = s
        · subst e; exact hf
        · exact h1 t (by omega)
  exact key 13 0 (fun t ht => by omega) (by omega)
theorem IsLw.iff {d s : Nat} (h : IsLw d s) {t : Nat} (ht : t ≤ 13) : d ≤ W t ↔ s ≤ t := by
  refine ⟨fun hd => ?_, fun hs => Nat.le_trans h.1 (W_mono hs ht)⟩
  by_cases hs : s ≤ t
  · exact hs
  · exact absurd hd (h.2.2 t (by omega))
theorem pred_lt {d u : Nat} : 2 ^ d - 1 < 2 ^ u ↔ d ≤ u := by
  have h1 := Nat.two_pow_pos d
  refine ⟨fun h => ?_, fun h => ?_⟩
  · by_cases hd : d ≤ u
    · exact hd
    · have : 2 ^ (u + 1) ≤ 2 ^ d := Nat.pow_le_pow_right (by decide) (by omega)
      rw [Nat.pow_succ] at this
      have := Nat.two_pow_pos u
      omega
  · have := Nat.pow_le_pow_right (n := 2) (by decide) h
    omega
theorem rep_get {n v i : Nat} (h : i < n) : (List.replicate n v).getD i 0 = v := by simp [List.getD_eq_getElem?_getD, h]
theorem rep_fit {d n t : Nat} (hn : 0 < n) : Fit (List.replicate n (2 ^ d - 1)) t ↔ d ≤ W t := by
  unfold Fit
  rw [List.length_replicate]
  have := cap_pos t
  refine ⟨fun h => ?_, fun h i hi => ?_⟩
  · have h0 := h 0 (by omega)
    rw [rep_get hn] at h0
    exact pred_lt.1 h0
  · rw [rep_get (by omega)]
    exact pred_lt.2 h
theorem rep_least {d s n : Nat} (h : IsLw d s) (hn : 0 < n) : least (List.replicate n (2 ^ d - 1)) = s :=
  least_eq ((rep_fit hn).2 h.1) h.2.1 fun t ht hf => h.2.2 t ht ((rep_fit hn).1 hf)
theorem rep_words {d s : Nat} (h : IsLw d s) (n : Nat) : (words (List.replicate n (2 ^ d - 1))).length = (n + cap s - 1) / cap s := by
  have hc := cap_pos s
  induction n using Nat.strongRecOn with
  | _ n ih =>
    by_cases hn : n = 0
    · subst hn
      rw [words_nil (by simp)]
      simp only [List.length_nil, Nat.zero_add]
      exact (Nat.div_eq_of_lt (by omega)).symm
    · have ht : took (List.replicate n (2 ^ d - 1)) = min (cap s) n := by
        unfold took
        rw [rep_least h (by omega), List.length_replicate]
      rw [words_cons (by simp; omega), List.length_cons, ht, List.drop_replicate, ih _ (by omega)]
      by_cases hcn : cap s ≤ n
      · rw [show n - min (cap s) n + cap s - 1 = n - 1 from by omega, show n + cap s - 1 = n - 1 + cap s from by omega, Nat.add_div_right _ (by omega)]
      · rw [show n - min (cap s) n + cap s - 1 = cap s - 1 from by omega, Nat.div_eq_of_lt (show cap s - 1 < cap s by omega), show n + cap s - 1 = n - 1 + cap s from by omega, Nat.add_div_right _ (by omega),
          Nat.div_eq_of_lt (show n - 1 < cap s by omega)]
theorem rep_small {d n : Nat} (hd : d ≤ 60) : Small (List.replicate n (2 ^ d - 1)) := by
  intro v hv
  rw [List.eq_of_mem_replicate hv]
  exact pred_lt.2 hd
theorem lit_tab (w : World) : TabAt (w.alloc (.cells #[.int .i64 1, .int .i64 2, .int .i64 3, .int .i64 4, .int .i64 5, .int .i64 6, .int .i64 7, .int .i64 8, .int .i64 10, .int .i64 12, .int .i64 15, .int .i64 20, .int .i64 30, .int .i64 60] 3)) w.heap.size := by
  refine ⟨by simp, fun s hs => ?_⟩
  rw [cell_of_row _ _ _ _ _ _ (heap_alloc_new _ _)]
  have : ∀ s : Fin 14, (#[Value.int .i64 1, .int .i64 2, .int .i64 3, .int .i64 4, .int .i64 5, .int .i64 6, .int .i64 7, .int .i64 8, .int .i64 10, .int .i64 12, .int .i64 15, .int .i64 20, .int .i64 30, .int .i64 60] : Array Value)[s.1]? = some (.int .i64 (W s.1 : Nat)) := by
    intro s
    match s with
    | 0 => rfl | 1 => rfl | 2 => rfl | 3 => rfl | 4 => rfl | 5 => rfl | 6 => rfl | 7 => rfl | 8 => rfl | 9 => rfl | 10 => rfl | 11 => rfl | 12 => rfl | 13 => rfl
  exact this ⟨s, hs⟩

set_option maxRecDepth 100000 in
set_option maxHeartbeats 1000000 in
theorem words6 (w : World) (k0 n : Nat) (hT : Tab w) (hk0 : k0 < 256) (hn : n < 256) :
    Calls Tryd.prog 6 #[.int .u8 (k0 : Nat), .int .u8 (n : Nat)] w fun e w' => e = .returned (.bool true) ∧ Below w.heap.size w w' := by
  obtain ⟨i0, hi, hz0, hz1, hz2⟩ := info_parts info34
  have F7 := Lib.hid (awake7 w hT)
  have FTab : Hid (∀ x, Below w.heap.size w x → Tab x) := Lib.hid fun x b => hT.below b hT.1
  obtain ⟨d, hd⟩ : ∃ d, d = 1 + k0 % 60 := ⟨_, rfl⟩
  have hdi : 1 + (k0 : Int) % 60 = (d : Int) := by omega
  have hd60 : d ≤ 60 := by omega
  have hd1 : 1 ≤ d := by omega
  obtain ⟨s, hs⟩ := exists_lw hd60
  have HS := Lib.hid hs
  have HSM := Lib.hid (@rep_small d n hd60)
  have HRW := Lib.hid (rep_words hs n)
  have hp1 : 2 ^ d ≤ 2 ^ 60 := Nat.pow_le_pow_right (by decide) hd60
  have hp0 : 0 < 2 ^ d := Nat.two_pow_pos d
  obtain ⟨D, hD⟩ : ∃ D, D = 2 ^ d - 1 := ⟨_, rfl⟩
  have hDi : IntKind.u64.wrap (IntKind.u64.wrap ((2 : Int) ^ d) - 1) = (D : Int) := by
    rw [show ((2 : Int) ^ d) = ((2 ^ d : Nat) : Int) from by push_cast; rfl, IntKind.wrap_u64, IntKind.wrap_u64]
    omega
  rw [← hD] at HSM HRW
  obtain ⟨R, hR⟩ : ∃ R, R = (n + cap s - 1) / cap s := ⟨_, rfl⟩
  rw [← hR] at HRW
  have HR := Lib.hid hR
  have FP : Hid (∀ x r, Below w.heap.size w x → World.ownsRow x w.heap.size 34 1 r n (u64s (List.replicate n D)) → Calls Tryd.prog 9 #[r] x fun e w' => ∃ a c, e = .returned (.tuple #[.slice a (8 * R) c, .int .i64 0]) ∧ Below x.heap.size x w') := Lib.hid fun x r b ho => by
    have ho' : World.ownsRow x w.heap.size 34 1 r (List.replicate n D).length (u64s (List.replicate n D)) := by rw [List.length_replicate]; exact ho
    refine (pack9 x r _ (iu_own ho' (fun y hy => Nat.lt_trans (HSM.out y hy) (by decide))) (FTab.out x b) (by simp; omega)).mono fun e w' h => ?_
    obtain ⟨r', he, hr, bl⟩ := Packed.ok h HSM.out
    obtain ⟨a, c, e2⟩ := slice_of' hr
    rw [packs_len, HRW.out] at e2
    exact ⟨a, c, by rw [he, e2], bl⟩
  clear hT hd hs hD hR hp1 hp0
  go_enter Tryd.func6, Tryd.ntmps6
  go_wp2_with (go_at_call 7; refine F7.out.mono ?_; rintro e w1 ⟨rfl, b1⟩; have B1 := Lib.hid b1; clear b1)
  go_loopw [22, 7] (fun i o wr => ∃ k, k ≤ n ∧ i = .int .i64 (k : Nat) ∧ wr.ownsRow w.heap.size 34 1 o k (u64s (List.replicate k D)) ∧ Below w.heap.size w wr) (fun i _ _ => n - (intOf i).toNat)
  case atStart => exact ⟨0, Nat.zero_le _, rfl, World.ownsRow_nil _ _ _ _, B1.out⟩
  case round =>
    obtain ⟨k, hk, rfl, hown, hB⟩ := hrel
    obtain ⟨ao, co, hu⟩ := slice_of' hown
    have HOW := Lib.hid hown
    have HB := Lib.hid hB
    have hbs := hB.size
    clear hown hB
    subst hu
    by_cases hkn : k < n
    · go_wp2_with (at_builtin; refine wpList_append_own _ rfl (.tmp 24) (.tmp 29) 22 rfl w.heap.size 34 i0 (.int .u64 0) 1 8 Tryd.underlying22 hi hz0 hz1 hz2 rfl (by decide) _ _ _ rfl (HOW.out.alloc _) ⟨wr.heap.size, 0, none⟩ 1 1 [.int .u64 (D : Nat)] rfl rfl ?c1 ?c2 ?c3 ?c4 ?c5 ?_)
      case c1 => exact cell_one_new _ _ _
      case c2 => intro u hu; simp at hu; subst hu; rfl
      case c3 => unfold maxLen; omega
      case c4 => omega
      case c5 => simp; omega
      intro v' w6 hown6 hgrow _
      have B6 := Lib.hid (Below.grown (HB.out.alloc hbs _) hgrow (by simp; omega) (fun r hr => (HOW.out.lt r hr).1))
      have O6 := Lib.hid hown6
      clear hgrow hown6
      go_wp2_with fail
      go_roundw
      case rel => exact ⟨k + 1, by omega, by go_num, by rw [List.replicate_succ', u64s_snoc]; exact O6.out, B6.out⟩
      case measure => simp [intOf]; omega
    · obtain rfl : n = k := by omega
      go_wp2_with (go_at_call 9; refine (FP.out _ _ HB.out HOW.out).mono ?_; rintro e w2 ⟨a2, c2, rfl, b2⟩; have B2 := Lib.hid (HB.out.trans (b2.mono HB.out.size)); clear b2)
      have HLT := Lib.hid (lit_tab w2)
      have HB3 := Lib.hid (B2.out.alloc B2.out.size (.cells #[.int .i64 1, .int .i64 2, .int .i64 3, .int .i64 4, .int .i64 5, .int .i64 6, .int .i64 7, .int .i64 8, .int .i64 10, .int .i64 12, .int .i64 15, .int .i64 20, .int .i64 30, .int .i64 60] 3))
      obtain ⟨w3, hw3⟩ : ∃ w3, w3 = w2.alloc (.cells #[.int .i64 1, .int .i64 2, .int .i64 3, .int .i64 4, .int .i64 5, .int .i64 6, .int .i64 7, .int .i64 8, .int .i64 10, .int .i64 12, .int .i64 15, .int .i64 20, .int .i64 30, .int .i64 60] 3) := ⟨_, rfl⟩
      rw [← hw3] at HLT HB3 ⊢
      obtain ⟨G, hG⟩ : ∃ G, G = w2.heap.size := ⟨_, rfl⟩
      rw [← hG] at HLT ⊢
      clear hw3 hG hDi hdi
      go_loop [11, 40] (fun r i => ∃ k, k ≤ 14 ∧ i = .int .i64 (k : Nat) ∧ r = .int .i64 (cap (max s (14 - k)) : Nat)) (fun _ i => 14 - (intOf i).toNat)
      case atStart => exact ⟨0, Nat.zero_le _, rfl, by rw [show max s (14 - 0) = 14 from by have := HS.out.2.1; omega]; rfl⟩
      case round =>
        obtain ⟨k, hk, rfl, rfl⟩ := hrel
        by_cases hk14 : k < 14
        · have e := HLT.out.2 (13 - k) (by omega)
          have hi1 : (0 : Int) ≤ 13 - (k : Int) := by omega
          have hi2 : (13 - (k : Int)) < 14 := by omega
          have hi3 : (13 - (k : Int)).toNat = 13 - k := by omega
          have h1 := W_pos (13 - k)
          have h2 := W_le (13 - k)
          have h3 : (60 : Int) / (W (13 - k) : Nat) = (cap (13 - k) : Nat) := rfl
          have h4 := cap_le (13 - k)
          have hiff := HS.out.iff (t := 13 - k) (by omega)
          have hmx1 : s ≤ 13 - k → cap (max s (14 - (k + 1))) = cap (13 - k) := fun h => by rw [show max s (14 - (k + 1)) = 13 - k from by omega]
          have hmx2 : ¬ s ≤ 13 - k → cap (max s (14 - (k + 1))) = cap (max s (14 - k)) := fun h => by congr 1; omega
          obtain ⟨U, hU⟩ : ∃ U, U = W (13 - k) := ⟨_, rfl⟩
          obtain ⟨C, hC⟩ : ∃ C, C = cap (13 - k) := ⟨_, rfl⟩
          obtain ⟨Z, hZ⟩ : ∃ Z, Z = cap (max s (14 - k)) := ⟨_, rfl⟩
          rw [← hU] at e h1 h2 h3 hiff
          rw [← hC] at h3 h4 hmx1
          rw [← hZ] at hmx2 ⊢
          have HM1 := Lib.hid hmx1
          have HM2 := Lib.hid hmx2
          have HIF := Lib.hid hiff
          clear hU hC hZ hmx1 hmx2 hiff
          by_cases hdU : d ≤ U
          · go_wp2_with fail
            go_round
            case rel => exact ⟨k + 1, by omega, by go_num, by rw [HM1.out (HIF.out.1 hdU), ← h3]⟩
            case measure => simp [intOf]; omega
          · go_wp2_with fail
            go_round
            case rel => exact ⟨k + 1, by omega, by go_num, by rw [HM2.out (fun h => hdU (HIF.out.2 h))]⟩
            case measure => simp [intOf]; omega
        · obtain rfl : k = 14 := by omega
          have hc1 := cap_pos s
          have hc2 := cap_le s
          have hRr := HR.out
          rw [show max s (14 - 14) = s from by omega]
          obtain ⟨C, hC⟩ : ∃ C, C = cap s := ⟨_, rfl⟩
          rw [← hC] at hc1 hc2 hRr ⊢
          have hfin : ((n : Int) + (C : Int) - 1) / (C : Int) = (R : Int) := by
            rw [hRr, show (n : Int) + (C : Int) - 1 = ((n + C - 1 : Nat) : Int) from by omega]
            push_cast
            rfl
          have hR9 : R ≤ 1000 := by rw [hRr]; exact Nat.le_trans (Nat.div_le_self _ _) (by omega)
          clear hC hRr
          go_wp2_with fail
          go_ret
          exact ⟨rfl, HB3.out⟩
end Lw
end Go.Proofs.YtjeimfgapkgmiaaDoor
