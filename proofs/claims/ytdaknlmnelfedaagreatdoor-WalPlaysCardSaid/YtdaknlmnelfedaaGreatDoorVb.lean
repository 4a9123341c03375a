/- The log's lastMark and holds. -/
import Derived.Test.YtdaknlmnelfedaaGreatDoorVa
namespace Go.Proofs.YtdaknlmnelfedaaGreatDoor
open Go.RowKit Go.Maps Go.ChangeMaps Go.MapKept
namespace Vb
open Jb Jm Jd Jw Jx Jn Je Jf Jg Jh Jk Jc Jl Jo Jq Jr J1 J2 J3 J4 W1 W2 W3 V1 V2 V3 V4 V5 V6 V7 V8 V9 Va

/-- What number answers of a name and a prefix of the log's. -/
theorem num_not_mrk (w : World) (hE : Err w) (x : List UInt8) (hx : x = nn ∨ ∃ k, Sm k ∧ x = pn ep k) :
    Calls Tryz.prog 42 #[.string (nm x), .string (nm mp)] w fun e w' => e = .returned (.tuple #[.int .i64 0, .bool false]) ∧ Below w.heap.size w w' := by
  rcases hx with rfl | ⟨k, hk, rfl⟩
  · exact num_no w hE mp [97, 108, 46, 110, 101, 119] (by decide) (by decide)
  · have hl := len_pn (p := ep) rfl hk
    obtain ⟨r, hr⟩ : ∃ r, pn ep k = 119 :: r := ⟨_, rfl⟩
    have h1 := (pre_other (p := ep) (q := mp) rfl (by decide) k).1
    rw [hr] at hl h1 ⊢
    exact num_no w hE mp r (by simp at hl; omega) h1
theorem num_not_ent (w : World) (hE : Err w) (x : List UInt8) (hx : x = nn ∨ ∃ k, Sm k ∧ x = pn mp k) :
    Calls Tryz.prog 42 #[.string (nm x), .string (nm ep)] w fun e w' => e = .returned (.tuple #[.int .i64 0, .bool false]) ∧ Below w.heap.size w w' := by
  rcases hx with rfl | ⟨k, hk, rfl⟩
  · exact num_no w hE ep [97, 108, 46, 110, 101, 119] (by decide) (by decide)
  · have hl := len_pn (p := mp) rfl hk
    obtain ⟨r, hr⟩ : ∃ r, pn mp k = 119 :: r := ⟨_, rfl⟩
    have h1 := (pre_other (p := mp) (q := ep) rfl (by decide) k).1
    rw [hr] at hl h1 ⊢
    exact num_no w hE ep r (by simp at hl; omega) h1
/-- The names that are the log's own. -/
def Mine (L : Lg) (x : List UInt8) : Prop := x = nn ∨ (∃ k, k ≤ L.first ∧ x = pn mp k) ∨ ∃ k, k < L.nx ∧ x = pn ep k
theorem mine_of {V : Vw} {L : Lg} (h : Dirt V L) {x : List UInt8} (hx : V.F (nm x) ≠ none) : Mine L x := by
  rcases h.dom _ hx with a | ⟨k, a, b⟩ | ⟨k, a, b⟩
  · exact .inl (nm_inj a)
  · exact .inr (.inl ⟨k, a, nm_inj b⟩)
  · exact .inr (.inr ⟨k, a, nm_inj b⟩)
theorem row_at {w : World} {B : Nat} {v : Value} {ns : List (List UInt8)} (h : w.ownsRow B 9 1 v ns.length (ns.map Go.Proofs.encStr)) (h0 : 0 < ns.length) :
    ∃ q c, v = .slice (some ⟨q, 0, none⟩) ns.length c ∧ B ≤ q ∧ q < w.heap.size ∧ ∀ k (hk : k < ns.length), w.cell? ⟨q, k, none⟩ = some (.string (nm ns[k])) := by
  obtain ⟨_, ⟨_, e⟩ | ⟨g, c, cur, rfl, hg, hh, hnc, hcm, hsz, htk⟩⟩ := h
  · omega
  · refine ⟨g, c, rfl, hg, ?_, fun k hk => ?_⟩
    · rcases Nat.lt_or_ge g w.heap.size with h | h
      · exact h
      · rw [Array.getElem?_eq_none h] at hh; cases hh
    · rw [Go.cell_of_row w g k cur 9 (0, 0) hh]
      have e2 : (cur.toList.take (ns.length * 1))[k]? = (ns.map Go.Proofs.encStr)[k]? := by rw [htk]
      rw [List.getElem?_take, if_pos (by omega), List.getElem?_map, List.getElem?_eq_getElem hk] at e2
      have : cur[k]? = some (Go.Proofs.encStr ns[k]) := by simpa using e2
      rw [this]
      rfl
theorem mpB' : ({ data := #[119, 97, 108, 46, 102, 105, 114, 115, 116, 46] } : ByteArray) = nm mp := rfl
set_option maxRecDepth 100000 in
theorem last12 (w : World) (B : Nat) (hE : En w B) (L : Lg) (hs : Sm L.nx) (v : Value) (ns : List (List UInt8)) (q0 : Nat) (hv : w.ownsRow q0 9 1 v ns.length (ns.map Go.Proofs.encStr)) (hm : ∀ x ∈ ns, Mine L x) (hf : pn mp L.first ∈ ns ∨ L.first = 0) (hnl : ns.length ≤ 8796093022208) :
    Calls Tryz.prog 30 #[v] w fun e w' => e = .returned (.int .i64 (L.first : Nat)) ∧ Below w.heap.size w w' := by
  obtain ⟨F, hF⟩ : ∃ F, F = L.first := ⟨_, rfl⟩
  have fsm : Sm F := by rw [hF]; unfold Sm Lg.nx at *; omega
  rw [← hF]
  by_cases h0 : ns.length = 0
  · obtain rfl := List.length_eq_zero_iff.1 h0
    obtain ⟨a, c, rfl⟩ := forms9 hv
    have hF0 : F = 0 := by
      rw [hF]
      rcases hf with e | e
      · simp at e
      · exact e
    subst hF0
    clear hv hm hf h0 hE hs hF fsm
    go_enter Tryz.func30, Tryz.ntmps30
    go_wp2_with fail
    go_loopw [3, 5, 6, 7, 10] (fun m _ _ _ i wr => m = .int .i64 0 ∧ i = .int .i64 0 ∧ wr = w) (fun _ _ _ _ _ _ => 0)
    case atStart => exact ⟨rfl, rfl, by first | rfl | trivial⟩
    case round =>
      obtain ⟨rfl, rfl, rfl⟩ := hrel
      go_wp2_with fail
      go_ret
      exact ⟨rfl, Below.refl _ _⟩
  obtain ⟨q, c, rfl, hq1, hq2, hcell⟩ := row_at hv (by omega)
  obtain ⟨n, hn⟩ : ∃ n, n = ns.length := ⟨_, rfl⟩
  have NC : Hid (∀ k wr, k < n → Below w.heap.size w wr → ∃ x, ns[k]? = some x ∧ wr.cell? ⟨q, k, none⟩ = some (.string (nm x)) ∧ Mine L x) := Lib.hid fun k wr hk b => by
    have hk' : k < ns.length := by omega
    exact ⟨ns[k], List.getElem?_eq_getElem hk', (World.cell?_of_block (b.block q hq2)).trans (hcell k hk'), hm _ (List.getElem_mem hk')⟩
  have EE : Hid (∀ wr, Below w.heap.size w wr → Err wr) := Lib.hid fun wr b => (hE.move b.size fun k hk => b.block k (by have := hE.hi; omega)).err
  have LS : Hid (∀ m, m ≤ F → (∀ j, j < n → ns[j]? = some (pn mp F) → m = F) → m = F) := Lib.hid fun m hm1 hm2 => by
    rcases hf with e | e
    · obtain ⟨j, hj, e'⟩ := List.getElem_of_mem e
      exact hm2 j (by omega) (by rw [List.getElem?_eq_getElem hj, e', hF])
    · omega
  have nb : n ≤ 8796093022208 := by omega
  have HFF := Lib.hid hF
  have HFS := Lib.hid fsm
  have HS := Lib.hid hs
  rw [← hn]
  clear hv hm hf h0 hE hF fsm hq1 hq2 hcell hn hs hnl
  go_enter Tryz.func30, Tryz.ntmps30
  go_wp2_with fail
  go_loopw [3, 5, 6, 7, 10] (fun mv _ _ _ i wr => ∃ k m, k ≤ n ∧ i = .int .i64 (k : Nat) ∧ mv = .int .i64 (m : Nat) ∧ m ≤ F ∧ (∀ j, j < k → ns[j]? = some (pn mp F) → m = F) ∧ Below w.heap.size w wr) (fun _ _ _ _ i _ => n - (intOf i).toNat)
  case atStart => exact ⟨0, 0, Nat.zero_le _, rfl, rfl, Nat.zero_le _, fun j hj => by omega, Below.refl _ _⟩
  case round =>
    obtain ⟨k, m, hk, rfl, rfl, hm, hall, hb⟩ := hrel
    have HB := Lib.hid hb
    have HA := Lib.hid hall
    have HM := Lib.hid hm
    by_cases hkn : k < n
    · obtain ⟨x, hx, cx, mx⟩ := NC.out k wr hkn hb
      have hkn' : (k : Int) < (n : Int) := by omega
      have HX := Lib.hid hx
      have HK := Lib.hid hkn
      rcases mx with e | ⟨j, hj, e⟩ | ⟨j, hj, e⟩
      · have N1 := Lib.hid (num_not_mrk wr (EE.out wr hb) x (.inl e))
        have HE := Lib.hid e
        clear hb hall hm hx hkn e
        go_wp2_with (go_at_call 42; refine (N1.out).mono ?_; rintro e w1 ⟨rfl, hb1⟩)
        go_roundw
        case rel =>
          refine ⟨k + 1, m, by have := HK.out; omega, by go_num, rfl, HM.out, fun j hj hj2 => ?_, HB.out.trans (hb1.mono HB.out.size)⟩
          by_cases e : j = k
          · subst e
            rw [HX.out, HE.out] at hj2
            injection hj2 with hj2
            exact absurd hj2.symm mp_nn
          · exact HA.out j (by omega) hj2
        case measure => have := HK.out; simp [intOf]; omega
      · have jsm : Sm j := by have := HS.out; unfold Sm Lg.nx at *; omega
        have N1 := num_own wr mp j jsm
        rw [← e] at N1
        replace N1 := Lib.hid N1
        have hjF : j ≤ F := by have := HFF.out; omega
        obtain ⟨M, hM⟩ : ∃ M, M = max m j := ⟨_, rfl⟩
        have mx1 : max (m : Int) (j : Int) = (M : Int) := by omega
        have HE := Lib.hid e
        have HJ := Lib.hid hjF
        have HMM := Lib.hid hM
        have HJS := Lib.hid jsm
        clear hb hall hm hx hkn e jsm hjF hM hj
        go_wp2_with (go_at_call 42; refine (N1.out).mono ?_; rintro e w1 ⟨rfl, hb1⟩)
        go_roundw
        case rel =>
          have a1 := HM.out
          have a2 := HJ.out
          have a3 := HMM.out
          refine ⟨k + 1, M, by have := HK.out; omega, by go_num, rfl, by omega, fun i hi hi2 => ?_, HB.out.trans (hb1.mono HB.out.size)⟩
          by_cases e : i = k
          · subst e
            rw [HX.out, HE.out] at hi2
            injection hi2 with hi2
            have := pn_inj HJS.out HFS.out hi2
            omega
          · have := HA.out i (by omega) hi2
            omega
        case measure => have := HK.out; simp [intOf]; omega
      · have ksm : Sm j := by have := HS.out; unfold Sm at *; omega
        have N1 := Lib.hid (num_not_mrk wr (EE.out wr hb) x (.inr ⟨j, ksm, e⟩))
        have HE := Lib.hid e
        clear hb hall hm hx hkn e ksm hj
        go_wp2_with (go_at_call 42; refine (N1.out).mono ?_; rintro e w1 ⟨rfl, hb1⟩)
        go_roundw
        case rel =>
          refine ⟨k + 1, m, by have := HK.out; omega, by go_num, rfl, HM.out, fun j hj hj2 => ?_, HB.out.trans (hb1.mono HB.out.size)⟩
          by_cases e : j = k
          · subst e
            rw [HX.out, HE.out] at hj2
            injection hj2 with hj2
            exact absurd hj2 ep_mp
          · exact HA.out j (by omega) hj2
        case measure => have := HK.out; simp [intOf]; omega
    · obtain rfl : k = n := by omega
      have hkk : ¬ (k : Int) < (k : Int) := by omega
      obtain rfl : m = F := LS.out m hm hall
      clear hb hall hm hkn
      go_wp2_with fail
      go_ret
      exact ⟨rfl, HB.out⟩
end Vb
end Go.Proofs.YtdaknlmnelfedaaGreatDoor
