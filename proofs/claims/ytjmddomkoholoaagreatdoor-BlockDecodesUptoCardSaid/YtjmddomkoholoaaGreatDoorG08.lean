import Derived.Test.YtjmddomkoholoaaGreatDoorG07
import Derived.Laws.BytesArg
import Derived.Laws.BytesString
import Derived.Laws.IdiomStrings

/- The program's side: packed. -/
namespace Go.Proofs.YtjmddomkoholoaaGreatDoor
open Go.RowKit
namespace Pk
open Mt Wr Bm

def slen : Value → Nat | .slice _ n _ => n | _ => 0
theorem Wt.drewN {w : World} {g : Nat} {s : Value} {m : Nat} {β : Nat → Bool} (h : Wt w g s m β) (n : Nat) : Wt (w.drewN n) g s m β := by
  obtain ⟨bs, f, h1, h2⟩ := h
  exact ⟨bs, f, h1.drewN n, h2⟩
theorem Below.drewN' {B : Nat} {a b : World} (h : Below B a b) (n : Nat) : Below B a (b.drewN n) := ⟨h.os, h.tape, h.output, h.size, h.block⟩
theorem Tab.below {w w' : World} {B : Nat} (h : Tab w) (b : Below B w w') (hB : 1 < B) : Tab w' :=
  ⟨Nat.lt_of_lt_of_le h.1 b.size, fun s hs => (b.cell hB).trans (h.2 s hs)⟩
theorem Iu.below {w w' : World} {v : Value} {L : List Nat} (h : Iu w v L) (b : Below w.heap.size w w') : Iu w' v L := by
  refine ⟨h.1, ?_⟩
  rcases h.2 with h | ⟨q, off, c, h1, h2, h3, h4⟩
  · exact .inl h
  · exact .inr ⟨q, off, c, h1, h2, Nat.lt_of_lt_of_le h3 b.size, fun i hi => (b.cell h3).trans (h4 i hi)⟩

theorem Iu.cases {w : World} {v : Value} {L : List Nat} (h : Iu w v L) : (∃ a c, v = .slice a 0 c ∧ L = []) ∨
    0 < L.length ∧ ∃ b off c, v = .slice (some ⟨b, off, none⟩) L.length c ∧ L.length ≤ c ∧ b < w.heap.size ∧ ∀ i, i < L.length → w.cell? ⟨b, off + i, none⟩ = some (.int .u64 (L.getD i 0 : Nat)) := by
  rcases h.2 with h | h
  · exact .inl h
  · by_cases h0 : L.length = 0
    · obtain ⟨b, off, c, rfl, -⟩ := h
      exact .inl ⟨_, _, by rw [h0], List.length_eq_zero_iff.1 h0⟩
    · exact .inr ⟨by omega, h⟩

set_option maxRecDepth 100000 in
theorem packed16 (w : World) (v : Value) (l : List Nat) (hI : Iu w v l) (hS : Small l) (hT : Tab w) (hl : l.length ≤ 17592186044159) :
    Calls Tryz.prog 133 #[v] w fun e w' => ∃ r, e = .returned r ∧ w'.ownsRow w.heap.size 5 1 r (packs l).length (u8s (packs l)) ∧ Below w.heap.size w w' := by
  have HI := Lib.hid hI
  have HS := Lib.hid hS
  have HT := Lib.hid hT
  have HL := Lib.hid hl
  clear hI hS hT hl
  go_enter Tryz.func133, Tryz.ntmps133
  go_wp2_with (go_at_call 92; refine (new_wt _).mono ?_; rintro e w1 ⟨rfl, h1, b1⟩)
  obtain ⟨g, hg⟩ : ∃ g, g = w.heap.size := ⟨_, rfl⟩
  rw [← hg] at h1
  rw [← hg]
  have HG := Lib.hid hg
  have H1 := Lib.hid h1
  have B1 := Lib.hid b1
  clear h1 b1 hg
  go_loopw [0] (fun x wr => ∃ L s ws β, Iu w x L ∧ words l = ws ++ words L ∧ Small L ∧ L.length + ws.length ≤ 17592186044159 ∧ Wt wr g s (64 * ws.length) β ∧ (∀ i, i < 64 * ws.length → β i = wb ws i) ∧ Below w.heap.size w wr ∧ (∀ k, s.ownBlock = some k → w.heap.size ≤ k)) (fun x _ => slen x)
  case atStart => exact ⟨l, .slice none 0 0, [], fun _ => false, HI.out, rfl, HS.out, by simpa using HL.out, H1.out, fun i hi => by simp at hi, B1.out, fun k hk => by simp [Value.ownBlock] at hk⟩
  case round =>
    obtain ⟨L, s, ws, β, hI, hws, hSm, hlen, hWt, hβ, hB, hown⟩ := hrel
    rcases hI.cases with ⟨a, c, rfl, rfl⟩ | ⟨hL0, b, off, c, rfl, hc1, hc2, hc3⟩
    · have HWt := Lib.hid hWt
      have HWS := Lib.hid hws
      have HB := Lib.hid hB
      have HBe := Lib.hid hβ
      have hlen' : ws.length ≤ 17592186044159 := by simpa using hlen
      have HLE := Lib.hid hlen'
      clear hWt hws hB hβ hSm hlen hlen' hown hI
      go_wp2_with (go_at_call 85; refine (bytes_wt _ _ _ _ _ HWt.out (by have := HLE.out; omega)).mono ?_; rintro e w2 ⟨r, bs, f, rfl, ho, bl, has, hl8, hf8⟩)
      have hbs : bs = packs l := by
        have h1 : words l = ws := by rw [HWS.out, words_nil rfl, List.append_nil]
        unfold packs
        rw [h1]
        exact has.unique ((flat_has ws).congr fun i hi => by rw [flat_len] at hi; exact (HBe.out i (by omega)).symm) (by rw [flat_len]; omega)
      subst hbs
      have hb0 := HB.out
      have H2 := Lib.hid ho
      have B2 := Lib.hid bl
      clear ho bl
      go_ret
      exact ⟨_, rfl, Go.Joins.ownsRow_le H2.out hb0.size, hb0.trans (B2.out.mono hb0.size)⟩
    · obtain ⟨n, hn⟩ : ∃ n, n = L.length := ⟨_, rfl⟩
      have hx := hI.1
      have FC : ∀ x, Below w.heap.size w x → ∀ i, i < n → x.cell? ⟨b, off + i, none⟩ = some (.int .u64 (L.getD i 0 : Nat)) := fun x hb i hi => (hb.cell hc2).trans (hc3 i (by omega))
      have FT : Hid (∀ x, Below w.heap.size w x → Tab x) := Lib.hid fun x hb => HT.out.below hb HT.out.1
      have hwc := words_cons hL0
      have hlo := least_of hSm
      have hroom := room_lt hSm
      have hwd : word L = least L * 2 ^ 60 + laid (W (least L)) L (took L) := rfl
      have ht1 := took_pos hL0
      have ht2 := took_le L
      have ht3 := took_cap L
      rw [← hn] at hlen hc1 ht2 ⊢
      have hT0 : min (cap (least L)) n = took L := by rw [hn]; rfl
      have F21 : Hid (∀ x, Below w.heap.size w x → Calls Tryz.prog 158 #[.slice (some ⟨b, off, none⟩) n c] x fun e w' => e = .returned (.int .i64 (least L : Nat)) ∧ ∃ m, w' = x.drewN m) :=
        Lib.hid fun x hb => least21 x b off n c L hn.symm hc1 (by omega) hSm (FT.out x hb) (FC x hb)
      have F22 : Hid (∀ x, Calls Tryz.prog 159 #[.slice (some ⟨b, off, none⟩) n c, .int .i64 (W (least L) : Nat)] x fun e w' => e = .returned (.slice (some ⟨b, off, none⟩) (took L) c) ∧ w' = x) :=
        Lib.hid fun x => by rw [← hT0]; exact next22 x b off n c (least L) hc1 (by omega)
      have F24 : Hid (∀ x, Below w.heap.size w x → Calls Tryz.prog 160 #[.slice (some ⟨b, off, none⟩) (took L) c, .int .i64 (W (least L) : Nat)] x fun e w' => e = .returned (.int .u64 (laid (W (least L)) L (took L) : Nat)) ∧ w' = x) :=
        Lib.hid fun x hb => laid24 x b off (took L) c L (W (least L)) (Nat.le_trans (Nat.mul_le_mul_right _ ht3) (cap_mul _)) (W_le _) (Nat.le_trans ht3 (cap_le _)) (fun i hi => hlo.1 i hi) (fun i hi => FC x hb i (by omega))
      have FK : Hid (∀ x, Below w.heap.size w x → x.cell? ⟨1, least L, none⟩ = some (.int .i64 (W (least L) : Nat))) := Lib.hid fun x hb => (FT.out x hb).2 _ (by omega)
      have hk13 := hlo.2.1
      obtain ⟨K, hK⟩ : ∃ K, K = least L := ⟨_, rfl⟩
      obtain ⟨U, hU⟩ : ∃ U, U = W (least L) := ⟨_, rfl⟩
      obtain ⟨T, hT⟩ : ∃ T, T = took L := ⟨_, rfl⟩
      obtain ⟨R, hR⟩ : ∃ R, R = laid (W (least L)) L (took L) := ⟨_, rfl⟩
      rw [← hR] at F24 hwd hroom
      rw [← hU] at F22 F24 FK
      rw [← hK] at F21 FK hwd hk13
      rw [← hT] at F22 F24 ht1 ht2 hwc
      have hI2 : Iu w (.slice (if c = T then some ⟨b, off, none⟩ else some ⟨b, off + T, none⟩) (n - T) (c - T)) (L.drop T) := by
        refine ⟨fun x hx' => hx x (List.mem_of_mem_drop hx'), ?_⟩
        by_cases hcT : c = T
        · rw [show n - T = 0 from by omega]
          exact .inl ⟨_, _, rfl, by apply List.drop_eq_nil_of_le; omega⟩
        rw [if_neg hcT]
        refine .inr ⟨b, off + T, c - T, by rw [List.length_drop, ← hn], by rw [List.length_drop, ← hn]; omega, hc2, fun i hi => ?_⟩
        rw [List.length_drop] at hi
        rw [Nat.add_assoc, hc3 (T + i) (by omega)]
        simp [List.getD_eq_getElem?_getD, List.getElem?_drop]
      have HI2 := Lib.hid hI2
      have HW2 : Hid (words l = (ws ++ [K * 2 ^ 60 + R]) ++ words (L.drop T)) := Lib.hid (by rw [hws, hwc, hwd]; simp)
      have HSm := Lib.hid (hSm.drop T)
      have HLD : Hid ((L.drop T).length = n - T) := Lib.hid (by rw [List.length_drop, ← hn])
      have HWt := Lib.hid hWt
      have HB := Lib.hid hB
      have HBe := Lib.hid hβ
      have HO := Lib.hid hown
      clear hI hws hSm hWt hβ hB hown hc3 hx FC FT hwc hlo hwd ht3 hT0 hK hU hT hR hI2 hn
      go_wp2_with (first
        | (go_at_call 158; refine (F21.out _ HB.out).mono ?_; rintro e w2' ⟨rfl, hw2⟩
           have B2 : Hid (Below w.heap.size w w2') := by obtain ⟨m, rfl⟩ := hw2; exact Lib.hid (Below.drewN' HB.out m)
           have W2 : Hid (Wt w2' g s (64 * ws.length) β) := by obtain ⟨m, rfl⟩ := hw2; exact Lib.hid (Wt.drewN HWt.out m)
           have e2 := FK.out w2' B2.out)
        | (go_at_call 159; refine (F22.out _).mono ?_; rintro e w2 ⟨rfl, rfl⟩))
      refine (put_wt w2 g s (64 * ws.length) β K 4 4 W2.out (by omega) (by decide) (by decide) (by decide) (by omega)).mono ?_
      rintro e w3 ⟨rfl, s3, h3, m3, o3⟩
      have B3 : Hid (Below w.heap.size w w3) := Lib.hid (B2.out.trans (m3.below (by rw [HG.out]; exact Nat.le_refl _) HO.out W2.out.lt))
      have O3 : Hid (∀ k, s3.ownBlock = some k → w.heap.size ≤ k) := Lib.hid fun k hk => by have := h3.own k hk; have := HG.out; omega
      have W3 := Lib.hid h3
      have e3 := FK.out w3 B3.out
      clear h3 m3 o3 e2
      go_wp2_with (go_at_call 160; refine (F24.out _ B3.out).mono ?_; rintro e w4 ⟨rfl, rfl⟩)
      refine (put_wt w4 g s3 (64 * ws.length + 4) _ R 60 60 W3.out (by omega) (by decide) (by decide) (by decide) (by omega)).mono ?_
      rintro e w5 ⟨rfl, s5, h5, m5, o5⟩
      have B5 : Hid (Below w.heap.size w w5) := Lib.hid (B3.out.trans (m5.below (by rw [HG.out]; exact Nat.le_refl _) O3.out W3.out.lt))
      have O5 : Hid (∀ k, s5.ownBlock = some k → w.heap.size ≤ k) := Lib.hid fun k hk => by have := h5.own k hk; have := HG.out; omega
      have W5 := Lib.hid h5
      clear h5 m5 o5 e3
      go_wp2_with fail
      go_roundw
      case rel =>
        refine ⟨L.drop T, s5, ws ++ [K * 2 ^ 60 + R], put (put β (64 * ws.length) K 4 0) (64 * ws.length + 4) R 60 0, HI2.out, HW2.out, HSm.out, ?_, ?_, ?_, B5.out, O5.out⟩
        · have h1 := HLD.out
          have h2 := hlen
          simp only [List.length_append, List.length_cons, List.length_nil]
          omega
        · have h1 := W5.out
          rw [show 64 * ws.length + 4 + 60 = 64 * (ws ++ [K * 2 ^ 60 + R]).length from by simp; omega] at h1
          exact h1
        · intro i hi
          simp only [List.length_append, List.length_cons, List.length_nil] at hi
          exact put_word HBe.out hroom i (by omega)
      case measure => simp [slen]; omega
end Pk
end Go.Proofs.YtjmddomkoholoaaGreatDoor

/- The program's side: Pack. -/
namespace Go.Proofs.YtjmddomkoholoaaGreatDoor
open Go.RowKit
namespace Pk
open Mt Wr Bm

theorem small_of {l : List Nat} {n : Nat} (hn : n = l.length) (h : ∀ j, j < n → l.getD j 0 < 2 ^ 60) : Small l := by
  intro v hv
  obtain ⟨i, hi, rfl⟩ := List.getElem_of_mem hv
  have := h i (by omega)
  rwa [List.getD_eq_getElem?_getD, List.getElem?_eq_getElem hi] at this

/-- What Pack answers. -/
def Packed (w : World) (l : List Nat) (e : Ending) (w' : World) : Prop :=
  (Small l ∧ ∃ r, e = .returned (.tuple #[r, .int .i64 0]) ∧ w'.ownsRow w.heap.size 5 1 r (packs l).length (u8s (packs l)) ∧ Below w.heap.size w w') ∨
  (¬ Small l ∧ e = .returned (.tuple #[.slice none 0 0, .int .i64 3]) ∧ Below w.heap.size w w')

set_option maxRecDepth 100000 in
theorem pack9 (w : World) (v : Value) (l : List Nat) (hI : Iu w v l) (hT : Tab w) (hl : l.length ≤ 17592186044159) : Calls Tryz.prog 82 #[v] w fun e w' => Packed w l e w' := by
  have F16 : Small l → Hid (Calls Tryz.prog 133 #[v] w fun e w' => ∃ r, e = .returned r ∧ w'.ownsRow w.heap.size 5 1 r (packs l).length (u8s (packs l)) ∧ Below w.heap.size w w') :=
    fun hS => Lib.hid (packed16 w v l hI hS hT hl)
  have H16 := Lib.hid F16
  clear F16
  rcases hI.cases with ⟨a, c, rfl, hl0⟩ | ⟨hL0, b, off, c, rfl, hc1, hc2, hc3⟩
  · have hS : Small l := by rw [hl0]; exact small_nil
    have HS := Lib.hid hS
    clear hI hT hl hl0 hS
    go_enter Tryz.func82, Tryz.ntmps82
    go_wp2_with fail
    refine wp_loop_rounds 1 ?_
    rw [rounds_succ]
    go_wp2_with (go_at_call 133; refine (H16.out HS.out).out.mono ?_; rintro e w2 ⟨r, rfl, ho, bl⟩)
    go_ret2
    exact .inl ⟨HS.out, r, rfl, ho, bl⟩
  · obtain ⟨n, hn⟩ : ∃ n, n = l.length := ⟨_, rfl⟩
    rw [← hn] at hc1 hc3 hl H16 ⊢
    have HC := Lib.hid hc3
    have HN := Lib.hid hn
    clear hI hT hc3 hn hL0
    go_enter Tryz.func82, Tryz.ntmps82
    go_wp2_with fail
    go_loop [8] (fun i => ∃ k, k ≤ n ∧ i = .int .i64 (k : Nat) ∧ ∀ j, j < k → l.getD j 0 < 2 ^ 60) (fun i => n - (intOf i).toNat)
    case atStart => exact ⟨0, Nat.zero_le _, rfl, fun j hj => by omega⟩
    case round =>
      obtain ⟨k, hk, rfl, hall⟩ := hrel
      have HA := Lib.hid hall
      clear hall
      by_cases hkn : k < n
      · have e := HC.out k hkn
        by_cases hf : l.getD k 0 < 2 ^ 60
        · have HF := Lib.hid hf
          clear hf
          go_wp2_with (go_at_call 132; refine (fits_yes _ 60 (by decide) HF.out _).mono ?_; rintro e w2 ⟨rfl, rfl⟩)
          go_round
          case rel =>
            refine ⟨k + 1, by omega, by go_num, fun j hj => ?_⟩
            by_cases e : j = k
            · subst e; exact HF.out
            · exact HA.out j (by omega)
          case measure => simp [intOf]; omega
        · have HF := Lib.hid hf
          clear hf
          go_wp2_with (go_at_call 132; refine (fits_no _ 60 (by decide) HF.out _).mono ?_; rintro e w2 ⟨rfl, rfl⟩)
          go_ret2
          exact .inr ⟨fun h => HF.out (h.get k), rfl, Below.refl _ _⟩
      · obtain rfl : k = n := by omega
        have HS := Lib.hid (small_of HN.out HA.out)
        go_wp2_with (go_at_call 133; refine (H16.out HS.out).out.mono ?_; rintro e w2 ⟨r, rfl, ho, bl⟩)
        go_ret2
        exact .inl ⟨HS.out, r, rfl, ho, bl⟩
end Pk
end Go.Proofs.YtjmddomkoholoaaGreatDoor

/- The document's side: widths, Eight, ReadAt. -/
namespace Go.Proofs.YtjmddomkoholoaaGreatDoor
open Go.RowKit
namespace Rp
open Mt Wr Bm Pk

/-- The widths lie in block G. -/
def TabAt (w : World) (G : Nat) : Prop := G < w.heap.size ∧ ∀ s, s < 14 → w.cell? ⟨G, s, none⟩ = some (.int .i64 (W s : Nat))
theorem TabAt.below {w w' : World} {G B : Nat} (h : TabAt w G) (b : Below B w w') (hB : G < B) : TabAt w' G :=
  ⟨Nat.lt_of_lt_of_le h.1 b.size, fun s hs => (b.cell hB).trans (h.2 s hs)⟩

set_option maxRecDepth 100000 in
theorem widths13 (w : World) : Calls Tryz.prog 140 #[] w fun e w' => e = .returned (.slice (some ⟨w.heap.size, 0, none⟩) 14 14) ∧ TabAt w' w.heap.size ∧ Below w.heap.size w w' := by
  go_enter Tryz.func140, Tryz.ntmps140
  go_wp2_with fail
  go_ret
  refine ⟨rfl, ⟨by simp, fun s hs => ?_⟩, (Below.refl _ _).alloc (Nat.le_refl _) _⟩
  rw [cell_of_row _ _ _ _ _ _ (heap_alloc_new _ _)]
  have : ∀ s : Fin 14, (#[Value.int .i64 1, .int .i64 2, .int .i64 3, .int .i64 4, .int .i64 5, .int .i64 6, .int .i64 7, .int .i64 8, .int .i64 10, .int .i64 12, .int .i64 15, .int .i64 20, .int .i64 30, .int .i64 60] : Array Value)[s.1]? = some (.int .i64 (W s.1 : Nat)) := by
    intro s
    match s with
    | 0 => rfl | 1 => rfl | 2 => rfl | 3 => rfl | 4 => rfl | 5 => rfl | 6 => rfl | 7 => rfl | 8 => rfl | 9 => rfl | 10 => rfl | 11 => rfl | 12 => rfl | 13 => rfl
  exact this ⟨s, hs⟩

set_option maxRecDepth 100000 in
set_option maxHeartbeats 1000000 in
theorem eight14 (w : World) (x : Nat) :
    Calls Tryz.prog 33 #[.int .u64 (x : Nat)] w fun e w' => ∃ g c, e = .returned (.slice (some ⟨g, 0, none⟩) 8 c) ∧ w'.ownsRow w.heap.size 5 1 (.slice (some ⟨g, 0, none⟩) 8 c) 8 (u8s (eight x)) ∧ Below w.heap.size w w' := by
  obtain ⟨i0, hi, hz0, hz1, hz2⟩ := info_parts info5
  go_enter Tryz.func33, Tryz.ntmps33
  go_wp2_with fail
  go_loopw [5, 3] (fun i o wr => ∃ k, k ≤ 8 ∧ i = .int .i64 (k : Nat) ∧ wr.ownsRow w.heap.size 5 1 o k (u8s ((eight x).take k)) ∧ Below w.heap.size w wr) (fun i _ _ => 8 - (intOf i).toNat)
  case atStart => exact ⟨0, Nat.zero_le _, rfl, World.ownsRow_nil _ _ _ _, Below.refl _ _⟩
  case round =>
    obtain ⟨k, hk, rfl, ho, hb⟩ := hrel
    by_cases hk8 : k < 8
    · have hown := ho
      have hB := Lib.hid hb
      have hbs := hb.size
      have h0 : (0 : Int) ≤ 56 - 8 * (k : Int) := by omega
      have h1 : (56 - 8 * (k : Int)).toNat = 56 - 8 * k := by omega
      obtain ⟨y, hy⟩ : ∃ y, y = x / 2 ^ (56 - 8 * k) % 256 := ⟨_, rfl⟩
      have hyi : (x : Int) / 2 ^ (56 - 8 * k) % 256 = ((y : Nat) : Int) := by rw [hy]; push_cast; rfl
      have HY : Hid ((eight x).take (k + 1) = (eight x).take k ++ [y]) := Lib.hid (by
        have : k = 0 ∨ k = 1 ∨ k = 2 ∨ k = 3 ∨ k = 4 ∨ k = 5 ∨ k = 6 ∨ k = 7 := by omega
        rw [hy]
        rcases this with rfl | rfl | rfl | rfl | rfl | rfl | rfl | rfl <;> simp [eight])
      clear ho hb hy
      go_wp2_with (at_builtin; refine wpList_append_own _ rfl (.tmp 8) (.tmp 16) 22 rfl w.heap.size 5 i0 (.int .u8 0) 1 1 Tryz.underlying22 hi hz0 hz1 hz2 rfl (by decide) _ _ _ rfl (hown.alloc _) ⟨wr.heap.size, 0, none⟩ 1 1 [.int .u8 (y : Nat)] rfl rfl ?c1 ?c2 ?c3 ?c4 ?c5 ?_)
      case c1 => exact cell_one_new _ _ _
      case c2 => intro u hu; simp at hu; subst hu; rfl
      case c3 => unfold maxLen; omega
      case c4 => omega
      case c5 => simp; omega
      intro v' w2 hown' hgrow _
      have b2 := Lib.hid (Below.grown (hB.out.alloc (Nat.le_trans (Nat.le_refl _) hbs) _) hgrow (by simp; omega) (fun r hr => (hown.lt r hr).1))
      clear hgrow
      have hO2 := Lib.hid hown'
      clear hown'
      go_wp2_with fail
      go_roundw
      case rel => exact ⟨k + 1, by omega, by go_num, by rw [HY.out, u8s_snoc]; exact hO2.out, b2.out⟩
      case measure => simp [intOf]; omega
    · obtain rfl : k = 8 := by omega
      have hB := Lib.hid hb
      obtain ⟨g, c, rfl⟩ := Go.Joins.ownsRow_form ho (by omega)
      have hO := Lib.hid ho
      clear hb ho
      go_wp2_with fail
      go_ret
      exact ⟨g, c, rfl, hO.out, hB.out⟩
end Rp
end Go.Proofs.YtjmddomkoholoaaGreatDoor

/- Bytes as strings; Equal; same; the law's own small example. -/
namespace Go.Proofs.YtjmddomkoholoaaGreatDoor
open Go.RowKit
namespace Cv
open Mt Wr Bm Pk Rp

/-- A slice of these bytes, its address plain where there are any. -/
def Pl (w : World) (s : Value) (bs : List Nat) : Prop :=
  (bs = [] ∧ ∃ a c, s = .slice a 0 c) ∨ (0 < bs.length ∧ ∃ b off c, s = .slice (some ⟨b, off, none⟩) bs.length c ∧ bs.length ≤ c ∧ ∀ i, i < bs.length → w.cell? ⟨b, off + i, none⟩ = some (.int .u8 (bs.getD i 0 : Nat)))

theorem Pl.below {w w' : World} {s : Value} {bs : List Nat} (h : Pl w s bs) (b : Below w.heap.size w w') : Pl w' s bs := by
  rcases h with h | ⟨h0, b0, off, c, rfl, hl, hc⟩
  · exact .inl h
  · exact .inr ⟨h0, b0, off, c, rfl, hl, fun i hi => (b.cell (by have := cell_lt (hc i hi); exact this)).trans (hc i hi)⟩
theorem pl_own {w : World} {B : Nat} {v : Value} {bs : List Nat} (h : w.ownsRow B 5 1 v bs.length (u8s bs)) (h0 : 0 < bs.length) : Pl w v bs := by
  obtain ⟨_, ⟨_, e⟩ | ⟨g, c, cur, rfl, hg, hh, hnc, hcm, hsz, htk⟩⟩ := h
  · omega
  · refine .inr ⟨h0, g, 0, c, rfl, hnc, fun i hi => ?_⟩
    have h' : w.ownsRow B 5 1 (.slice (some ⟨g, 0, none⟩) bs.length c) bs.length (u8s bs) := ⟨by rw [u8s_len]; omega, .inr ⟨g, c, cur, rfl, hg, hh, hnc, hcm, hsz, htk⟩⟩
    rw [Nat.zero_add, h'.cellAt i (by omega)]
    exact u8s_get bs i hi
theorem pl_is {w : World} {s : Value} {bs : List Nat} (h : Pl w s bs) (hx : s = .slice none 0 0 ∨ ∃ ad c, s = .slice (some ad) bs.length c) : Is w s bs := by
  rcases h with ⟨rfl, a, c, rfl⟩ | ⟨h0, b, off, c, rfl, hl, hc⟩
  · rcases hx with h | ⟨ad, c', h⟩
    · exact .inl ⟨h, rfl⟩
    · exact .inr ⟨ad, c', h, fun j u hj => by simp [u8s] at hj⟩
  · refine .inr ⟨⟨b, off, none⟩, c, rfl, fun j u hj => ?_⟩
    have hjl : j < bs.length := by
      by_cases hjl : j < bs.length
      · exact hjl
      · rw [List.getElem?_eq_none (by rw [u8s_len]; omega)] at hj; cases hj
    rw [u8s_get bs j hjl] at hj
    cases hj
    rw [show (⟨b, off, none⟩ : Addr).add j = ⟨b, off + j, none⟩ from by unfold Addr.add; split <;> simp_all]
    exact hc j hjl

/-- The string of bytes. -/
def str (bs : List Nat) : ByteArray := strOfNums (bs.map fun b : Nat => (b : Int))
theorem str_inj {cs bs : List Nat} (ha : ∀ x ∈ cs, x < 256) (hb : ∀ x ∈ bs, x < 256) (h : str cs = str bs) : cs = bs := by
  have e : (str cs).data.toList = (str bs).data.toList := by rw [h]
  unfold str at e
  rw [strOfNums_data, strOfNums_data] at e
  simp only [List.map_map] at e
  have hl : cs.length = bs.length := by simpa using congrArg List.length e
  apply List.ext_getElem hl
  intro j h1 h2
  have ej : (UInt8.ofNat cs[j]) = UInt8.ofNat bs[j] := by
    have := congrArg (fun l => l[j]?) e
    simpa [h1, h2] using this
  have l1 := ha _ (List.getElem_mem h1)
  have l2 := hb _ (List.getElem_mem h2)
  have := congrArg UInt8.toNat ej
  simp only [UInt8.toNat_ofNat'] at this
  omega
theorem toList_ne {S T : ByteArray} (h : S ≠ T) : (S.toList == T.toList) = false := by
  rw [ByteArray.toList_eq, ByteArray.toList_eq, beq_eq_false_iff_ne]
  intro e
  apply h
  cases S; cases T
  congr 1
  exact Array.toList_inj.1 e
theorem conv_cells (w : World) (src : TypeId) (hs : Tryz.prog.underlying src = some (.slice 5)) (b off c : Nat) (bs : List Nat) (h : ∀ i, i < bs.length → w.cell? ⟨b, off + i, none⟩ = some (.int .u8 (bs.getD i 0 : Nat))) :
    (convert src 9 (.slice (some ⟨b, off, none⟩) bs.length c)).run Tryz.prog w = .ok (.string (str bs)) w := by
  refine run_convert_bytes_arg w src 5 hs Tryz.underlying5 b off bs.length c _ (by simp) (fun i hi => ?_) 9 Tryz.underlying9
  rw [h i hi]
  simp [List.getD_eq_getElem?_getD, hi]
theorem conv_own {w : World} {B : Nat} {v : Value} {bs : List Nat} (h : w.ownsRow B 5 1 v bs.length (u8s bs)) : (convert 22 9 v).run Tryz.prog w = .ok (.string (str bs)) w := by
  rcases Go.Joins.ownsRow_forms h with ⟨rfl, h0⟩ | ⟨g, c, rfl⟩
  · obtain rfl := List.length_eq_zero_iff.1 h0
    exact run_convert_bytes_nil w 22 5 Tryz.underlying22 Tryz.underlying5 0 0 9 Tryz.underlying9
  · refine conv_cells w 22 Tryz.underlying22 g 0 c bs fun i hi => ?_
    rw [Nat.zero_add, h.cellAt i (by omega)]
    exact u8s_get bs i hi
theorem conv_pl {w : World} {s : Value} {bs : List Nat} (h : Pl w s bs) : (convert 22 9 s).run Tryz.prog w = .ok (.string (str bs)) w := by
  rcases h with ⟨rfl, a, c, rfl⟩ | ⟨h0, b, off, c, rfl, hl, hc⟩
  · cases a with
    | none => exact run_convert_bytes_nil w 22 5 Tryz.underlying22 Tryz.underlying5 0 c 9 Tryz.underlying9
    | some a =>
      rw [run_convert_bytes_string w 22 9 5 _ 0 c Tryz.underlying22 Tryz.underlying5 Tryz.underlying9]
      rw [run_bytesToString w a 0 c [] (by simpa using run_loadCells_list (P := Tryz.prog) w a [] (by simp))]
      rfl
  · exact conv_cells w 22 Tryz.underlying22 b off c bs hc


theorem toList_eq {S T : ByteArray} (h : S = T) : (S.toList == T.toList) = true := by rw [h]; simp

set_option maxRecDepth 100000 in
theorem equal_yes (w : World) (u v : Value) (S : ByteArray) (hu : (convert 22 9 u).run Tryz.prog w = .ok (.string S) w) (hv : (convert 22 9 v).run Tryz.prog w = .ok (.string S) w) :
    Calls Tryz.prog 55 #[u, v] w fun e w' => e = .returned (.bool true) ∧ w' = w := by
  go_enter Tryz.func55, Tryz.ntmps55
  go_wp2_with fail
  go_ret
  exact ⟨rfl, rfl⟩
set_option maxRecDepth 100000 in
theorem equal_no (w : World) (u v : Value) (S T : ByteArray) (hu : (convert 22 9 u).run Tryz.prog w = .ok (.string S) w) (hv : (convert 22 9 v).run Tryz.prog w = .ok (.string T) w) (hne : (S.toList == T.toList) = false) :
    Calls Tryz.prog 55 #[u, v] w fun e w' => e = .returned (.bool false) ∧ w' = w := by
  go_enter Tryz.func55, Tryz.ntmps55
  go_wp2_with fail
  go_ret
  exact ⟨rfl, rfl⟩
end Cv
end Go.Proofs.YtjmddomkoholoaaGreatDoor
