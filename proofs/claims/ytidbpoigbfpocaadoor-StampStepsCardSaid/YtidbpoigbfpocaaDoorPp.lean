/- The program's side: packed. -/
import Derived.Test.YtidbpoigbfpocaaDoorPk
import Derived.Test.YtidbpoigbfpocaaDoorAw
namespace Go.Proofs.YtidbpoigbfpocaaDoor
open Go.RowKit
namespace Pk
open Mt Wr Bm

def slen : Value → Nat | .slice _ n _ => n | _ => 0
theorem Wt.drewN {w : World} {g : Nat} {s : Value} {m : Nat} {β : Nat → Bool} (h : Wt w g s m β) (n : Nat) : Wt (w.drewN n) g s m β := by
  obtain ⟨bs, f, h1, h2⟩ := h
  exact ⟨bs, f, h1.drewN n, h2⟩
theorem Below.drewN' {B : Nat} {a b : World} (h : Below B a b) (n : Nat) : Below B a (b.drewN n) := ⟨h.os, h.tape, h.output, h.size, h.block⟩
theorem Tab.below {w w' : World} {B : Nat} (h : Tab w) (b : Below B w w') (hB : 0 < B) : Tab w' :=
  ⟨Nat.lt_of_lt_of_le h.1 b.size, fun s hs => (b.cell hB).trans (h.2 s hs)⟩
theorem Iu.below {w w' : World} {v : Value} {L : List Nat} (h : Iu w v L) (b : Below w.heap.size w w') : Iu w' v L := by
  refine ⟨h.1, ?_⟩
  rcases h.2 with h | ⟨q, off, c, h1, h2, h3, h4⟩
  · exact .inl h
  · exact .inr ⟨q, off, c, h1, h2, Nat.lt_of_lt_of_le h3 b.size, fun i hi => (b.cell h3).trans (h4 i hi)⟩

theorem Iu.cases {w : World} {v : Value} {L : List Nat} (h : Iu w v L) : (∃ a c, v = .slice a 0 c ∧ L = []) ∨
    0 < L.length ∧ ∃ b off c, v = .slice (some ⟨b, off, none⟩) L.length c ∧ L.length ≤ c ∧ b < w.heap.size ∧ ∀ i, i < L.length → w.cell? ⟨b, off + i, none⟩ = some (.int .u64 (L.getD i 0 : Nat)) := by
  rcases h.2 with h | h
  · exact .inl h
  · by_cases h0 : L.length = 0
    · obtain ⟨b, off, c, rfl, -⟩ := h
      exact .inl ⟨_, _, by rw [h0], List.length_eq_zero_iff.1 h0⟩
    · exact .inr ⟨by omega, h⟩

set_option maxRecDepth 100000 in
theorem packed16 (w : World) (v : Value) (l : List Nat) (hI : Iu w v l) (hS : Small l) (hT : Tab w) (hl : l.length ≤ 17592186044159) :
    Calls Tryd.prog 34 #[v] w fun e w' => ∃ r, e = .returned r ∧ w'.ownsRow w.heap.size 5 1 r (packs l).length (u8s (packs l)) ∧ Below w.heap.size w w' := by
  have HI := Lib.hid hI
  have HS := Lib.hid hS
  have HT := Lib.hid hT
  have HL := Lib.hid hl
  clear hI hS hT hl
  go_enter Tryd.func34, Tryd.ntmps34
  go_wp2_with (go_at_call 36; refine (new_wt _).mono ?_; rintro e w1 ⟨rfl, h1, b1⟩)
  obtain ⟨g, hg⟩ : ∃ g, g = w.heap.size := ⟨_, rfl⟩
  rw [← hg] at h1
  rw [← hg]
  have HG := Lib.hid hg
  have H1 := Lib.hid h1
  have B1 := Lib.hid b1
  clear h1 b1 hg
  go_loopw [0] (fun x wr => ∃ L s ws β, Iu w x L ∧ words l = ws ++ words L ∧ Small L ∧ L.length + ws.length ≤ 17592186044159 ∧ Wt wr g s (64 * ws.length) β ∧ (∀ i, i < 64 * ws.length → β i = wb ws i) ∧ Below w.heap.size w wr ∧ (∀ k, s.ownBlock = some k → w.heap.size ≤ k)) (fun x _ => slen x)
  case atStart => exact ⟨l, .slice none 0 0, [], fun _ => false, HI.out, rfl, HS.out, by simpa using HL.out, H1.out, fun i hi => by simp at hi, B1.out, fun k hk => by simp [Value.ownBlock] at hk⟩
  case round =>
    obtain ⟨L, s, ws, β, hI, hws, hSm, hlen, hWt, hβ, hB, hown⟩ := hrel
    rcases hI.cases with ⟨a, c, rfl, rfl⟩ | ⟨hL0, b, off, c, rfl, hc1, hc2, hc3⟩
    · have HWt := Lib.hid hWt
      have HWS := Lib.hid hws
      have HB := Lib.hid hB
      have HBe := Lib.hid hβ
      have hlen' : ws.length ≤ 17592186044159 := by simpa using hlen
      have HLE := Lib.hid hlen'
      clear hWt hws hB hβ hSm hlen hlen' hown hI
      go_wp2_with (go_at_call 27; refine (bytes_wt _ _ _ _ _ HWt.out (by have := HLE.out; omega)).mono ?_; rintro e w2 ⟨r, bs, f, rfl, ho, bl, has, hl8, hf8⟩)
      have hbs : bs = packs l := by
        have h1 : words l = ws := by rw [HWS.out, words_nil rfl, List.append_nil]
        unfold packs
        rw [h1]
        exact has.unique ((flat_has ws).congr fun i hi => by rw [flat_len] at hi; exact (HBe.out i (by omega)).symm) (by rw [flat_len]; omega)
      subst hbs
      have hb0 := HB.out
      have H2 := Lib.hid ho
      have B2 := Lib.hid bl
      clear ho bl
      go_ret
      exact ⟨_, rfl, Go.Joins.ownsRow_le H2.out hb0.size, hb0.trans (B2.out.mono hb0.size)⟩
    · obtain ⟨n, hn⟩ : ∃ n, n = L.length := ⟨_, rfl⟩
      have hx := hI.1
      have FC : ∀ x, Below w.heap.size w x → ∀ i, i < n → x.cell? ⟨b, off + i, none⟩ = some (.int .u64 (L.getD i 0 : Nat)) := fun x hb i hi => (hb.cell hc2).trans (hc3 i (by omega))
      have FT : Hid (∀ x, Below w.heap.size w x → Tab x) := Lib.hid fun x hb => HT.out.below hb HT.out.1
      have hwc := words_cons hL0
      have hlo := least_of hSm
      have hroom := room_lt hSm
      have hwd : word L = least L * 2 ^ 60 + laid (W (least L)) L (took L) := rfl
      have ht1 := took_pos hL0
      have ht2 := took_le L
      have ht3 := took_cap L
      rw [← hn] at hlen hc1 ht2 ⊢
      have hT0 : min (cap (least L)) n = took L := by rw [hn]; rfl
      have F21 : Hid (∀ x, Below w.heap.size w x → Calls Tryd.prog 46 #[.slice (some ⟨b, off, none⟩) n c] x fun e w' => e = .returned (.int .i64 (least L : Nat)) ∧ ∃ m, w' = x.drewN m) :=
        Lib.hid fun x hb => least21 x b off n c L hn.symm hc1 (by omega) hSm (FT.out x hb) (FC x hb)
      have F22 : Hid (∀ x, Calls Tryd.prog 47 #[.slice (some ⟨b, off, none⟩) n c, .int .i64 (W (least L) : Nat)] x fun e w' => e = .returned (.slice (some ⟨b, off, none⟩) (took L) c) ∧ w' = x) :=
        Lib.hid fun x => by rw [← hT0]; exact next22 x b off n c (least L) hc1 (by omega)
      have F24 : Hid (∀ x, Below w.heap.size w x → Calls Tryd.prog 48 #[.slice (some ⟨b, off, none⟩) (took L) c, .int .i64 (W (least L) : Nat)] x fun e w' => e = .returned (.int .u64 (laid (W (least L)) L (took L) : Nat)) ∧ w' = x) :=
        Lib.hid fun x hb => laid24 x b off (took L) c L (W (least L)) (Nat.le_trans (Nat.mul_le_mul_right _ ht3) (cap_mul _)) (W_le _) (Nat.le_trans ht3 (cap_le _)) (fun i hi => hlo.1 i hi) (fun i hi => FC x hb i (by omega))
      have FK : Hid (∀ x, Below w.heap.size w x → x.cell? ⟨0, least L, none⟩ = some (.int .i64 (W (least L) : Nat))) := Lib.hid fun x hb => (FT.out x hb).2 _ (by omega)
      have hk13 := hlo.2.1
      obtain ⟨K, hK⟩ : ∃ K, K = least L := ⟨_, rfl⟩
      obtain ⟨U, hU⟩ : ∃ U, U = W (least L) := ⟨_, rfl⟩
      obtain ⟨T, hT⟩ : ∃ T, T = took L := ⟨_, rfl⟩
      obtain ⟨R, hR⟩ : ∃ R, R = laid (W (least L)) L (took L) := ⟨_, rfl⟩
      rw [← hR] at F24 hwd hroom
      rw [← hU] at F22 F24 FK
      rw [← hK] at F21 FK hwd hk13
      rw [← hT] at F22 F24 ht1 ht2 hwc
      have hI2 : Iu w (.slice (if c = T then some ⟨b, off, none⟩ else some ⟨b, off + T, none⟩) (n - T) (c - T)) (L.drop T) := by
        refine ⟨fun x hx' => hx x (List.mem_of_mem_drop hx'), ?_⟩
        by_cases hcT : c = T
        · rw [show n - T = 0 from by omega]
          exact .inl ⟨_, _, rfl, by apply List.drop_eq_nil_of_le; omega⟩
        rw [if_neg hcT]
        refine .inr ⟨b, off + T, c - T, by rw [List.length_drop, ← hn], by rw [List.length_drop, ← hn]; omega, hc2, fun i hi => ?_⟩
        rw [List.length_drop] at hi
        rw [Nat.add_assoc, hc3 (T + i) (by omega)]
        simp [List.getD_eq_getElem?_getD, List.getElem?_drop]
      have HI2 := Lib.hid hI2
      have HW2 : Hid (words l = (ws ++ [K * 2 ^ 60 + R]) ++ words (L.drop T)) := Lib.hid (by rw [hws, hwc, hwd]; simp)
      have HSm := Lib.hid (hSm.drop T)
      have HLD : Hid ((L.drop T).length = n - T) := Lib.hid (by rw [List.length_drop, ← hn])
      have HWt := Lib.hid hWt
      have HB := Lib.hid hB
      have HBe := Lib.hid hβ
      have HO := Lib.hid hown
      clear hI hws hSm hWt hβ hB hown hc3 hx FC FT hwc hlo hwd ht3 hT0 hK hU hT hR hI2 hn
      go_wp2_with (first
        | (go_at_call 46; refine (F21.out _ HB.out).mono ?_; rintro e w2' ⟨rfl, hw2⟩
           have B2 : Hid (Below w.heap.size w w2') := by obtain ⟨m, rfl⟩ := hw2; exact Lib.hid (Below.drewN' HB.out m)
           have W2 : Hid (Wt w2' g s (64 * ws.length) β) := by obtain ⟨m, rfl⟩ := hw2; exact Lib.hid (Wt.drewN HWt.out m)
           have e2 := FK.out w2' B2.out)
        | (go_at_call 47; refine (F22.out _).mono ?_; rintro e w2 ⟨rfl, rfl⟩))
      refine (put_wt w2 g s (64 * ws.length) β K 4 4 W2.out (by omega) (by decide) (by decide) (by decide) (by omega)).mono ?_
      rintro e w3 ⟨rfl, s3, h3, m3, o3⟩
      have B3 : Hid (Below w.heap.size w w3) := Lib.hid (B2.out.trans (m3.below (by rw [HG.out]; exact Nat.le_refl _) HO.out W2.out.lt))
      have O3 : Hid (∀ k, s3.ownBlock = some k → w.heap.size ≤ k) := Lib.hid fun k hk => by have := h3.own k hk; have := HG.out; omega
      have W3 := Lib.hid h3
      have e3 := FK.out w3 B3.out
      clear h3 m3 o3 e2
      go_wp2_with (go_at_call 48; refine (F24.out _ B3.out).mono ?_; rintro e w4 ⟨rfl, rfl⟩)
      refine (put_wt w4 g s3 (64 * ws.length + 4) _ R 60 60 W3.out (by omega) (by decide) (by decide) (by decide) (by omega)).mono ?_
      rintro e w5 ⟨rfl, s5, h5, m5, o5⟩
      have B5 : Hid (Below w.heap.size w w5) := Lib.hid (B3.out.trans (m5.below (by rw [HG.out]; exact Nat.le_refl _) O3.out W3.out.lt))
      have O5 : Hid (∀ k, s5.ownBlock = some k → w.heap.size ≤ k) := Lib.hid fun k hk => by have := h5.own k hk; have := HG.out; omega
      have W5 := Lib.hid h5
      clear h5 m5 o5 e3
      go_wp2_with fail
      go_roundw
      case rel =>
        refine ⟨L.drop T, s5, ws ++ [K * 2 ^ 60 + R], put (put β (64 * ws.length) K 4 0) (64 * ws.length + 4) R 60 0, HI2.out, HW2.out, HSm.out, ?_, ?_, ?_, B5.out, O5.out⟩
        · have h1 := HLD.out
          have h2 := hlen
          simp only [List.length_append, List.length_cons, List.length_nil]
          omega
        · have h1 := W5.out
          rw [show 64 * ws.length + 4 + 60 = 64 * (ws ++ [K * 2 ^ 60 + R]).length from by simp; omega] at h1
          exact h1
        · intro i hi
          simp only [List.length_append, List.length_cons, List.length_nil] at hi
          exact put_word HBe.out hroom i (by omega)
      case measure => simp [slen]; omega
end Pk
end Go.Proofs.YtidbpoigbfpocaaDoor
