/- What came in, and how many bytes it takes at most. -/
import Derived.Test.YtbpkoneenihfcaaMainZ
import Derived.Test.YtbpkoneenihfcaaLb
import Derived.Deep.SlicePairs
import Derived.SizedLaws
namespace Go.Proofs.Ytbpkoneenihfcaa.Ox
open Go.ChangeShapes Go.WideShapes Go.ChangeAt Go.RowKit Go.Deep
open Go.Proofs.Ytbpkoneenihfcaa Go.Proofs.Ytbpkoneenihfcaa.Wr Go.Proofs.Ytbpkoneenihfcaa.Lw Go.Proofs.Ytbpkoneenihfcaa.Sr
open Go.Proofs.Ytbpkoneenihfcaa.BitsZigsDone (own laidOut bnd_i64 bnd_u64)

/-- A slice of pieces that came in. -/
theorem open_pieces {H : Type} {enc : TypeId × Value → H} {W : World} {v : Value} {d : DataW H} {ps : List MemPlace} (hv : ∃ a len cap, v = .slice a len cap) (h : DataW.Trod enc Try.prog W 0 (fun _ => true) true 22 v d ps) :
    ∃ a len cap V N, v = .slice a len cap ∧ Ps W a len V N ∧ (len = 0 ∨ ∃ es sp, d = .slice es sp ∧ len = es.length) := by
  obtain ⟨a0, len0, cap0, rfl⟩ := hv
  obtain ⟨fuel, hf⟩ := h
  rcases open_slice_pairs Try.underlying22 Try.underlying31 (by kernel_rfl) rfl rfl (by kernel_rfl) (by kernel_rfl) hf with ⟨hcs, _⟩ | ⟨a, len, cap, m, n, V0, V1, D0, D1, P0, P1, hcs, _, hl, hm, hmm, hx, hcell⟩
  · simp [Value.cells] at hcs
    obtain ⟨rfl, rfl, rfl⟩ := hcs
    exact ⟨none, 0, 0, fun _ => 0, fun _ => 0, rfl, ⟨fun i => ⟨by simp, by simp, by simp⟩, .inl rfl⟩, .inl rfl⟩
  · simp [Value.cells] at hcs
    obtain ⟨rfl, rfl, rfl⟩ := hcs
    simp only [if_true] at hmm
    obtain ⟨rfl, -⟩ := by simpa using hx
    have each : ∀ i, i < len0 → ∃ q : Nat × Int, q.1 < 18446744073709551616 ∧ -9223372036854775808 ≤ q.2 ∧ q.2 ≤ 9223372036854775807 ∧ V0 i = .int .u64 (q.1 : Nat) ∧ V1 i = .int .i64 q.2 := by
      intro i hi
      obtain ⟨_, _, t0, t1⟩ := hcell i (by omega)
      obtain ⟨x, h0, _, w0⟩ := DataW.trod_int Try.underlying29 t0
      obtain ⟨y, h1, _, w1⟩ := DataW.trod_int Try.underlying3 t1
      simp at h0 h1
      obtain ⟨x1, x2⟩ := bnd_u64 w0
      obtain ⟨y1, y2⟩ := bnd_i64 w1
      obtain ⟨X, rfl⟩ := Int.eq_ofNat_of_zero_le x1
      exact ⟨(X, y), by show X < _; omega, y1, y2, h0, h1⟩
    obtain ⟨q, hq⟩ := choose_lt each
    refine ⟨some a, len0, cap0, fun i => if i < len0 then (q i).1 else 0, fun i => if i < len0 then (q i).2 else 0, rfl, ⟨fun i => ?_, ?_⟩, .inr ⟨_, _, rfl, ?_⟩⟩
    · by_cases hi : i < len0
      · obtain ⟨h1, h2, h3, _⟩ := hq i hi
        simp only [if_pos hi]
        exact ⟨h1, h2, h3⟩
      · simp only [if_neg hi]; decide
    · by_cases h0 : len0 = 0
      · exact .inl h0
      · right
        obtain ⟨b, off, spot⟩ := a
        have hc0 := (hcell 0 (by omega)).1
        have hspot : spot = none := by simpa [Addr.add] using World.cell?_spot hc0
        subst hspot
        refine ⟨b, off, rfl, ?_, fun i hi => ?_⟩
        · have := cell_lt hc0
          simpa [Addr.add] using this
        · obtain ⟨g0, g1, _, _⟩ := hcell i (by omega)
          obtain ⟨_, _, _, e0, e1⟩ := hq i hi
          rw [e0] at g0
          rw [e1] at g1
          simp only [if_pos hi]
          refine ⟨?_, ?_⟩
          · rw [← g0]
            congr 1
            unfold Addr.add
            split
            · rename_i hz; rw [show i * 2 = 0 from hz]; rfl
            · rfl
          · rw [← g1]
            congr 1
    · simp

/-- A slice of bytes that came in. -/
theorem open_bytes {H : Type} {enc : TypeId × Value → H} {W : World} {v : Value} {d : DataW H} {ps : List MemPlace} (hv : ∃ a len cap, v = .slice a len cap) (h : DataW.Trod enc Try.prog W 0 (fun _ => true) true 26 v d ps) :
    ∃ bs : List Nat, Pl W v bs ∧ (v = .slice none 0 0 ∨ ∃ ad c, v = .slice (some ad) bs.length c) ∧ (∀ x ∈ bs, x < 256) ∧ (bs = [] ∨ ∃ es sp, d = .slice es sp ∧ bs.length = es.length) := by
  obtain ⟨a0, len0, cap0, rfl⟩ := hv
  obtain ⟨fuel, hf⟩ := h
  rcases open_ints Try.underlying26 Try.underlying5 (by kernel_rfl) hf with ⟨hcs, _⟩ | ⟨x, l, c, zs, hcs, _, hl, hm, hz, hx, hcell, hwz⟩
  · simp [Value.cells] at hcs
    obtain ⟨rfl, rfl, rfl⟩ := hcs
    exact ⟨[], .inl ⟨rfl, _, _, rfl⟩, .inl rfl, by simp, .inl rfl⟩
  · simp [Value.cells] at hcs
    obtain ⟨rfl, rfl, rfl⟩ := hcs
    have hzl : zs.length = cap0 := by simpa using hz
    obtain ⟨rfl, -⟩ := by simpa using hx
    have hwf : ∀ n ∈ zs, 0 ≤ n ∧ n < 256 := by
      intro n hn
      have hw := hwz n hn
      simp only [Lit.wf, Bool.and_eq_true, decide_eq_true_eq] at hw
      have h1 : IntKind.u8.min = 0 := by decide
      have h2 : IntKind.u8.max = 255 := by decide
      omega
    have hlen : ((zs.take len0).map Int.toNat).length = len0 := by simp; omega
    have hget : ∀ i, i < len0 → (((zs.take len0).map Int.toNat).getD i 0 : Int) = zs.getD i 0 := by
      intro i hi
      have hz' : i < zs.length := by omega
      have h0 := hwf zs[i] (List.getElem_mem hz')
      simp [List.getD_eq_getElem?_getD, hi, hz']
      omega
    refine ⟨(zs.take len0).map Int.toNat, ?_, .inr ⟨x, cap0, by rw [hlen]⟩, ?_, ?_⟩
    · by_cases h0 : len0 = 0
      · subst h0; exact .inl ⟨by simp, _, _, rfl⟩
      · obtain ⟨b, off, spot⟩ := x
        have hc0 := hcell 0 (by omega)
        have hspot : spot = none := by simpa [Addr.add] using World.cell?_spot hc0
        subst hspot
        refine .inr ⟨by rw [hlen]; omega, b, off, cap0, by rw [hlen], by rw [hlen]; exact hl, fun i hi => ?_⟩
        rw [hlen] at hi
        have g := hcell i (by omega)
        rw [hget i hi]
        by_cases hi0 : i = 0
        · subst hi0; simpa [Addr.add] using g
        · simpa [Addr.add, hi0] using g
    · intro y hy
      simp only [List.mem_map] at hy
      obtain ⟨n, hn, rfl⟩ := hy
      have := hwf n (List.mem_of_mem_take hn)
      omega
    · exact .inr ⟨_, _, rfl, by rw [hlen]; simp [lits]; omega⟩

theorem bytes5 : Try.prog.bytesOf 5 = 1 := by kernel_rfl
theorem bytesPiece : Try.prog.bytesOf 31 = 16 := by kernel_rfl
theorem reach_bytes {H : Type} {ts : List TypeId} {ds : List (DataW H)} {d : DataW H} {n j : Nat} (hsz : (DataW.weightsEach Try.prog ts ds).all (· ≤ reachBytes) = true) (ht : ts[j]? = some 26) (hd : ds[j]? = some d)
    (h : n = 0 ∨ ∃ es sp, d = .slice es sp ∧ n = es.length) : n ≤ 140737488351232 := by
  rcases h with rfl | ⟨es, sp, rfl, he⟩
  · simp
  · have := sized_slice hsz (j := j) ht hd Try.underlying26
    rw [bytes5] at this
    simp only [reachBytes] at this
    omega
theorem reach_pieces {H : Type} {ts : List TypeId} {ds : List (DataW H)} {d : DataW H} {n : Nat} (hsz : (DataW.weightsEach Try.prog ts ds).all (· ≤ reachBytes) = true) (ht : ts[0]? = some 22) (hd : ds[0]? = some d)
    (h : n = 0 ∨ ∃ es sp, d = .slice es sp ∧ n = es.length) : n ≤ 8796093021952 := by
  rcases h with rfl | ⟨es, sp, rfl, he⟩
  · simp
  · have := sized_slice hsz (j := 0) ht hd Try.underlying22
    rw [bytesPiece] at this
    simp only [reachBytes] at this
    omega
theorem len_or {bs : List Nat} {Q : Prop} (h : bs = [] ∨ Q) : bs.length = 0 ∨ Q := h.elim (fun e => .inl (by rw [e]; rfl)) .inr
end Go.Proofs.Ytbpkoneenihfcaa.Ox
