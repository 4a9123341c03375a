/- The statement BitsWrites, where what is read is of small bulk. -/
import Derived.Test.YtbpkoneenihfcaaLw
import Derived.Test.YtbpkoneenihfcaaMainS
import Derived.Deep.SlicePairs
namespace Go.Proofs.Ytbpkoneenihfcaa.BitsWritesDone
open Go.ChangeShapes Go.WideShapes Go.ChangeAt Go.RowKit Go.Deep
open Go.Proofs.Ytbpkoneenihfcaa.Wr Go.Proofs.Ytbpkoneenihfcaa.Lw
open Go.Proofs.Ytbpkoneenihfcaa.BitsZigsDone (own laidOut bnd_i64 bnd_u64)
open Go.Proofs.Ytbpkoneenihfcaa.BitsShortsDone (short_of)

/-- A slice of pieces that came in. -/
theorem open_pieces {H : Type} {enc : TypeId × Value → H} {W : World} {v : Value} {d : DataW H} {ps : List MemPlace} (hv : ∃ a len cap, v = .slice a len cap) (h : DataW.Trod enc Try.prog W 0 (fun _ => true) true 22 v d ps) :
    ∃ a len cap V N, v = .slice a len cap ∧ Ps W a len V N ∧ (∀ ds, d ∈ ds → Rows.uptoSmall H ds = true → len ≤ 1048576) := by
  obtain ⟨a0, len0, cap0, rfl⟩ := hv
  obtain ⟨fuel, hf⟩ := h
  rcases open_slice_pairs Try.underlying22 Try.underlying31 (by kernel_rfl) rfl rfl (by kernel_rfl) (by kernel_rfl) hf with ⟨hcs, _⟩ | ⟨a, len, cap, m, n, V0, V1, D0, D1, P0, P1, hcs, _, hl, hm, hmm, hx, hcell⟩
  · simp [Value.cells] at hcs
    obtain ⟨rfl, rfl, rfl⟩ := hcs
    exact ⟨none, 0, 0, fun _ => 0, fun _ => 0, rfl, ⟨fun i => ⟨by simp, by simp, by simp⟩, .inl rfl⟩, fun _ _ _ => by omega⟩
  · simp [Value.cells] at hcs
    obtain ⟨rfl, rfl, rfl⟩ := hcs
    simp only [if_true] at hmm
    obtain ⟨rfl, -⟩ := by simpa using hx
    have each : ∀ i, i < len0 → ∃ q : Nat × Int, q.1 < 18446744073709551616 ∧ -9223372036854775808 ≤ q.2 ∧ q.2 ≤ 9223372036854775807 ∧ V0 i = .int .u64 (q.1 : Nat) ∧ V1 i = .int .i64 q.2 := by
      intro i hi
      obtain ⟨_, _, t0, t1⟩ := hcell i (by omega)
      obtain ⟨x, h0, _, w0⟩ := DataW.trod_int Try.underlying29 t0
      obtain ⟨y, h1, _, w1⟩ := DataW.trod_int Try.underlying3 t1
      simp at h0 h1
      obtain ⟨x1, x2⟩ := bnd_u64 w0
      obtain ⟨y1, y2⟩ := bnd_i64 w1
      obtain ⟨X, rfl⟩ := Int.eq_ofNat_of_zero_le x1
      exact ⟨(X, y), by show X < _; omega, y1, y2, h0, h1⟩
    obtain ⟨q, hq⟩ := choose_lt each
    refine ⟨some a, len0, cap0, fun i => if i < len0 then (q i).1 else 0, fun i => if i < len0 then (q i).2 else 0, rfl, ⟨fun i => ?_, ?_⟩, fun ds hd hk => ?_⟩
    · by_cases hi : i < len0
      · obtain ⟨h1, h2, h3, _⟩ := hq i hi
        simp only [if_pos hi]
        exact ⟨h1, h2, h3⟩
      · simp only [if_neg hi]; decide
    · by_cases h0 : len0 = 0
      · exact .inl h0
      · right
        obtain ⟨b, off, spot⟩ := a
        have hc0 := (hcell 0 (by omega)).1
        have hspot : spot = none := by simpa [Addr.add] using World.cell?_spot hc0
        subst hspot
        refine ⟨b, off, rfl, ?_, fun i hi => ?_⟩
        · have := cell_lt hc0
          simpa [Addr.add] using this
        · obtain ⟨g0, g1, _, _⟩ := hcell i (by omega)
          obtain ⟨_, _, _, e0, e1⟩ := hq i hi
          rw [e0] at g0
          rw [e1] at g1
          simp only [if_pos hi]
          refine ⟨?_, ?_⟩
          · rw [← g0]
            congr 1
            unfold Addr.add
            split
            · rename_i hz; rw [show i * 2 = 0 from hz]; rfl
            · rfl
          · rw [← g1]
            congr 1
    · have h := short_of hd hk
      simpa using h

theorem contract (H : Type) (enc : TypeId × Value → H) (W : World) (base : Nat) (args : Array Value) (ds gs : List (DataW H)) (before : List MemPlace)
    (hval : ∀ (j : Nat) t v, Try.f3.params[j]? = some t → args[j]? = some v → Value.okWide Try.prog W .any base t v)
    (hW : DataW.Whole enc Try.prog Try.f3.params.toList Rows.bitsWritesSpec.vars false W args.toList ds gs before) (hk : Rows.uptoSmall H (ds ++ gs) = true) :
    Calls Try.prog 3 args W fun e W' => ∃ v, e = .returned v ∧ Rows.bitsWritesSpec.post enc Try.prog Try.f3 false true false false W args v W' := by
  have hW' := hW
  obtain ⟨p, q, hA0, hV, rfl, hfz, hnd⟩ := hW
  have hA : DataW.TrodAll enc Try.prog W 0 (fun _ => true) true Try.f3.params.toList args.toList ds p := hA0
  rw [Try.params3] at hA hval
  obtain ⟨v0, vs0, d0, ds0, p0, q0, hargs, rfl, rfl, h0, r0⟩ := trodAll_cons hA
  obtain ⟨rfl, rfl, rfl⟩ := trodAll_nil r0
  obtain rfl : args = #[v0] := by cases args; simp_all
  obtain ⟨rfl, rfl⟩ := trodVars_none hV
  have k0 := h0
  have lt0 : ∀ x ∈ p0, x.block < W.heap.size := by obtain ⟨m, hm⟩ := k0; exact DataW.trod_lt m _ _ _ hm
  obtain ⟨a, len, cap, V, N, rfl, hP, hL⟩ := open_pieces (okWide_slice Try.underlying22 (hval 0 22 v0 rfl rfl)) h0
  have hl := hL _ (List.mem_append_left _ (by simp)) hk
  clear hA0 hL
  refine (writes3 W a len cap V N hP hl).mono fun e W' ⟨he, bel⟩ => ?_
  subst he
  exact ⟨_, rfl, _, _, _, [], _, [], hW', trodAll_mk1 (shut_bool Try.underlying4 _), (trodAll_cons_mk (Below.trod laidOut (by kernel_rfl) (of_decide_eq_true (by kernel_rfl)) k0 bel lt0) trodAll_mk0), rfl, bel.frame _, fun h => by cases h⟩

set_option maxRecDepth 100000 in
theorem lifted (os : Os) (started : os.Started) (H : Type) (enc : TypeId × Value → H) (F : Stop.Interp) :
    ReturnsInHanded {} Try.checked os 3 .any ((Rows.OpenSpec.upto Rows.bitsWritesSpec).pre6 enc Try.prog Try.f3 Rows.bitsWritesUptoRow.domain false) (((Rows.OpenSpec.upto Rows.bitsWritesSpec).at F).post enc Try.prog Try.f3 false true false false) := by
  refine returnsInHanded_of_cond (C := Try.checked) (s := Rows.OpenSpec.upto Rows.bitsWritesSpec) (k := Rows.uptoSmall) rfl own started (by kernel_rfl) Try.func3
    (OpenSpec.witness (enc := enc) (C := Try.checked) (s := Rows.OpenSpec.upto Rows.bitsWritesSpec) (k := Rows.uptoSmall) rfl false ⟨#[], #[.slice none 0 0], []⟩ 8 (by kernel_rfl) (by kernel_rfl) (by kernel_rfl)
      (x := ([.nil], [], [])) (by kernel_rfl) rfl (by kernel_rfl)) ?_
  intro W base args ds gs before hval hW _ hk _
  exact contract H enc W base args ds gs before hval hW hk

theorem proved : Rows.BitsWritesUptoSaid :=
  OpenClaim.holds_of_cond 3 Try.f3 rfl rfl rfl rfl rfl rfl rfl ⟨rfl, rfl, rfl, rfl, rfl⟩ rfl rfl rfl rfl rfl (by kernel_rfl) Try.func3 (by kernel_rfl)
    (of_decide_eq_true (by kernel_rfl)) (by unfold Func.isWrapper; first | (rw [if_pos (by decide +kernel)]; kernel_rfl) | (rw [if_neg (by decide +kernel)]; exact ⟨rfl, rfl⟩))
    (fun os started H enc _ F => lifted os started H enc F)
end Go.Proofs.Ytbpkoneenihfcaa.BitsWritesDone
