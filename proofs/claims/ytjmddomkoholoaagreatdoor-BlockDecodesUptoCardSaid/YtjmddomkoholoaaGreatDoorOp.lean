/- What opens the laws' arguments, and the tables. -/
import Derived.Test.YtjmddomkoholoaaGreatDoorCards
import Derived.Test.YtjmddomkoholoaaGreatDoorTie
import Derived.Test.YtjmddomkoholoaaGreatDoorG38
import Derived.Test.YtjmddomkoholoaaGreatDoorG22
import Derived.Deep.DeepHandedRow
import Derived.Deep.DeepWitnessRef
import Derived.Lib.LaidTab
import Derived.Lib.LaidU8
import Derived.Lay
import Derived.SevenTiedAt
import Derived.ChangeOld
import Derived.Below
import Derived.SizedLaws
import Derived.ShutString
namespace Go.Proofs.YtjmddomkoholoaaGreatDoor
open Go.ChangeShapes Go.WideShapes Go.ChangeAt Go.RowKit
namespace Op
open Cm Mt Wr Bm Pk Rp Cv Zs Vs

theorem own : ownKnob Tryz.prog.godebug = none := by kernel_rfl
theorem laidOut : laidOutB Tryz.prog = true := by kernel_rfl
theorem bnd_i64 {n : Int} (h : (Lit.int .i64 n).wf = true) : -9223372036854775808 ≤ n ∧ n ≤ 9223372036854775807 := by
  simp only [Lit.wf, Bool.and_eq_true, decide_eq_true_eq] at h
  have h1 : IntKind.i64.min = -9223372036854775808 := by decide
  have h2 : IntKind.i64.max = 9223372036854775807 := by decide
  omega
theorem bnd_u64 {n : Int} (h : (Lit.int .u64 n).wf = true) : 0 ≤ n ∧ n ≤ 18446744073709551615 := by
  simp only [Lit.wf, Bool.and_eq_true, decide_eq_true_eq] at h
  have h1 : IntKind.u64.min = 0 := by decide
  have h2 : IntKind.u64.max = 18446744073709551615 := by decide
  omega

theorem bnd_u16 {n : Int} (h : (Lit.int .u16 n).wf = true) : 0 ≤ n ∧ n < 65536 := by
  simp only [Lit.wf, Bool.and_eq_true, decide_eq_true_eq] at h
  have h1 : IntKind.u16.min = 0 := by decide
  have h2 : IntKind.u16.max = 65535 := by decide
  omega

/-- A slice of bytes that came in. -/
theorem open_bytes {H : Type} {enc : TypeId × Value → H} {W : World} {v : Value} {d : DataW H} {ps : List MemPlace} (hv : ∃ a len cap, v = .slice a len cap) (h : DataW.Trod enc Tryz.prog W 0 (fun _ => true) true 22 v d ps) :
    ∃ bs : List Nat, Pl W v bs ∧ (v = .slice none 0 0 ∨ ∃ ad c, v = .slice (some ad) bs.length c) ∧ (∀ x ∈ bs, x < 256) ∧ (bs = [] ∨ ∃ es sp, d = .slice es sp ∧ bs.length = es.length) := by
  obtain ⟨a0, len0, cap0, rfl⟩ := hv
  obtain ⟨fuel, hf⟩ := h
  rcases open_ints Tryz.underlying22 Tryz.underlying5 (by kernel_rfl) hf with ⟨hcs, _⟩ | ⟨x, l, c, zs, hcs, _, hl, hm, hz, hx, hcell, hwz⟩
  · simp [Value.cells] at hcs
    obtain ⟨rfl, rfl, rfl⟩ := hcs
    exact ⟨[], .inl ⟨rfl, _, _, rfl⟩, .inl rfl, by simp, .inl rfl⟩
  · simp [Value.cells] at hcs
    obtain ⟨rfl, rfl, rfl⟩ := hcs
    have hzl : zs.length = cap0 := by simpa using hz
    obtain ⟨rfl, -⟩ := by simpa using hx
    have hwf : ∀ n ∈ zs, 0 ≤ n ∧ n < 256 := by
      intro n hn
      have hw := hwz n hn
      simp only [Lit.wf, Bool.and_eq_true, decide_eq_true_eq] at hw
      have h1 : IntKind.u8.min = 0 := by decide
      have h2 : IntKind.u8.max = 255 := by decide
      omega
    have hlen : ((zs.take len0).map Int.toNat).length = len0 := by simp; omega
    have hget : ∀ i, i < len0 → (((zs.take len0).map Int.toNat).getD i 0 : Int) = zs.getD i 0 := by
      intro i hi
      have hz' : i < zs.length := by omega
      have h0 := hwf zs[i] (List.getElem_mem hz')
      simp [List.getD_eq_getElem?_getD, hi, hz']
      omega
    refine ⟨(zs.take len0).map Int.toNat, ?_, .inr ⟨x, cap0, by rw [hlen]⟩, ?_, ?_⟩
    · by_cases h0 : len0 = 0
      · subst h0; exact .inl ⟨by simp, _, _, rfl⟩
      · obtain ⟨b, off, spot⟩ := x
        have hc0 := hcell 0 (by omega)
        have hspot : spot = none := by simpa [Addr.add] using World.cell?_spot hc0
        subst hspot
        refine .inr ⟨by rw [hlen]; omega, b, off, cap0, by rw [hlen], by rw [hlen]; exact hl, fun i hi => ?_⟩
        rw [hlen] at hi
        have g := hcell i (by omega)
        rw [hget i hi]
        by_cases hi0 : i = 0
        · subst hi0; simpa [Addr.add] using g
        · simpa [Addr.add, hi0] using g
    · intro y hy
      simp only [List.mem_map] at hy
      obtain ⟨n, hn, rfl⟩ := hy
      have := hwf n (List.mem_of_mem_take hn)
      omega
    · exact .inr ⟨_, _, rfl, by rw [hlen]; simp [lits]; omega⟩

/-- A slice of numbers that came in. -/
theorem open_u64s {H : Type} {enc : TypeId × Value → H} {W : World} {v : Value} {d : DataW H} {ps : List MemPlace} (hv : ∃ a len cap, v = .slice a len cap) (h : DataW.Trod enc Tryz.prog W 0 (fun _ => true) true 123 v d ps) :
    ∃ L : List Nat, Iu W v L ∧ (L = [] ∨ ∃ es sp, d = .slice es sp ∧ L.length = es.length) := by
  obtain ⟨a0, len0, cap0, rfl⟩ := hv
  obtain ⟨fuel, hf⟩ := h
  rcases open_ints Tryz.underlying123 Tryz.underlying33 (by kernel_rfl) hf with ⟨hcs, _⟩ | ⟨x, l, c, zs, hcs, _, hl, hm, hz, hx, hcell, hwz⟩
  · simp [Value.cells] at hcs
    obtain ⟨rfl, rfl, rfl⟩ := hcs
    exact ⟨[], ⟨by simp, .inl ⟨_, _, rfl, rfl⟩⟩, .inl rfl⟩
  · simp [Value.cells] at hcs
    obtain ⟨rfl, rfl, rfl⟩ := hcs
    have hzl : zs.length = cap0 := by simpa using hz
    obtain ⟨rfl, -⟩ := by simpa using hx
    have hwf : ∀ n ∈ zs, 0 ≤ n ∧ n < 18446744073709551616 := by
      intro n hn
      have hw := bnd_u64 (hwz n hn)
      omega
    have hlen : ((zs.take len0).map Int.toNat).length = len0 := by simp; omega
    have hget : ∀ i, i < len0 → (((zs.take len0).map Int.toNat).getD i 0 : Int) = zs.getD i 0 := by
      intro i hi
      have hz' : i < zs.length := by omega
      have h0 := hwf zs[i] (List.getElem_mem hz')
      simp [List.getD_eq_getElem?_getD, hi, hz']
      omega
    refine ⟨(zs.take len0).map Int.toNat, ⟨?_, ?_⟩, ?_⟩
    · intro y hy
      simp only [List.mem_map] at hy
      obtain ⟨n, hn, rfl⟩ := hy
      have := hwf n (List.mem_of_mem_take hn)
      omega
    · by_cases h0 : len0 = 0
      · subst h0; exact .inl ⟨_, _, rfl, by simp⟩
      · obtain ⟨b, off, spot⟩ := x
        have hc0 := hcell 0 (by omega)
        have hspot : spot = none := by simpa [Addr.add] using World.cell?_spot hc0
        subst hspot
        refine .inr ⟨b, off, cap0, by rw [hlen], by rw [hlen]; exact hl, by have := cell_lt hc0; simpa [Addr.add] using this, fun i hi => ?_⟩
        rw [hlen] at hi
        have g := hcell i (by omega)
        rw [hget i hi]
        by_cases hi0 : i = 0
        · subst hi0; simpa [Addr.add] using g
        · simpa [Addr.add, hi0] using g
    · exact .inr ⟨_, _, rfl, by rw [hlen]; simp [lits]; omega⟩

theorem bytes33 : Tryz.prog.bytesOf 33 = 8 := by kernel_rfl
/-- What came in takes fewer than 2^47 bytes. -/
theorem reach_u64s {H : Type} {ts : List TypeId} {ds : List (DataW H)} {d : DataW H} {L : List Nat} (hsz : (DataW.weightsEach Tryz.prog ts ds).all (· ≤ reachBytes) = true) (ht : ts[0]? = some 123) (hd : ds[0]? = some d)
    (h : L = [] ∨ ∃ es sp, d = .slice es sp ∧ L.length = es.length) : L.length ≤ 17592186043904 := by
  rcases h with rfl | ⟨es, sp, rfl, he⟩
  · simp
  · have := sized_slice hsz (j := 0) ht hd Tryz.underlying123
    rw [bytes33] at this
    simp only [reachBytes] at this
    omega

theorem bytes5 : Tryz.prog.bytesOf 5 = 1 := by kernel_rfl
/-- What came in takes fewer than 2^47 bytes. -/
theorem reach_bytes {H : Type} {ts : List TypeId} {ds : List (DataW H)} {d : DataW H} {L : List Nat} (hsz : (DataW.weightsEach Tryz.prog ts ds).all (· ≤ reachBytes) = true) (ht : ts[0]? = some 22) (hd : ds[0]? = some d)
    (h : L = [] ∨ ∃ es sp, d = .slice es sp ∧ L.length = es.length) : L.length ≤ 140737488351232 := by
  rcases h with rfl | ⟨es, sp, rfl, he⟩
  · simp
  · have := sized_slice hsz (j := 0) ht hd Tryz.underlying22
    rw [bytes5] at this
    simp only [reachBytes] at this
    omega
theorem reach_bytes_at {H : Type} {ts : List TypeId} {ds : List (DataW H)} {d : DataW H} {L : List Nat} (j : Nat) (hsz : (DataW.weightsEach Tryz.prog ts ds).all (· ≤ reachBytes) = true) (ht : ts[j]? = some 22) (hd : ds[j]? = some d)
    (h : L = [] ∨ ∃ es sp, d = .slice es sp ∧ L.length = es.length) : L.length ≤ 140737488351232 := by
  rcases h with rfl | ⟨es, sp, rfl, he⟩
  · simp
  · have := sized_slice hsz (j := j) ht hd Tryz.underlying22
    rw [bytes5] at this
    simp only [reachBytes] at this
    omega
theorem bytes49 : Tryz.prog.bytesOf 37 = 40 := by kernel_rfl
theorem reach_pnts_at {H : Type} {ts : List TypeId} {ds : List (DataW H)} {d : DataW H} {L : List Kd.Pnt} (j : Nat) (hsz : (DataW.weightsEach Tryz.prog ts ds).all (· ≤ reachBytes) = true) (ht : ts[j]? = some 24) (hd : ds[j]? = some d)
    (h : L = [] ∨ ∃ es sp, d = .slice es sp ∧ L.length = es.length) : L.length ≤ 3518437208781 := by
  rcases h with rfl | ⟨es, sp, rfl, he⟩
  · simp
  · have := sized_slice hsz (j := j) ht hd Tryz.underlying24
    rw [bytes49] at this
    simp only [reachBytes] at this
    omega
theorem bnd_u8 {n : Int} (h : (Lit.int .u8 n).wf = true) : 0 ≤ n ∧ n < 256 := by
  simp only [Lit.wf, Bool.and_eq_true, decide_eq_true_eq] at h
  have h1 : IntKind.u8.min = 0 := by decide
  have h2 : IntKind.u8.max = 255 := by decide
  omega

theorem tabIs_of_mem {W : World} {l : List (String × DataW Unit)} {name : String} {k : IntKind} {zs : List Int} {g : Nat} {t e : TypeId} {n : Nat}
    (hg : Tryz.prog.globalNamed name = some g) (hty : (Tryz.prog.globals[g]?).map (·.type) = some t) (ht : Tryz.prog.underlying t = some (.array n e)) (he : Tryz.prog.underlying e = some (.int k)) (hce : Tryz.prog.cellsOf e = 1) (hct : Tryz.prog.cellsOf t = n)
    (h : laidMet Tryz.prog l W) (hm : (name, Lib.tabData k zs) ∈ l) : Lib.TabIs Tryz.prog W name k zs := by
  obtain ⟨g', t', cs, fuel, p, hg', ht', hvar, hd⟩ := Lib.laidMet.reads h hm
  obtain rfl := Option.some.inj (hg.symm.trans hg')
  obtain rfl := Option.some.inj (hty.symm.trans ht')
  unfold Lib.TabIs
  rw [hvar, ← Lib.cells_of_tab ht he hce hct hd]
theorem gTab : Tryz.prog.globalNamed "grist/pack.widths" = some 1 := by kernel_rfl
theorem gTabType : (Tryz.prog.globals[1]?).map (·.type) = some 185 := by kernel_rfl
theorem cells98 : Tryz.prog.cellsOf 185 = 14 := by kernel_rfl
theorem cells3 : Tryz.prog.cellsOf 3 = 1 := by kernel_rfl
theorem gDt : Tryz.prog.globalNamed "math/bits.deBruijn64tab" = some 2 := by kernel_rfl
theorem gDtType : (Tryz.prog.globals[2]?).map (·.type) = some 200 := by kernel_rfl
theorem cells95 : Tryz.prog.cellsOf 200 = 64 := by kernel_rfl
theorem cells5 : Tryz.prog.cellsOf 5 = 1 := by kernel_rfl
/-- The row's list gives the widths. -/
theorem tab_of {W : World} (h : laidMet Tryz.prog Rows.blockDecodesRow.laid W) : Tab W := by
  have t : Lib.TabIs Tryz.prog W "grist/pack.widths" .i64 [1, 2, 3, 4, 5, 6, 7, 8, 10, 12, 15, 20, 30, 60] :=
    tabIs_of_mem gTab gTabType Tryz.underlying185 Tryz.underlying3 cells3 cells98 h (by exact List.mem_cons_of_mem _ (List.mem_cons_self ..))
  have c : ∀ s, s < 14 → W.cell? ⟨1, s, none⟩ = some (.int .i64 (Mt.W s : Nat)) := by
    intro s hs
    have h := fun (hs' : s < 14) => t.cell gTab s hs'
    refine (h hs).trans ?_
    have : ∀ s : Fin 14, ([1, 2, 3, 4, 5, 6, 7, 8, 10, 12, 15, 20, 30, 60] : List Int).getD s.1 0 = (Mt.W s.1 : Nat) := by decide
    exact congrArg (fun z => some (Value.int .i64 z)) (this ⟨s, hs⟩)
  exact ⟨cell_lt (c 0 (by decide)), c⟩
/-- And the library's places. -/
theorem dt_of {W : World} (h : laidMet Tryz.prog Rows.blockDecodesRow.laid W) : Dt W := by
  have t : Lib.TabIs Tryz.prog W "math/bits.deBruijn64tab" .u8 (Lib.deBruijn64tab.map Int.ofNat) :=
    tabIs_of_mem gDt gDtType Tryz.underlying200 Tryz.underlying5 cells5 cells95 h (by exact List.mem_cons_self ..)
  have c : ∀ s, s < 64 → W.cell? ⟨2, s, none⟩ = some (.int .u8 (Lib.deBruijn64tab.getD s 0 : Nat)) := by
    intro s hs
    have h := fun (hs' : s < (Lib.deBruijn64tab.map Int.ofNat).length) => t.cell gDt s hs'
    refine (h hs).trans ?_
    have : ∀ s : Fin 64, (Lib.deBruijn64tab.map Int.ofNat).getD s.1 0 = (Lib.deBruijn64tab.getD s.1 0 : Nat) := by decide
    exact congrArg (fun z => some (Value.int .u8 z)) (this ⟨s, hs⟩)
  exact ⟨cell_lt (c 0 (by decide)), c⟩
end Op
end Go.Proofs.YtjmddomkoholoaaGreatDoor
