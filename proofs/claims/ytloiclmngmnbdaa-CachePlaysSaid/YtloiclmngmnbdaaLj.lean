/- slices.Insert at points, both ways. -/
import Derived.Test.YtloiclmngmnbdaaLi
namespace Go.Proofs.Ytloiclmngmnbdaa
open Go.RowKit Go.Maps Go.ChangeMaps Go.MapKept
namespace Lj
open Jb Ca Ck Ct Cd Ls Lb Lc Ld Li

set_option maxRecDepth 100000
set_option maxHeartbeats 2000000 in
theorem insert55_shift (w : World) (sb n c i vb vc : Nat) (cur cv : Array Value) (L : List Pnt) (p : Pnt) (hn : n = L.length) (hi : i < n) (hroom : n + 1 ≤ c) (hc : c ≤ maxLen) (hvb : vb ≠ sb)
    (hs : w.heap[sb]? = some (.cells cur 32 (0, 0))) (hsz : cur.size = c * 4) (hcur : cur.toList.take (n * 4) = pcs L) (hv : w.heap[vb]? = some (.cells cv 32 (0, 0))) (hcv : cv.toList = pc p) :
    Calls Try.prog 55 #[.slice (some ⟨sb, 0, none⟩) n c, .int .i64 i, .slice (some ⟨vb, 0, none⟩) 1 vc] w fun e w' =>
      e = .returned (.slice (some ⟨sb, 0, none⟩) (n + 1) c) ∧ w'.ownsRow 0 32 4 (.slice (some ⟨sb, 0, none⟩) (n + 1) c) (n + 1) (pcs (L.take i ++ p :: L.drop i)) ∧ Chg w w' (fun k => k = sb) := by
  have hov : ∀ lb cb o, (callFunc 70 #[.slice (some ⟨vb, 0, none⟩) 1 vc, .slice (some ⟨sb, o, none⟩) lb cb]).run Try.prog w = .ok (.value (.bool false)) w := fun lb cb o => overlaps_no w vb sb vc lb cb o cv cur hvb hv hs (by omega)
  have hz2 : ¬ ((i : Int) = (n : Int)) := by omega
  have hw1 : IntKind.i64.wrap ((i : Int) + 1) = (i : Int) + 1 := by rw [IntKind.wrap_i64]; unfold maxLen at hc; omega
  have hb1 : (0 : Int) ≤ (i : Int) + 1 := by omega
  have hin : i ≤ n := by omega
  have htn : ((i : Int) + 1).toNat = i + 1 := by omega
  have hb2 : ¬ (c = i + 1) := by omega
  have hb4 : ¬ (c = i) := by omega
  have hb3 : (i : Int) ≤ (n : Int) + 1 := by omega
  have hc63 : c ≤ 9223372036854775807 := by unfold maxLen at hc; omega
  have hnn : ¬ ((n : Int) + 1 > c) := by omega
  have hLl : (pcs L).length = n * 4 := by rw [pcs_len, hn]
  have hX : (pcs (L.drop i)).length = (n - i) * 4 := by rw [pcs_len, List.length_drop, hn]
  have cc : cur.toList.length = c * 4 := by simpa using hsz
  obtain ⟨r1, r2, r3⟩ := list_shift cur.toList i n (pcs (L.drop i)) (pc p) (pc_len p) hi hX (by rw [cc]; omega)
  obtain ⟨C1, hC1⟩ : ∃ C1, C1 = (cur.toList.take ((i + 1) * 4) ++ pcs (L.drop i) ++ cur.toList.drop ((i + 1) * 4 + (pcs (L.drop i)).length)) := ⟨_, rfl⟩
  simp only [← hC1] at r1 r2 r3
  obtain ⟨C2, hC2⟩ : ∃ C2, C2 = (C1.take (i * 4) ++ pc p ++ C1.drop (i * 4 + (pc p).length)) := ⟨_, rfl⟩
  rw [← hC2] at r1 r2
  have src1 : ∀ j v, (pcs (L.drop i))[j]? = some v → w.cell? ⟨sb, i * 4 + j, none⟩ = some v := fun j v hj => by
    rw [cell_at hs]
    rw [← pcs_drop, ← hcur, List.getElem?_drop, List.getElem?_take] at hj
    split at hj
    · rw [← Array.getElem?_toList]; exact hj
    · cases hj
  have hcp1 : ∀ (W : World), (∀ x : Nat, W.heap[x]? = w.heap[x]?) → ∀ ty dc sc, (Builtin.copy_ #[43, 43] ty #[.slice (some ⟨sb, (i + 1) * 4, none⟩) (n - i) dc, .slice (some ⟨sb, i * 4, none⟩) (n + 1 - i) sc]).run Try.prog W = .ok (goInt ((n - i : Nat) : Int)) (W.setRow sb C1.toArray) := fun W hW ty dc sc => by
    rw [hC1]
    exact run_copy_rowK 4 W 43 43 ty 32 sb ((i + 1) * 4) (n - i) dc ⟨sb, i * 4, none⟩ (n + 1 - i) sc cur 32 (pcs (L.drop i)) (n - i) Try.underlying43 sizeP ((hW sb).trans hs) (by simp only [Nat.min_def]; split <;> omega) hX (fun j v hj => by rw [Addr.add_lit, World.cell?_of_block (hW sb)]; exact src1 j v hj) (by rw [hX, hsz]; omega) (pcs_one _)
  have hcp2 : ∀ (W : World), W.heap[sb]? = some (.cells C1.toArray 32 (0, 0)) → W.heap[vb]? = w.heap[vb]? → ∀ ty dc, (Builtin.copy_ #[43, 43] ty #[.slice (some ⟨sb, i * 4, none⟩) (n + 1 - i) dc, .slice (some ⟨vb, 0, none⟩) 1 vc]).run Try.prog W = .ok (goInt 1) (W.setRow sb C2.toArray) := fun W hW1 hW2 ty dc => by
    rw [hC2]
    have := run_copy_rowK 4 W 43 43 ty 32 sb (i * 4) (n + 1 - i) dc ⟨vb, 0, none⟩ 1 vc C1.toArray 32 (pc p) 1 Try.underlying43 sizeP hW1 (by simp only [Nat.min_def]; split <;> omega) (pc_len p) (fun j v hj => by
      rw [Addr.add_lit, World.cell?_of_block hW2, cell_at hv, Nat.zero_add, ← Array.getElem?_toList, hcv]; exact hj) (by simp [r3, cc, pc_len]; omega) (fun v hv => pc_one p v hv)
    simpa using this
  have HE := Lib.hid (show ∀ w' : World, (∀ k, k ≠ sb → w'.heap[k]? = w.heap[k]?) → w'.heap.size = w.heap.size → w'.os = w.os → w'.tape = w.tape → w'.output = w.output → w'.heap[sb]? = some (.cells C2.toArray 32 (0, 0)) →
      w'.ownsRow 0 32 4 (.slice (some ⟨sb, 0, none⟩) (n + 1) c) (n + 1) (pcs (L.take i ++ p :: L.drop i)) ∧ Chg w w' (fun k => k = sb) from fun w' h1 h2 h3 h4 h5 h6 => by
    refine ⟨⟨by rw [pcs_len]; simp; omega, .inr ⟨sb, c, C2.toArray, rfl, Nat.zero_le _, h6, hroom, hc, by simp [r2, cc], ?_⟩⟩, ⟨h3, h4, h5, by omega, fun k _ hk => h1 k hk⟩⟩
    have e1 : cur.toList.take (i * 4) = pcs (L.take i) := by
      rw [← pcs_take, ← hcur, List.take_take, Nat.min_eq_left (by omega)]
    simp only [r1, e1]
    rw [pcs_app]
    show _ = pcs (L.take i) ++ (pc p ++ pcs (L.drop i))
    rw [List.append_assoc])
  have HS := Lib.hid hs
  clear hcur hv hcv hs hn hLl hX r1 r2 r3 hC1 hC2 src1 cc hsz hc
  go_enter Try.func55, Try.ntmps55
  go_wp2_with (simp only [hov])
  go_region_law (refine step_copy_runI rfl _ _ 43 43 rfl (.slice (some ⟨sb, (i + 1) * 4, none⟩) (n - i) (c - (i + 1))) (.slice (some ⟨sb, i * 4, none⟩) (n + 1 - i) (c - i)) (by simp [Act.eval, Act.put]) (by simp [Act.eval, Act.put]) (hcp1 w.drew (fun _ => rfl) _ _ _) ?_)
  have hx1 := setRow_heap w.drew sb cur C1.toArray 32 (0, 0) HS.out
  have hx2 := setRow_other w.drew sb vb C1.toArray hvb
  have HX1 := Lib.hid hx1
  have HO1 := Lib.hid (fun k (hk : k ≠ sb) => setRow_other w.drew sb k C1.toArray hk)
  obtain ⟨W1, hW1⟩ : ∃ W1, W1 = w.drew.setRow sb C1.toArray := ⟨_, rfl⟩
  have HM : Hid (W1.heap.size = w.heap.size ∧ W1.os = w.os ∧ W1.tape = w.tape ∧ W1.output = w.output) := Lib.hid (by rw [hW1]; exact ⟨by simp [World.setRow], rfl, rfl, rfl⟩)
  rw [← hW1] at hx1 hx2 HX1 HO1 ⊢
  replace hcp2 := fun ty dc => hcp2 W1 hx1 hx2 ty dc
  clear hx1 hx2 hW1
  go_wp2_with (at_builtin; refine wpList_copy_runI _ rfl _ _ 43 43 rfl _ _ rfl rfl (hcp2 _ _) ?_)
  go_ret
  obtain ⟨m1, m2, m3, m4⟩ := HM.out
  exact ⟨rfl, HE.out _ (fun k hk => (setRow_other W1 sb k C2.toArray hk).trans (HO1.out k hk)) (by simp [World.setRow, m1]) m2 m3 m4 (setRow_heap W1 sb _ C2.toArray 32 (0, 0) HX1.out)⟩
theorem take_zero_app (A B Z : List Value) (k : Nat) (h : (A ++ B).length = k) : (A ++ (B ++ Z)).take k = A ++ B := by
  rw [← List.append_assoc, ← h, List.take_left]
theorem zc_len (n : Nat) : (Builtin.zeroCells (#[.int .i64 0, .int .i64 0, .int .u64 0, .string ⟨#[]⟩] : Array Value) n).toList.length = n * 4 := by
  simp [Builtin.zeroCells]
set_option maxHeartbeats 2000000 in
theorem insert55_grow (w : World) (sb n c i vb vc : Nat) (cur cv : Array Value) (L : List Pnt) (p : Pnt) (hn : n = L.length) (hi : i < n) (hroom : c < n + 1) (hnc : n ≤ c) (hn9 : n ≤ 1000000) (_ : vb ≠ sb)
    (hs : w.heap[sb]? = some (.cells cur 32 (0, 0))) (_ : cur.size = c * 4) (hcur : cur.toList.take (n * 4) = pcs L) (hv : w.heap[vb]? = some (.cells cv 32 (0, 0))) (hcv : cv.toList = pc p) :
    Calls Try.prog 55 #[.slice (some ⟨sb, 0, none⟩) n c, .int .i64 i, .slice (some ⟨vb, 0, none⟩) 1 vc] w fun e w' =>
      ∃ G, e = .returned (.slice (some ⟨w.heap.size, 0, none⟩) (n + 1) G) ∧ w'.ownsRow 0 32 4 (.slice (some ⟨w.heap.size, 0, none⟩) (n + 1) G) (n + 1) (pcs (L.take i ++ p :: L.drop i)) ∧ Below w.heap.size w w' := by
  obtain ⟨i0, hi0, hz0, hzs, hzb⟩ := info_parts infoP
  have hz2 : ¬ ((i : Int) = (n : Int)) := by omega
  have hz3 : (c : Int) < (n : Int) + 1 := by omega
  have hsb : sb < w.heap.size := (Array.getElem?_eq_some_iff.1 hs).1
  have hvw : vb < w.heap.size := (Array.getElem?_eq_some_iff.1 hv).1
  have hkk : (n : Int) + 1 - (i : Int) = ((n + 1 - i : Nat) : Int) := by omega
  have hik : i + (n + 1 - i) = n + 1 := by omega
  have cold : ∀ k : Nat, k ≤ n → ∀ j v, (pcs (L.take k))[j]? = some v → w.cell? ⟨sb, 0 + j, none⟩ = some v := fun k hk j v hj => by
    rw [cell_at hs, Nat.zero_add]
    rw [← pcs_take, ← hcur, List.take_take, List.getElem?_take] at hj
    split at hj
    · rw [← Array.getElem?_toList]; exact hj
    · cases hj
  have hold : (Builtin.firstCells i0.size i (.slice (some ⟨sb, 0, none⟩) i c)).run Try.prog w.drew = .ok (pcs (L.take i)).toArray w.drew := by
    rw [hzs]
    exact run_firstCells_some w.drew 4 i ⟨sb, 0, none⟩ i c (pcs (L.take i)) (by rw [pcs_len, List.length_take]; omega) (fun j v hj => by rw [Addr.add_lit]; exact cold i (by omega) j v hj)
  have hrz : ∀ ty, (Builtin.append_ #[43, 3] ty #[.slice (some ⟨sb, 0, none⟩) i c, .int .i64 ((n : Int) + 1 - (i : Int))]).run Try.prog w =
      .ok (.slice (some ⟨w.heap.size, 0, none⟩) (n + 1) (grownCap w (n + 1) c 32)) (w.drew.alloc (.cells ((pcs (L.take i)).toArray ++ Builtin.zeroCells #[.int .i64 0, .int .i64 0, .int .u64 0, .string ⟨#[]⟩] (n + 1 - i) ++ Builtin.zeroCells #[.int .i64 0, .int .i64 0, .int .u64 0, .string ⟨#[]⟩] (grownCap w (n + 1) c 32 - (n + 1))) 32)) := fun ty => by
    have h := Lib.run_append_grow_zeros (P := Try.prog) w 43 3 ty 32 i0 _ .i64 .i64 Try.underlying43 Try.underlying3 hi0 hz0 (some ⟨sb, 0, none⟩) i c (pcs (L.take i)) hold (n + 1 - i) (by omega) (by omega) (by omega) (by omega) (by rw [hzb]; omega) (by rw [hzb, hik]; exact growslice_fits hroom (by omega))
    rw [hik] at h
    rw [hkk]
    exact h
  obtain ⟨G, hG⟩ : ∃ G, G = grownCap w (n + 1) c 32 := ⟨_, rfl⟩
  have hGn : n + 1 ≤ G := by rw [hG]; exact grownCap_ge w _ _ _
  have hGm : G ≤ maxLen := by
    have := grownCap_le_maxLen w (n + 1) c 32 (by unfold maxLen; omega)
    rw [← hG] at this
    exact this
  rw [← hG] at hrz
  obtain ⟨R0, hR0⟩ : ∃ R0 : List Value, R0 = pcs (L.take i) ++ (Builtin.zeroCells #[.int .i64 0, .int .i64 0, .int .u64 0, .string ⟨#[]⟩] (n + 1 - i)).toList ++ (Builtin.zeroCells #[.int .i64 0, .int .i64 0, .int .u64 0, .string ⟨#[]⟩] (G - (n + 1))).toList := ⟨_, rfl⟩
  have hRe : (pcs (L.take i)).toArray ++ Builtin.zeroCells #[.int .i64 0, .int .i64 0, .int .u64 0, .string ⟨#[]⟩] (n + 1 - i) ++ Builtin.zeroCells #[.int .i64 0, .int .i64 0, .int .u64 0, .string ⟨#[]⟩] (G - (n + 1)) = R0.toArray := by rw [hR0]; simp
  rw [hRe] at hrz
  have hRl : R0.length = G * 4 := by rw [hR0, List.length_append, List.length_append, zc_len, zc_len, pcs_len, List.length_take]; omega
  have hRt : R0.take (i * 4) = pcs (L.take i) := by
    rw [hR0, List.append_assoc, List.take_append_of_le_length (by rw [pcs_len, List.length_take]; omega), List.take_of_length_le (by rw [pcs_len, List.length_take]; omega)]
  have hX : (pcs (L.drop i)).length = (n - i) * 4 := by rw [pcs_len, List.length_drop, hn]
  obtain ⟨C1, hC1⟩ : ∃ C1, C1 = R0.take (i * 4) ++ pc p ++ R0.drop (i * 4 + (pc p).length) := ⟨_, rfl⟩
  have c1l : C1.length = G * 4 := by rw [hC1]; simp [pc_len, hRl]; omega
  obtain ⟨C2, hC2⟩ : ∃ C2, C2 = C1.take ((i + 1) * 4) ++ pcs (L.drop i) ++ C1.drop ((i + 1) * 4 + (pcs (L.drop i)).length) := ⟨_, rfl⟩
  have c2l : C2.length = G * 4 := by rw [hC2]; simp [hX, c1l]; omega
  have c2t : C2.take ((n + 1) * 4) = pcs (L.take i ++ p :: L.drop i) := by
    have e1 : C1.take ((i + 1) * 4) = pcs (L.take i) ++ pc p := by
      rw [hC1, hRt, List.take_append_of_le_length (by simp [pc_len, pcs_len]; omega), List.take_of_length_le (by simp [pc_len, pcs_len]; omega)]
    rw [hC2, e1, List.take_append_of_le_length (by simp [pc_len, pcs_len]; omega), List.take_of_length_le (by simp [pc_len, pcs_len]; omega), pcs_app]
    show _ = pcs (L.take i) ++ (pc p ++ pcs (L.drop i))
    rw [List.append_assoc]
  have hcpA : ∀ (W : World), W.heap[w.heap.size]? = some (.cells R0.toArray 32 (0, 0)) → W.heap[vb]? = w.heap[vb]? → ∀ ty dc, (Builtin.copy_ #[43, 43] ty #[.slice (some ⟨w.heap.size, i * 4, none⟩) (n + 1 - i) dc, .slice (some ⟨vb, 0, none⟩) 1 vc]).run Try.prog W = .ok (goInt 1) (W.setRow w.heap.size C1.toArray) := fun W hW1 hW2 ty dc => by
    rw [hC1]
    have := run_copy_rowK 4 W 43 43 ty 32 w.heap.size (i * 4) (n + 1 - i) dc ⟨vb, 0, none⟩ 1 vc R0.toArray 32 (pc p) 1 Try.underlying43 sizeP hW1 (by simp only [Nat.min_def]; split <;> omega) (pc_len p) (fun j v hj => by
      rw [Addr.add_lit, World.cell?_of_block hW2, cell_at hv, Nat.zero_add, ← Array.getElem?_toList, hcv]; exact hj) (by simp [hRl, pc_len]; omega) (fun v hv => pc_one p v hv)
    simpa using this
  have hcpB : ∀ (W : World), W.heap[w.heap.size]? = some (.cells C1.toArray 32 (0, 0)) → W.heap[sb]? = w.heap[sb]? → ∀ ty dc sc, (Builtin.copy_ #[43, 43] ty #[.slice (some ⟨w.heap.size, (i + 1) * 4, none⟩) (n - i) dc, .slice (some ⟨sb, i * 4, none⟩) (n - i) sc]).run Try.prog W = .ok (goInt ((n - i : Nat) : Int)) (W.setRow w.heap.size C2.toArray) := fun W hW1 hW2 ty dc sc => by
    rw [hC2]
    have := run_copy_rowK 4 W 43 43 ty 32 w.heap.size ((i + 1) * 4) (n - i) dc ⟨sb, i * 4, none⟩ (n - i) sc C1.toArray 32 (pcs (L.drop i)) (n - i) Try.underlying43 sizeP hW1 (by simp) hX (fun j v hj => by
      rw [Addr.add_lit, World.cell?_of_block hW2, cell_at hs]
      rw [← pcs_drop, ← hcur, List.getElem?_drop, List.getElem?_take] at hj
      split at hj
      · rw [← Array.getElem?_toList]; exact hj
      · cases hj) (by simp [c1l, hX]; omega) (pcs_one _)
    simpa using this
  have HE := Lib.hid (show ∀ w' : World, (∀ k, k < w.heap.size → w'.heap[k]? = w.heap[k]?) → w'.heap.size = w.heap.size + 1 → w'.os = w.os → w'.tape = w.tape → w'.output = w.output → w'.heap[w.heap.size]? = some (.cells C2.toArray 32 (0, 0)) →
      w'.ownsRow 0 32 4 (.slice (some ⟨w.heap.size, 0, none⟩) (n + 1) G) (n + 1) (pcs (L.take i ++ p :: L.drop i)) ∧ Below w.heap.size w w' from fun w' h1 h2 h3 h4 h5 h6 => by
    refine ⟨⟨by rw [pcs_len]; simp; omega, .inr ⟨w.heap.size, G, C2.toArray, rfl, Nat.zero_le _, h6, hGn, hGm, by simp [c2l], by simpa using c2t⟩⟩, ⟨h3, h4, h5, by omega, h1⟩⟩)
  have hin : i ≤ n := by omega
  have hb4 : ¬ (c = i) := by omega
  have hGi : ¬ (G = i) := by omega
  have hGim : ¬ (G = i + 1) := by omega
  have hw1 : IntKind.i64.wrap ((i : Int) + 1) = (i : Int) + 1 := by rw [IntKind.wrap_i64]; omega
  have hb1 : (0 : Int) ≤ (i : Int) + 1 := by omega
  have htn : ((i : Int) + 1).toNat = i + 1 := by omega
  have hb3 : (i : Int) ≤ (n : Int) := by omega
  have hG63 : G ≤ 9223372036854775807 := by unfold maxLen at hGm; omega
  obtain ⟨W0, hW0⟩ : ∃ W0, W0 = (w.alloc (.cells R0.toArray 32)).drew := ⟨_, rfl⟩
  have hn0 : W0.heap[w.heap.size]? = some (.cells R0.toArray 32 (0, 0)) := by rw [hW0]; exact heap_alloc_new w _
  have ho0 : ∀ k, k < w.heap.size → W0.heap[k]? = w.heap[k]? := fun k hk => by rw [hW0]; exact Below.heap_alloc w _ k hk
  have hm0 : W0.heap.size = w.heap.size + 1 ∧ W0.os = w.os ∧ W0.tape = w.tape ∧ W0.output = w.output := by rw [hW0]; exact ⟨by simp, rfl, rfl, rfl⟩
  obtain ⟨W1, hW1⟩ : ∃ W1, W1 = W0.setRow w.heap.size C1.toArray := ⟨_, rfl⟩
  have hn1 : W1.heap[w.heap.size]? = some (.cells C1.toArray 32 (0, 0)) := by rw [hW1]; exact setRow_heap W0 _ _ _ _ _ hn0
  have ho1 : ∀ k, k < w.heap.size → W1.heap[k]? = w.heap[k]? := fun k hk => by rw [hW1]; exact (setRow_other W0 _ k _ (by omega)).trans (ho0 k hk)
  have hm1 : W1.heap.size = w.heap.size + 1 ∧ W1.os = w.os ∧ W1.tape = w.tape ∧ W1.output = w.output := by
    obtain ⟨a, b, c, d⟩ := hm0
    rw [hW1]
    exact ⟨by simp [World.setRow, a], b, c, d⟩
  have CA := hcpA W0 hn0 (ho0 vb hvw)
  have CB := hcpB W1.drew hn1 (ho1 sb hsb)
  have HE2 := Lib.hid (HE.out (W1.drew.setRow w.heap.size C2.toArray) (fun k hk => (setRow_other W1.drew _ k _ (by omega)).trans (ho1 k hk)) (by
    have := hm1.1
    simp [World.setRow, this]) hm1.2.1 hm1.2.2.1 hm1.2.2.2 (setRow_heap W1.drew _ _ _ _ _ hn1))
  rw [← hW1] at CA
  have HW0 := Lib.hid hW0
  clear hcur hv hcv hs hn hX hC1 hC2 cold hold hG hGm hR0 hRe hRl hRt c1l c2l c2t hkk hik hi0 hz0 hzs hzb HE hcpA hcpB hW0 hn0 ho0 hm0 hW1 hn1 ho1 hm1
  go_enter Try.func55, Try.ntmps55
  go_wp2_with (first | (at_builtin; refine Lib.wpList_append_run _ rfl _ _ _ _ rfl _ _ rfl rfl _ _ (hrz _) ?_; rw [show (w.drew.alloc (.cells R0.toArray 32)) = W0 from HW0.out.symm]) | (at_builtin; refine wpList_copy_runI _ rfl _ _ 43 43 rfl _ _ rfl rfl (CA _ _) ?_))
  go_region_law (refine step_copy_runI rfl _ _ 43 43 rfl (.slice (some ⟨w.heap.size, (i + 1) * 4, none⟩) (n - i) (G - (i + 1))) (.slice (some ⟨sb, i * 4, none⟩) (n - i) (c - i)) (by simp [Act.eval, Act.put]) (by simp [Act.eval, Act.put]) (CB _ _ _) ?_)
  go_wp2_with fail
  go_ret
  exact ⟨G, rfl, HE2.out⟩
end Lj
end Go.Proofs.Ytloiclmngmnbdaa
