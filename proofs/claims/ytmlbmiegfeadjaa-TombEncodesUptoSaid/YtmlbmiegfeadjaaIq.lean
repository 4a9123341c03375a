/- The document's side: Join, Two, Eight, ReadAt. -/
import Derived.Test.YtmlbmiegfeadjaaIc
import Derived.Lib.ConvBytes
import Derived.Lib.SmallJoins
import Derived.Laws.AppendOwnNone
namespace Go.Proofs.Ytmlbmiegfeadjaa
open Go.RowKit
namespace Iq
open Ga Gm Gt
open Bm Mt Wr Ia Ib

/-- A slice of bytes, laid from a block's first cell on; there may be none. -/
def Pz (w : World) (s : Value) (bs : List Nat) : Prop :=
  ∃ g c, s = .slice (some ⟨g, 0, none⟩) bs.length c ∧ ∀ j u, (u8s bs)[j]? = some u → w.cell? ((⟨g, 0, none⟩ : Addr).add j) = some u
theorem Pz.below {w w' : World} {s : Value} {bs : List Nat} (h : Pz w s bs) (b : Below w.heap.size w w') : Pz w' s bs := by
  obtain ⟨g, c, h1, h2⟩ := h
  exact ⟨g, c, h1, fun j u hj => (b.cell (cell_lt (h2 j u hj))).trans (h2 j u hj)⟩
/-- The same; or nil. -/
def Pe (w : World) (s : Value) (bs : List Nat) : Prop := (s = .slice none 0 0 ∧ bs = []) ∨ Pz w s bs
theorem Pe.below {w w' : World} {s : Value} {bs : List Nat} (h : Pe w s bs) (b : Below w.heap.size w w') : Pe w' s bs := h.imp id fun h => h.below b
theorem pe_own {w : World} {B n : Nat} {s : Value} {bs : List Nat} (hn : n = bs.length) (h : w.ownsRow B 5 1 s n (u8s bs)) : Pe w s bs := by
  subst hn
  rcases Go.Joins.ownsRow_forms h with ⟨rfl, h0⟩ | ⟨g, cap, rfl⟩
  · exact .inl ⟨rfl, List.length_eq_zero_iff.1 h0⟩
  · exact .inr ⟨g, cap, rfl, h.cells rfl⟩
theorem take_flat (ps : List (List Nat)) (k : Nat) (hk : k < ps.length) : (ps.take (k + 1)).flatten = (ps.take k).flatten ++ ps.getD k [] := by
  rw [List.take_add_one, List.flatten_append, List.getElem?_eq_getElem hk, List.getD_eq_getElem?_getD, List.getElem?_eq_getElem hk]
  simp
theorem flat_get (ps : List (List Nat)) (k : Nat) (hk : k < ps.length) : ((ps.take k).flatten).length + (ps.getD k []).length ≤ ps.flatten.length := by
  have h1 := take_flat ps k hk
  have h2 : ps.flatten = (ps.take (k + 1)).flatten ++ (ps.drop (k + 1)).flatten := by rw [← List.flatten_append, List.take_append_drop]
  rw [h2, h1]
  simp

set_option maxRecDepth 100000 in
set_option maxHeartbeats 1000000 in
theorem join22 (w : World) (b : Nat) (K : Nat) (ps : List (List Nat)) (hK : K = ps.length) (hK9 : K ≤ 9) (hl : ps.flatten.length ≤ 70368744177664) (hb : b < w.heap.size)
    (hc : ∀ i, i < K → ∃ s, w.cell? ⟨b, i, none⟩ = some s ∧ Pe w s (ps.getD i [])) :
    Calls Try.prog 22 #[.slice (some ⟨b, 0, none⟩) K K] w fun e w' => ∃ r, e = .returned r ∧ w'.ownsRow w.heap.size 5 1 r ps.flatten.length (u8s ps.flatten) ∧ Below w.heap.size w w' := by
  obtain ⟨i0, hi, hz0, hz1, hz2⟩ := info_parts info5
  have HALL : Hid (K = ps.length) := Lib.hid hK
  have HC := Lib.hid hc
  have HL := Lib.hid hl
  clear hc hl hK
  go_enter Try.func22, Try.ntmps22
  go_wp2_with fail
  go_loopw [4, 3, 7] (fun _ o i wr => ∃ k, k ≤ K ∧ i = .int .i64 (k : Nat) ∧ wr.ownsRow w.heap.size 5 1 o (ps.take k).flatten.length (u8s (ps.take k).flatten) ∧ Below w.heap.size w wr) (fun _ _ i _ => K - (intOf i).toNat)
  case atStart => exact ⟨0, Nat.zero_le _, rfl, World.ownsRow_nil _ _ _ _, Below.refl _ _⟩
  case round =>
    obtain ⟨k, hk, rfl, ho, hbl⟩ := hrel
    by_cases hkn : k < K
    · obtain ⟨s, hs, hP⟩ := HC.out k hkn
      have e1 := (hbl.cell hb).trans hs
      rcases hP.below hbl with ⟨rfl, hps⟩ | ⟨g, c, rfl, hcell⟩
      · have hf := take_flat ps k (by have := HALL.out; omega)
        rw [hps, List.append_nil] at hf
        obtain ⟨pre, hpre⟩ : ∃ pre, pre = (ps.take k).flatten := ⟨_, rfl⟩
        rw [← hpre] at hf ho
        obtain ⟨R, hR⟩ : ∃ R, R = pre.length := ⟨_, rfl⟩
        rw [← hR] at ho
        have HF : Hid (u8s (ps.take (k + 1)).flatten = u8s pre ∧ (ps.take (k + 1)).flatten.length = R) := Lib.hid ⟨by rw [hf], by rw [hf, hR]⟩
        have HB := Lib.hid hbl
        have HO := Lib.hid ho
        clear ho hbl hf hpre hP hs hR hps
        go_wp2_with (at_builtin; refine wpList_append_own_none rfl (.tmp 10) (.tmp 14) 23 rfl w.heap.size 5 i0 1 Try.underlying23 hi _ R _ rfl HO.out rfl ?_)
        go_wp2_with fail
        go_roundw
        case rel => exact ⟨k + 1, by omega, by go_num, by rw [HF.out.1, HF.out.2]; exact HO.out, HB.out⟩
        case measure => simp [intOf]; omega
      have hf := take_flat ps k (by have := HALL.out; omega)
      have hfl := flat_get ps k (by have := HALL.out; omega)
      have hll := HL.out
      obtain ⟨bs, hbs⟩ : ∃ bs, bs = ps.getD k [] := ⟨_, rfl⟩
      obtain ⟨pre, hpre⟩ : ∃ pre, pre = (ps.take k).flatten := ⟨_, rfl⟩
      rw [← hbs] at hcell hf hfl e1
      rw [← hpre] at hf hfl ho
      have hsum : pre.length + bs.length ≤ 70368744177664 := by omega
      have HF : Hid (u8s (ps.take (k + 1)).flatten = u8s pre ++ u8s bs ∧ (ps.take (k + 1)).flatten.length = pre.length + bs.length) := Lib.hid ⟨by rw [hf]; simp [u8s], by rw [hf, List.length_append]⟩
      have hul := u8s_len bs
      have HONE : Hid (∀ u ∈ u8s bs, u.oneCell' = true) := Lib.hid fun u hu => by simp [u8s] at hu; obtain ⟨x, _, rfl⟩ := hu; rfl
      obtain ⟨Q, hQ⟩ : ∃ Q, Q = bs.length := ⟨_, rfl⟩
      obtain ⟨R, hR⟩ : ∃ R, R = pre.length := ⟨_, rfl⟩
      rw [← hQ] at hsum HF hul e1
      rw [← hR] at ho HF hsum
      have HCL := Lib.hid hcell
      have HB := Lib.hid hbl
      have hbs2 := hbl.size
      have hown := ho
      clear ho hbl hcell hf hfl hbs hpre hll hP hs hQ hR
      go_wp2_with (at_builtin; refine wpList_append_own _ rfl (.tmp 10) (.tmp 14) 23 rfl w.heap.size 5 i0 (.int .u8 0) 1 1 Try.underlying23 hi hz0 hz1 hz2 rfl (by decide) _ R _ rfl hown ⟨g, 0, none⟩ Q c (u8s bs) rfl (by rw [hul]; omega) ?c1 ?c2 ?c3 ?c4 ?c5 ?_)
      case c1 => exact HCL.out
      case c2 => exact HONE.out
      case c3 => unfold maxLen; omega
      case c4 => omega
      case c5 => omega
      intro v' w2 hown' hgrow _
      have b2 := Lib.hid (Below.grown HB.out hgrow hbs2 (fun r hr => (hown.lt r hr).1))
      clear hgrow
      have hO2 := Lib.hid hown'
      clear hown'
      go_wp2_with fail
      go_roundw
      case rel => exact ⟨k + 1, by omega, by go_num, by rw [HF.out.1, HF.out.2]; exact hO2.out, b2.out⟩
      case measure => simp [intOf]; omega
    · obtain rfl : k = K := by omega
      have HB := Lib.hid hbl
      have HO := Lib.hid ho
      clear ho hbl
      go_wp2_with fail
      go_ret
      refine ⟨_, rfl, ?_, HB.out⟩
      have h1 := HO.out
      rw [List.take_of_length_le (by have := HALL.out; omega)] at h1
      exact h1


theorem new_cell (w : World) (vs : Array Value) (t : TypeId) (i : Nat) (v : Value) (h : vs[i]? = some v) : (w.alloc (.cells vs t)).cell? ⟨w.heap.size, i, none⟩ = some v := by
  rw [cell_of_row _ _ _ _ _ _ (heap_alloc_new _ _)]; exact h
set_option maxRecDepth 100000 in
set_option maxHeartbeats 1000000 in
theorem eight24 (w : World) (x : Nat) :
    Calls Try.prog 24 #[.int .u64 (x : Nat)] w fun e w' => ∃ g c, e = .returned (.slice (some ⟨g, 0, none⟩) 8 c) ∧ w'.ownsRow w.heap.size 5 1 (.slice (some ⟨g, 0, none⟩) 8 c) 8 (u8s (eight x)) ∧ Below w.heap.size w w' := by
  obtain ⟨i0, hi, hz0, hz1, hz2⟩ := info_parts info5
  go_enter Try.func24, Try.ntmps24
  go_wp2_with fail
  go_loopw [5, 3] (fun i o wr => ∃ k, k ≤ 8 ∧ i = .int .i64 (k : Nat) ∧ wr.ownsRow w.heap.size 5 1 o k (u8s ((eight x).take k)) ∧ Below w.heap.size w wr) (fun i _ _ => 8 - (intOf i).toNat)
  case atStart => exact ⟨0, Nat.zero_le _, rfl, World.ownsRow_nil _ _ _ _, Below.refl _ _⟩
  case round =>
    obtain ⟨k, hk, rfl, ho, hb⟩ := hrel
    by_cases hk8 : k < 8
    · have hown := ho
      have hB := Lib.hid hb
      have hbs := hb.size
      have h0 : (0 : Int) ≤ 56 - 8 * (k : Int) := by omega
      have h1 : (56 - 8 * (k : Int)).toNat = 56 - 8 * k := by omega
      obtain ⟨y, hy⟩ : ∃ y, y = x / 2 ^ (56 - 8 * k) % 256 := ⟨_, rfl⟩
      have hyi : (x : Int) / 2 ^ (56 - 8 * k) % 256 = ((y : Nat) : Int) := by rw [hy]; push_cast; rfl
      have HY : Hid ((eight x).take (k + 1) = (eight x).take k ++ [y]) := Lib.hid (by
        have : k = 0 ∨ k = 1 ∨ k = 2 ∨ k = 3 ∨ k = 4 ∨ k = 5 ∨ k = 6 ∨ k = 7 := by omega
        rw [hy]
        rcases this with rfl | rfl | rfl | rfl | rfl | rfl | rfl | rfl <;> simp [eight])
      clear ho hb hy
      go_wp2_with (at_builtin; refine wpList_append_own _ rfl (.tmp 8) (.tmp 16) 23 rfl w.heap.size 5 i0 (.int .u8 0) 1 1 Try.underlying23 hi hz0 hz1 hz2 rfl (by decide) _ _ _ rfl (hown.alloc _) ⟨wr.heap.size, 0, none⟩ 1 1 [.int .u8 (y : Nat)] rfl rfl ?c1 ?c2 ?c3 ?c4 ?c5 ?_)
      case c1 => exact cell_one_new _ _ _
      case c2 => intro u hu; simp at hu; subst hu; rfl
      case c3 => unfold maxLen; omega
      case c4 => omega
      case c5 => simp; omega
      intro v' w2 hown' hgrow _
      have b2 := Lib.hid (Below.grown (hB.out.alloc (Nat.le_trans (Nat.le_refl _) hbs) _) hgrow (by simp; omega) (fun r hr => (hown.lt r hr).1))
      clear hgrow
      have hO2 := Lib.hid hown'
      clear hown'
      go_wp2_with fail
      go_roundw
      case rel => exact ⟨k + 1, by omega, by go_num, by rw [HY.out, u8s_snoc]; exact hO2.out, b2.out⟩
      case measure => simp [intOf]; omega
    · obtain rfl : k = 8 := by omega
      have hB := Lib.hid hb
      obtain ⟨g, c, rfl⟩ := Go.Joins.ownsRow_form ho (by omega)
      have hO := Lib.hid ho
      clear hb ho
      go_wp2_with fail
      go_ret
      exact ⟨g, c, rfl, hO.out, hB.out⟩
set_option maxRecDepth 100000 in
theorem two23 (w : World) (n : Nat) :
    Calls Try.prog 23 #[.int .i64 (n : Nat)] w fun e w' => ∃ r, e = .returned r ∧ Pz w' r (two n) ∧ Below w.heap.size w w' := by
  have h1 : (n : Int) / 256 % 256 = ((n / 256 % 256 : Nat) : Int) := by omega
  have h2 : (n : Int) % 256 = ((n % 256 : Nat) : Int) := by omega
  have HT : Hid (u8s (two n) = [.int .u8 ((n / 256 % 256 : Nat) : Int), .int .u8 ((n % 256 : Nat) : Int)]) := Lib.hid rfl
  obtain ⟨A, hA⟩ : ∃ A, A = n / 256 % 256 := ⟨_, rfl⟩
  obtain ⟨B, hB⟩ : ∃ B, B = n % 256 := ⟨_, rfl⟩
  rw [← hA] at h1 HT
  rw [← hB] at h2 HT
  clear hA hB
  go_enter Try.func23, Try.ntmps23
  go_wp2_with fail
  go_ret
  refine ⟨_, rfl, ⟨w.heap.size, 2, rfl, fun j u hj => ?_⟩, (Below.refl _ _).alloc (Nat.le_refl _) _⟩
  rw [HT.out] at hj
  rw [show (⟨w.heap.size, 0, none⟩ : Addr).add j = ⟨w.heap.size, j, none⟩ from by unfold Addr.add; split <;> simp_all, cell_of_row _ _ _ _ _ _ (heap_alloc_new _ _)]
  match j, hj with
  | 0, hj => exact hj
  | 1, hj => exact hj
theorem getD_nums (S : ByteArray) (j : Nat) (hj : j < S.size) : (nums S)[j]? = some (S.data.toList.getD j 0).toNat := by
  have h : j < S.data.toList.length := by rw [Array.length_toList]; exact hj
  unfold nums
  rw [List.getElem?_map, List.getD_eq_getElem?_getD, List.getElem?_eq_getElem h]
  rfl
/-- A string's bytes, laid anew. -/
theorem conv_pz (w : World) (S : ByteArray) : ∃ v w', (convert 9 23 (.string S)).run Try.prog w = .ok v w' ∧ Pz w' v (nums S) ∧ Below w.heap.size w w' := by
  refine ⟨_, _, Lib.run_convert_string_bytes w 9 23 5 S Try.underlying9 Try.underlying23 Try.underlying5, ⟨w.heap.size, _, by rw [nums_len], fun j u hj => ?_⟩, Go.Joins.below_bytesWorld _ _ _ _ (Nat.le_refl _)⟩
  have hjl : j < S.size := by
    rw [List.getElem?_eq_some_iff] at hj
    obtain ⟨hj, _⟩ := hj
    simpa [u8s, nums_len] using hj
  rw [show (⟨w.heap.size, 0, none⟩ : Addr).add j = ⟨w.heap.size, j, none⟩ from by unfold Addr.add; split <;> simp_all, Lib.bytesWorld_cell _ _ _ _ hjl]
  unfold u8s at hj
  rw [List.getElem?_map, getD_nums S j hjl] at hj
  exact hj
theorem two23f (w : World) (n : Nat) :
    Calls Try.prog 23 #[.int .i64 (n : Nat)] w fun e w' => ∃ g c, e = .returned (.slice (some ⟨g, 0, none⟩) 2 c) ∧ Pe w' (.slice (some ⟨g, 0, none⟩) 2 c) (two n) ∧ Below w.heap.size w w' := by
  refine (two23 w n).mono ?_
  rintro e w' ⟨r, rfl, ⟨g, c, rfl, h⟩, b⟩
  exact ⟨g, c, rfl, .inr ⟨g, c, rfl, h⟩, b⟩
theorem eight24f (w : World) (x : Nat) :
    Calls Try.prog 24 #[.int .u64 (x : Nat)] w fun e w' => ∃ g c, e = .returned (.slice (some ⟨g, 0, none⟩) 8 c) ∧ Pe w' (.slice (some ⟨g, 0, none⟩) 8 c) (eight x) ∧ Below w.heap.size w w' := by
  refine (eight24 w x).mono ?_
  rintro e w' ⟨g, c, rfl, ho, b⟩
  exact ⟨g, c, rfl, pe_own rfl ho, b⟩
theorem conv_fun : ∃ (ff : ByteArray → World → World) (cc : ByteArray → World → Nat), (∀ S w, (convert 9 23 (.string S)).run Try.prog w = .ok (.slice (some ⟨w.heap.size, 0, none⟩) S.size (cc S w)) (ff S w)) ∧ ∀ S w, Pe (ff S w) (.slice (some ⟨w.heap.size, 0, none⟩) S.size (cc S w)) (nums S) ∧ Below w.heap.size w (ff S w) := by
  refine ⟨fun S w => Lib.bytesWorld w 5 S, fun S w => grownCap w S.size 0 5, fun S w => Lib.run_convert_string_bytes w 9 23 5 S Try.underlying9 Try.underlying23 Try.underlying5, fun S w => ?_⟩
  obtain ⟨v, w', h1, h2, h3⟩ := conv_pz w S
  rw [Lib.run_convert_string_bytes w 9 23 5 S Try.underlying9 Try.underlying23 Try.underlying5] at h1
  injection h1 with e1 e2
  subst e1 e2
  exact ⟨.inr h2, h3⟩
/-- The pieces at hand. -/
def Hv (W0 w : World) (l : List (Value × List Nat)) : Prop := Below W0.heap.size W0 w ∧ ∀ x ∈ l, Pe w x.1 x.2
theorem Hv.drew {W0 w : World} {l : List (Value × List Nat)} (h : Hv W0 w l) : Hv W0 w.drew l := ⟨h.1.drew, h.2⟩
theorem Hv.add {W0 w w' : World} {l : List (Value × List Nat)} {r : Value} {bs : List Nat} (h : Hv W0 w l) (b : Below w.heap.size w w') (p : Pe w' r bs) : Hv W0 w' ((r, bs) :: l) := by
  refine ⟨h.1.trans (b.mono h.1.size), fun x hx => ?_⟩
  rcases List.mem_cons.1 hx with rfl | hx
  · exact p
  · exact (h.2 x hx).below b
theorem join7 (W0 y : World) (s0 s1 s2 s3 s4 s5 s6 : Value) (p0 p1 p2 p3 p4 p5 p6 : List Nat) (l : List (Value × List Nat)) (h : Hv W0 y l) (h0 : (s0, p0) ∈ l) (h1 : (s1, p1) ∈ l) (h2 : (s2, p2) ∈ l) (h3 : (s3, p3) ∈ l) (h4 : (s4, p4) ∈ l) (h5 : (s5, p5) ∈ l) (h6 : (s6, p6) ∈ l)
    (hl : (p0 ++ (p1 ++ (p2 ++ (p3 ++ (p4 ++ (p5 ++ p6)))))).length ≤ 70368744177664) :
    Calls Try.prog 22 #[.slice (some ⟨y.heap.size, 0, none⟩) 7 7] (y.alloc (.cells #[s0, s1, s2, s3, s4, s5, s6] 23)) fun e w' => ∃ r, e = .returned r ∧ w'.ownsRow W0.heap.size 5 1 r (p0 ++ (p1 ++ (p2 ++ (p3 ++ (p4 ++ (p5 ++ p6)))))).length (u8s (p0 ++ (p1 ++ (p2 ++ (p3 ++ (p4 ++ (p5 ++ p6))))))) ∧ Below W0.heap.size W0 w' := by
  have b0 : Below y.heap.size y (y.alloc (.cells #[s0, s1, s2, s3, s4, s5, s6] 23)) := (Below.refl _ _).alloc (Nat.le_refl _) _
  have hf : [p0, p1, p2, p3, p4, p5, p6].flatten = p0 ++ (p1 ++ (p2 ++ (p3 ++ (p4 ++ (p5 ++ p6))))) := by simp
  have hv := h
  have h := join22 (y.alloc (.cells #[s0, s1, s2, s3, s4, s5, s6] 23)) y.heap.size 7 [p0, p1, p2, p3, p4, p5, p6] rfl (by decide) (by rw [hf]; exact hl) (by simp) (fun i hi => by
    match i, hi with
    | 0, _ => exact ⟨s0, new_cell _ _ _ 0 _ rfl, (h.2 _ h0).below b0⟩
    | 1, _ => exact ⟨s1, new_cell _ _ _ 1 _ rfl, (h.2 _ h1).below b0⟩
    | 2, _ => exact ⟨s2, new_cell _ _ _ 2 _ rfl, (h.2 _ h2).below b0⟩
    | 3, _ => exact ⟨s3, new_cell _ _ _ 3 _ rfl, (h.2 _ h3).below b0⟩
    | 4, _ => exact ⟨s4, new_cell _ _ _ 4 _ rfl, (h.2 _ h4).below b0⟩
    | 5, _ => exact ⟨s5, new_cell _ _ _ 5 _ rfl, (h.2 _ h5).below b0⟩
    | 6, _ => exact ⟨s6, new_cell _ _ _ 6 _ rfl, (h.2 _ h6).below b0⟩)
  refine h.mono ?_
  rintro e w' ⟨r, he, ho, bl⟩
  rw [hf] at ho
  have hz := hv.1.size
  exact ⟨r, he, Go.Joins.ownsRow_le ho (by simp; omega), hv.1.trans ((b0.trans (bl.mono (by simp))).mono hv.1.size)⟩
theorem step_call {P : Program} {ops : Array Oper} {o : Oper} {a : Act} {w : World} {K : Act → World → Prop} {Q : Exit → Act → World → Prop} {E : Prop}
    (hg : o.guard = none) (f : Nat) (x : Operand) (t : TypeId) (hop : o.op = Op.call { callee := Callee.value (Operand.func f), args := #[x], argTypes := #[t] })
    (v : Value) (hv : a.eval x = v) (hF : (callFunc f #[v]).run P w = .ok (Next.enter f #[v]) w) (hC : Calls P f #[v] w fun e w' => ∃ r, e = .returned r ∧ K (a.put o.dst r) w') :
    if Region.wanted o (yielded ops a.tmps) = true then Oper.wp P o a w K Q else E := by
  have hw : Region.wanted o (yielded ops a.tmps) = true := by simp [Region.wanted, hg]
  rw [if_pos hw]
  have hf : a.eval (Operand.func f) = Value.func (Fn.func f) #[] #[] := rfl
  unfold Oper.wp
  simp [execOp, hop, resolve, hv, hf, Deferred.ofValue, invoke, hF, Oper.upon]
  refine hC.mono ?_
  intro e w' h
  obtain ⟨r, rfl, hk⟩ := h
  exact hk
theorem ent23 (v : Value) (w : World) : (callFunc 23 #[v]).run Try.prog w = .ok (Next.enter 23 #[v]) w := by
  simp [callFunc, Try.func23, Try.f23]
theorem ent24 (v : Value) (w : World) : (callFunc 24 #[v]).run Try.prog w = .ok (Next.enter 24 #[v]) w := by
  simp [callFunc, Try.func24, Try.f24]
theorem ent22 (v : Value) (w : World) : (callFunc 22 #[v]).run Try.prog w = .ok (Next.enter 22 #[v]) w := by
  simp [callFunc, Try.func22, Try.f22]
end Iq
end Go.Proofs.Ytmlbmiegfeadjaa
