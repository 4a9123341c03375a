/- Texts that are struck out by a predicate; the series without a tag. -/
import Derived.Test.YtalanjhpacjmmaaGreatKp
import Derived.Lib.SliceRun
import Derived.Lib.LazyBuf
import Derived.Deep.Upon
namespace Go.Proofs.YtalanjhpacjmmaaGreat
set_option maxRecDepth 100000
open Go.RowKit Go.Maps Go.ChangeMaps Go.MapKept Go.Sort Go.Shelf
namespace Kq
open Jb Ka Kb Kc Kd Kf Kg Kh Ki Kj Kk Kl Km Kn Ko Kp Sa Sb Sg Sp

def tx (ns : List (List UInt8)) (i : Nat) : Tx := ba (ns.getD i [])
/-- What the predicate answers at each text, in every world behind. -/
def Prd (B : Nat) (w : World) (f : Nat) (lb : Array Value) (ns : List (List UInt8)) (pr : Nat → Bool) : Prop := ∀ y, Below B w y → ∀ i, i < ns.length → Calls Tryz.prog f (#[.string (tx ns i)] ++ lb) y fun e y' => e = .returned (.bool (pr i)) ∧ Below y.heap.size y y'
/-- The first place where the predicate holds. -/
def IdxR (n : Nat) (pr : Nat → Bool) (r : Int) : Prop := (r = -1 ∧ ∀ i, i < n → pr i = false) ∨ ∃ k : Nat, k < n ∧ r = (k : Nat) ∧ pr k = true ∧ ∀ i, i < k → pr i = false
set_option maxHeartbeats 1000000 in
theorem indexFunc (w1 w : World) (B : Nat) (hB : Below B w1 w) (hBw : B ≤ w.heap.size) (p2 p3 : Value) (ns : List (List UInt8)) (pr : Nat → Bool) (h : Prd B w1 93 #[p2, p3] ns pr) (rb c : Nat) (hrb : ∀ i, i < ns.length → w.cell? ⟨rb, i, none⟩ = some (.string (tx ns i))) (hn : ns.length ≤ 9223372036854775807) (hc : ns.length ≤ c) :
    Calls Tryz.prog 117 #[.slice (some ⟨rb, 0, none⟩) ns.length c, .func (.func 93) #[] #[p2, p3]] w fun e w' => ∃ r : Int, e = .returned (.int .i64 r) ∧ Hid (IdxR ns.length pr r) ∧ Below w.heap.size w w' := by
  obtain ⟨n, hN⟩ : ∃ n, n = ns.length := ⟨_, rfl⟩
  have HP := Lib.hid h
  have HR := Lib.hid hrb
  have HBB := Lib.hid hB
  have HBS := Lib.hid hBw
  rw [← hN] at HR hn hc ⊢
  have HN := Lib.hid hN
  clear h hrb hN hB hBw
  go_enter Tryz.func117, Tryz.ntmps117
  go_wp2_with fail
  go_loopw [5, 8] (fun _ i wr => ∃ j : Nat, j ≤ n ∧ i = .int .i64 (j : Nat) ∧ Hid (∀ q, q < j → pr q = false) ∧ Hid (Below w.heap.size w wr)) (fun _ i _ => n - (intOf i).toNat)
  case atStart => exact ⟨0, Nat.zero_le _, rfl, Lib.hid (fun q hq => by omega), Lib.hid (Below.refl _ _)⟩
  case round =>
    obtain ⟨j, hj, rfl, HA, BW⟩ := hrel
    by_cases hjn : j < n
    case neg =>
      obtain rfl : j = n := by omega
      clear hjn
      go_wp2_with fail
      go_ret
      exact ⟨-1, rfl, Lib.hid (.inl ⟨rfl, HA.out⟩), BW.out⟩
    have x0 : wr.cell? ⟨rb, j, none⟩ = some (.string (tx ns j)) := (BW.out.cell (p := ⟨rb, j, none⟩) (cell_lt (HR.out j hjn))).trans (HR.out j hjn)
    have CA := Lib.hid (HP.out wr (HBB.out.trans (BW.out.mono HBS.out)) j (by rw [← HN.out]; exact hjn))
    obtain ⟨X, hX⟩ : ∃ X, X = tx ns j := ⟨_, rfl⟩
    rw [← hX] at x0 CA
    have hj0 : (0 : Int) ≤ (j : Int) := by omega
    clear hX
    by_cases hp : pr j = true
    · rw [hp] at CA
      have HP1 := Lib.hid hp
      clear hp
      go_wp2_with (go_at_call 93; refine CA.out.mono ?_; clear CA; rintro e w2 ⟨rfl, b2⟩; have B2 := Lib.hid b2; clear b2)
      go_ret
      exact ⟨(j : Nat), rfl, Lib.hid (.inr ⟨j, hjn, rfl, HP1.out, HA.out⟩), BW.out.trans (B2.out.mono BW.out.size)⟩
    · have hp' : pr j = false := by simpa using hp
      rw [hp'] at CA
      have HP1 := Lib.hid hp'
      clear hp hp'
      go_wp2_with (go_at_call 93; refine CA.out.mono ?_; clear CA; rintro e w2 ⟨rfl, b2⟩; have B2 := Lib.hid b2; clear b2)
      go_roundw
      case rel =>
        refine ⟨j + 1, by omega, by go_num, Lib.hid fun q hq => ?_, Lib.hid (BW.out.trans (B2.out.mono BW.out.size))⟩
        by_cases e : q = j
        · rw [e]; exact HP1.out
        · exact HA.out q (by omega)
      case measure => simp [intOf]; omega
theorem indexFunc0 (w : World) (a : Option Addr) (c : Nat) (fv : Value) :
    Calls Tryz.prog 117 #[.slice a 0 c, fv] w fun e w' => e = .returned (.int .i64 (-1)) ∧ w' = w := by
  go_enter Tryz.func117, Tryz.ntmps117
  go_wp2_with fail
  refine wp_loop_rounds 1 ?_
  rw [rounds_succ]
  go_wp2_with fail
  go_ret
  trivial
/-- What is kept of the first j. -/
def kp (ns : List (List UInt8)) (pr : Nat → Bool) (j : Nat) : List (List UInt8) := ((List.range j).filter fun i => !pr i).map fun i => ns.getD i []
theorem kp_succ (ns : List (List UInt8)) (pr : Nat → Bool) (j : Nat) : kp ns pr (j + 1) = kp ns pr j ++ (if pr j then [] else [ns.getD j []]) := by
  unfold kp
  rw [List.range_succ, List.filter_append, List.map_append]
  cases h : pr j <;> simp [h]
theorem kp_len (ns : List (List UInt8)) (pr : Nat → Bool) (j : Nat) : (kp ns pr j).length ≤ j := by
  unfold kp
  rw [List.length_map]
  exact Nat.le_trans (List.length_filter_le _ _) (by simp)
theorem kp_all (ns : List (List UInt8)) (pr : Nat → Bool) (j : Nat) (h : ∀ i, i < j → pr i = false) : kp ns pr j = (List.range j).map fun i => ns.getD i [] := by
  unfold kp
  rw [List.filter_eq_self.2]
  intro i hi
  rw [h i (List.mem_range.1 hi)]; rfl
theorem kp_all_len (ns : List (List UInt8)) (pr : Nat → Bool) (j : Nat) (h : ∀ i, i < j → pr i = false) : (kp ns pr j).length = j := by rw [kp_all ns pr j h]; simp
theorem kp_get (ns : List (List UInt8)) (pr : Nat → Bool) (j : Nat) (h : ∀ i, i < j → pr i = false) {i : Nat} (hi : i < j) : (kp ns pr j).getD i [] = ns.getD i [] := by
  rw [kp_all ns pr j h, List.getD_eq_getElem?_getD, List.getElem?_map, List.getElem?_range hi]; rfl
theorem kp_full (ns : List (List UInt8)) (pr : Nat → Bool) (h : ∀ i, i < ns.length → pr i = false) : kp ns pr ns.length = ns := by
  apply List.ext_getElem
  · exact kp_all_len ns pr _ h
  · intro i h1 h2
    have := kp_get ns pr _ h h2
    rw [List.getD_eq_getElem?_getD, List.getElem?_eq_getElem h1, List.getD_eq_getElem?_getD, List.getElem?_eq_getElem h2] at this
    exact this
/-- The row under way: i of the first j are kept, and lie at its head. -/
structure Dl (w : World) (rb : Nat) (ns : List (List UInt8)) (pr : Nat → Bool) (i j : Nat) : Prop where
  froz : ∀ q, w.frozen? ⟨rb, q, none⟩ = false
  len : (kp ns pr j).length = i
  ij : i < j
  jn : j ≤ ns.length
  hd : ∀ q, q < i → w.cell? ⟨rb, q, none⟩ = some (.string (ba ((kp ns pr j).getD q [])))
  tl : ∀ q, q < ns.length → ∃ u, w.cell? ⟨rb, q, none⟩ = some u
  rest : ∀ q, j ≤ q → q < ns.length → w.cell? ⟨rb, q, none⟩ = some (.string (tx ns q))
theorem Dl.below {w w' : World} {rb : Nat} {ns : List (List UInt8)} {pr : Nat → Bool} {i j : Nat} (h : Dl w rb ns pr i j) (b : Below w.heap.size w w') (hn : 0 < ns.length) : Dl w' rb ns pr i j := by
  have hl : rb < w.heap.size := by obtain ⟨u, hu⟩ := h.tl 0 hn; exact cell_lt hu
  have eb := b.block rb hl
  exact ⟨fun q => (World.frozen?_of_block eb).trans (h.froz q), h.len, h.ij, h.jn, fun q hq => (World.cell?_of_block eb).trans (h.hd q hq), fun q hq => by obtain ⟨u, hu⟩ := h.tl q hq; exact ⟨u, (World.cell?_of_block eb).trans hu⟩, fun q h1 h2 => (World.cell?_of_block eb).trans (h.rest q h1 h2)⟩
theorem Dl.skip {w : World} {rb : Nat} {ns : List (List UInt8)} {pr : Nat → Bool} {i j : Nat} (h : Dl w rb ns pr i j) (hj : j < ns.length) (hp : pr j = true) : Dl w rb ns pr i (j + 1) := by
  have e : kp ns pr (j + 1) = kp ns pr j := by rw [kp_succ, hp]; simp
  exact ⟨h.froz, by rw [e]; exact h.len, by have := h.ij; omega, hj, by rw [e]; exact h.hd, h.tl, fun q h1 h2 => h.rest q (by omega) h2⟩
theorem Dl.keep {w : World} {rb : Nat} {ns : List (List UInt8)} {pr : Nat → Bool} {i j : Nat} (h : Dl w rb ns pr i j) (hj : j < ns.length) (hp : pr j = false) : Dl (w.setCell ⟨rb, i, none⟩ (.string (tx ns j))) rb ns pr (i + 1) (j + 1) := by
  have e : kp ns pr (j + 1) = kp ns pr j ++ [ns.getD j []] := by rw [kp_succ, hp]; simp
  have hij := h.ij
  obtain ⟨u, hu⟩ := h.tl i (by omega)
  refine ⟨fun q => by simpa using h.froz q, by rw [e, List.length_append, h.len]; rfl, by omega, hj, fun q hq => ?_, fun q hq => ?_, fun q h1 h2 => ?_⟩
  · by_cases eq : q = i
    · subst eq
      rw [cell_same hu, e, List.getD_eq_getElem?_getD, List.getElem?_append_right (by rw [h.len]; exact Nat.le_refl _), h.len]; simp [tx]
    · rw [cell_other (by simp <;> omega), h.hd q (by omega), e, List.getD_eq_getElem?_getD, List.getD_eq_getElem?_getD, List.getElem?_append_left (by rw [h.len]; omega)]
  · by_cases eq : q = i
    · subst eq; exact ⟨_, cell_same hu⟩
    · obtain ⟨u', hu'⟩ := h.tl q hq
      exact ⟨u', (cell_other (by simp <;> omega)).trans hu'⟩
  · rw [cell_other (by simp <;> omega)]; exact h.rest q (by omega) h2
set_option maxHeartbeats 2000000 in
theorem deleteFunc (w1 w : World) (B : Nat) (hB : Below B w1 w) (hBw : B ≤ w.heap.size) (p2 p3 : Value) (ns : List (List UInt8)) (pr : Nat → Bool) (h : Prd B w1 93 #[p2, p3] ns pr) (v : Value) (o : w.ownsRow B 9 1 v ns.length (encs ns)) (hn : ns.length ≤ 8796093022208) :
    Calls Tryz.prog 92 #[v, .func (.func 93) #[] #[p2, p3]] w fun e w' => ∃ v', e = .returned v' ∧ Tl w' v' (kp ns pr ns.length) ∧ Below B w1 w' := by
  by_cases h0 : ns.length = 0
  · obtain rfl := List.length_eq_zero_iff.1 h0
    have I0 := Lib.hid (fun a c => indexFunc0 w a c (.func (.func 93) #[] #[p2, p3]))
    obtain ⟨a, c, rfl⟩ : ∃ a c, v = .slice a 0 c := by
      rcases Go.Joins.ownsRow_forms o with ⟨rfl, _⟩ | ⟨q, c, rfl⟩
      · exact ⟨_, _, rfl⟩
      · exact ⟨_, _, rfl⟩
    have HB := Lib.hid hB
    clear h o hn h0 hB hBw
    go_enter Tryz.func92, Tryz.ntmps92
    go_wp2_with (go_at_call 117; refine (I0.out a c).mono ?_; clear I0; rintro e w ⟨rfl, rfl⟩)
    go_ret
    exact ⟨_, rfl, .inl ⟨a, c, rfl, rfl⟩, HB.out⟩
  obtain ⟨_, ⟨_, e⟩ | ⟨rb, c, cur, rfl, hg, hh, hnc, hcm, hsz, htk⟩⟩ := id o
  · exact absurd e h0
  have hrb : ∀ i, i < ns.length → w.cell? ⟨rb, i, none⟩ = some (.string (tx ns i)) := fun i hi => by
    have := o.cellAt i (by omega)
    rw [this]
    simp [encs, List.getD_eq_getElem?_getD, hi, encStr, ba, tx]
  have hrl : rb < w.heap.size := (Array.getElem?_eq_some_iff.1 hh).1
  have IX := Lib.hid (indexFunc w1 w B hB hBw p2 p3 ns pr h rb c hrb (by omega) hnc)
  have FR := Lib.hid (show ∀ q, w.frozen? ⟨rb, q, none⟩ = false from fun q => Lib.frozen_of_heap hh q)
  obtain ⟨n, hN⟩ : ∃ n, n = ns.length := ⟨_, rfl⟩
  have HR := Lib.hid hrb
  have HP := Lib.hid h
  have HB := Lib.hid hB
  have HBW := Lib.hid hBw
  have HRL := Lib.hid hrl
  have HG := Lib.hid hg
  rw [← hN] at IX HR h0 hn hnc ⊢
  have HN := Lib.hid hN
  have hn0 : 0 < n := by omega
  clear o hg hh hcm hsz htk hrb hrl h hB hBw hN h0
  go_enter Tryz.func92, Tryz.ntmps92
  go_upto_region 2 with (go_at_call 117; refine IX.out.mono ?_; clear IX; rintro e w2 ⟨r, rfl, HRR, b2⟩; have B2 := Lib.hid b2; clear b2)
  rcases HRR.out with ⟨rfl, hall⟩ | ⟨k, hk, rfl, hp, hall⟩
  · have KF := Lib.hid (show kp ns pr n = ns by rw [HN.out]; exact kp_full ns pr (fun i hi => hall i (by rw [HN.out]; exact hi)))
    clear HRR hall
    go_wp2_with fail
    go_ret
    refine ⟨_, rfl, ?_, HB.out.trans (B2.out.mono HBW.out)⟩
    rw [KF.out, HN.out]
    refine .inr ⟨rb, 0, c, rfl, by rw [← HN.out]; exact hnc, Nat.lt_of_lt_of_le HRL.out B2.out.size, fun i hi => ?_⟩
    rw [Nat.zero_add]
    exact (B2.out.cell (p := ⟨rb, i, none⟩) HRL.out).trans (HR.out i (by rw [HN.out]; exact hi))
  · have D0 := Lib.hid (show Dl w2 rb ns pr k (k + 1) from by
      have e1 : kp ns pr (k + 1) = kp ns pr k := by rw [kp_succ, hp]; simp
      have eb := B2.out.block rb HRL.out
      refine ⟨fun q => (World.frozen?_of_block eb).trans (FR.out q), by rw [e1]; exact kp_all_len ns pr k hall, by omega, by rw [← HN.out]; exact hk, fun q hq => ?_, fun q hq => ⟨_, (World.cell?_of_block eb).trans (HR.out q (by rw [HN.out]; exact hq))⟩, fun q h1 h2 => (World.cell?_of_block eb).trans (HR.out q (by rw [HN.out]; exact h2))⟩
      rw [e1, kp_get ns pr k hall hq]
      exact (World.cell?_of_block eb).trans (HR.out q (by omega)))
    have BB := Lib.hid (HB.out.trans (B2.out.mono HBW.out))
    have hk1 : ((k : Int) == -1) = false := by simp <;> omega
    have SZ := Lib.hid B2.out.size
    clear HRR hp hall
    go_wp2_with fail
    go_loopw [5, 6, 7] (fun i j _ wr => ∃ i' j' : Nat, i = .int .i64 (i' : Nat) ∧ j = .int .i64 (j' : Nat) ∧ j' ≤ n ∧ Hid (Dl wr rb ns pr i' j') ∧ Hid (Below B w1 wr) ∧ Hid (w.heap.size ≤ wr.heap.size)) (fun _ j _ _ => n - (intOf j).toNat)
    case atStart => exact ⟨k, k + 1, rfl, by go_num, by omega, D0, BB, SZ⟩
    case round =>
      obtain ⟨i, j, rfl, rfl, hj, DD, BW, SW⟩ := hrel
      have hij := DD.out.ij
      by_cases hjn : j < n
      case neg =>
        obtain rfl : j = n := by omega
        have hcl : ∀ ty, (Builtin.clear_ #[44] ty #[.slice (some ⟨rb, i, none⟩) (j - i) (c - i)]).run Tryz.prog wr = .ok (.tuple #[]) (wr.setCells rb i (List.replicate (j - i) (.string ⟨#[]⟩))) := fun ty =>
          Lib.run_clear_slice wr _ 9 ty _ Tryz.underlying44 (fun _ => by kernel_rfl) rfl rfl rb i _ _ (by omega) (fun t ht => by obtain ⟨u, hu⟩ := DD.out.tl (i + t) (by rw [← HN.out]; omega); rw [hu]; rfl) (fun t ht => DD.out.froz _)
        have FIN := Lib.hid (show ∃ v', Value.slice (some ⟨rb, 0, none⟩) i c = v' ∧ Tl (wr.setCells rb i (List.replicate (j - i) (.string ⟨#[]⟩))) v' (kp ns pr j) ∧ Below B w1 (wr.setCells rb i (List.replicate (j - i) (.string ⟨#[]⟩))) from by
          have rl : rb < wr.heap.size := Nat.lt_of_lt_of_le HRL.out SW.out
          refine ⟨_, rfl, ?_, Go.below_setCells HG.out _ _ _ BW.out⟩
          have hl := DD.out.len
          refine .inr ⟨rb, 0, c, by rw [hl], by rw [hl]; omega, ?_, fun q hq => ?_⟩
          · have := (Go.below_setCells (B := B) (b := rb) (a := wr) HG.out (List.replicate (j - i) (.string ⟨#[]⟩)) i wr (Below.refl _ _)).size
            omega
          · rw [Nat.zero_add, World.cell?_setCells_out rb _ _ _ ⟨rb, q, none⟩ (fun _ _ => .inl (by rw [hl] at hq; exact hq))]
            exact DD.out.hd q (by rw [hl] at hq; exact hq))
        have hic : i ≤ c := by omega
        clear hjn
        go_wp2_with fail
        go_ret
        obtain ⟨v', rfl, hv⟩ := FIN.out
        exact ⟨_, rfl, hv⟩
      have x0 := DD.out.rest j (Nat.le_refl _) (by rw [← HN.out]; exact hjn)
      have CA := Lib.hid (HP.out wr BW.out j (by rw [← HN.out]; exact hjn))
      obtain ⟨X, hX⟩ : ∃ X, X = tx ns j := ⟨_, rfl⟩
      rw [← hX] at x0 CA
      have HX := Lib.hid hX
      have hj0 : (0 : Int) ≤ (j : Int) := by omega
      have hi0 : (0 : Int) ≤ (i : Int) := by omega
      have hin : i < n := by omega
      have BS := Lib.hid (show B ≤ wr.heap.size from Nat.le_trans HBW.out SW.out)
      clear hX
      by_cases hp : pr j = true
      · rw [hp] at CA
        have HP1 := Lib.hid hp
        clear hp
        go_wp2_with (go_at_call 93; refine CA.out.mono ?_; clear CA; rintro e w3 ⟨rfl, b3⟩; have B3 := Lib.hid b3; clear b3)
        go_roundw
        case rel =>
          exact ⟨i, j + 1, rfl, by go_num, by omega, Lib.hid ((DD.out.below B3.out (by rw [← HN.out]; exact hn0)).skip (by rw [← HN.out]; exact hjn) HP1.out), Lib.hid (BW.out.trans (B3.out.mono BS.out)), Lib.hid (Nat.le_trans SW.out B3.out.size)⟩
        case measure => simp [intOf]; omega
      · have hp' : pr j = false := by simpa using hp
        rw [hp'] at CA
        have HP1 := Lib.hid hp'
        have KI := Lib.hid (show ∀ w3, Below wr.heap.size wr w3 → (∃ u, w3.cell? ⟨rb, i, none⟩ = some u) ∧ w3.frozen? ⟨rb, i, none⟩ = false from fun w3 b3 => by
          have := DD.out.below b3 (by rw [← HN.out]; exact hn0)
          exact ⟨this.tl i (by rw [← HN.out]; exact hin), this.froz i⟩)
        clear hp hp'
        go_wp2_with (go_at_call 93; refine CA.out.mono ?_; clear CA; rintro e w3 ⟨rfl, b3⟩; have B3 := Lib.hid b3; (obtain ⟨⟨u, hu⟩, hz⟩ := KI.out w3 b3); clear b3)
        go_roundw
        case rel =>
          refine ⟨i + 1, j + 1, by go_num, by go_num, by omega, Lib.hid ?_, Lib.hid ?_, Lib.hid ?_⟩
          · have := (DD.out.below B3.out (by rw [← HN.out]; exact hn0)).keep (by rw [← HN.out]; exact hjn) HP1.out
            rw [← HX.out] at this
            exact this
          · exact (BW.out.trans (B3.out.mono BS.out)).setCell (p := ⟨rb, i, none⟩) HG.out _
          · have := B3.out.size
            have := SW.out
            simp; omega
        case measure => simp [intOf]; omega
/-! The closure. -/
set_option maxHeartbeats 1000000 in
theorem clos (w : World) (b2 b3 g N : Nat) (ms : Option Nat) (F : Fun) (k t : Tx) (c2 : w.cell? ⟨b2, 0, none⟩ = some (.pointer (some ⟨g, 0, none⟩))) (c3 : w.cell? ⟨b3, 0, none⟩ = some (.string k)) (bk : Bk w g 0 ms N F) (ht : t.size ≤ maxLen) (s : Sr) (a : Option Addr) (c : Nat) (e : F t = some (sag s.1 a s.2.length c)) (ti : Ti w (.slice a s.2.length c) s.2)
    (h8 : s.2.length ≤ 8) (hz : ∀ x ∈ s.2, x.2.size ≤ 140737488355328) :
    Calls Tryz.prog 93 #[.string t, .pointer (some ⟨b2, 0, none⟩), .pointer (some ⟨b3, 0, none⟩)] w fun e w' => e = .returned (.bool (tgf s.2 k).2) ∧ Below w.heap.size w w' := by
  obtain ⟨n, L⟩ := s
  simp only at e ti h8 hz ⊢
  have bd : Below w.heap.size w w.drew := (Below.refl _ w).drew
  have G1 := Lib.hid (get_S w.drew g N ms F (bk.below bd) t ht n a L.length c (by rw [e]; rfl))
  have T1 := Lib.hid (fun (y : World) (b : Below w.drew.heap.size w.drew y) => tag18 y n k _ L (ti.below (bd.trans b)) hz (by omega))
  obtain ⟨V, hV⟩ : ∃ V, V = (tgf L k).1 := ⟨_, rfl⟩
  obtain ⟨E, hE⟩ : ∃ E, E = (tgf L k).2 := ⟨_, rfl⟩
  obtain ⟨m, hm⟩ : ∃ m, m = L.length := ⟨_, rfl⟩
  rw [← hV, ← hE, ← hm] at T1
  rw [← hm] at G1
  rw [← hE]
  have k0 : w.drew.cell? ⟨b2, 0, none⟩ = some (.pointer (some ⟨g, 0, none⟩)) ∧ w.drew.cell? ⟨b3, 0, none⟩ = some (.string k) := ⟨c2, c3⟩
  have KK := Lib.hid (fun (y : World) (b : Below w.drew.heap.size w.drew y) => (show y.cell? ⟨b2, 0, none⟩ = some (.pointer (some ⟨g, 0, none⟩)) ∧ y.cell? ⟨b3, 0, none⟩ = some (.string k) from ⟨(b.cell (p := ⟨b2, 0, none⟩) (cell_lt c2)).trans c2, (b.cell (p := ⟨b3, 0, none⟩) (cell_lt c3)).trans c3⟩))
  have BD := Lib.hid bd
  clear bk ht e ti h8 hz hV hE hm bd
  go_enter Tryz.func93, Tryz.ntmps93
  go_upto_region 1 with (fail)
  go_region_held (fun z => z.cell? ⟨b2, 0, none⟩ = some (.pointer (some ⟨g, 0, none⟩)) ∧ z.cell? ⟨b3, 0, none⟩ = some (.string k))
    (first | exact k0 | exact k1 | exact k2)
    (first
      | (go_at_call 77; refine G1.out.mono ?_; clear G1; rintro e w1 ⟨rfl, b1⟩; have B1 := Lib.hid b1; have k1 := KK.out w1 b1; clear b1)
      | (go_at_call 94; refine (T1.out w1 B1.out).mono ?_; clear T1; rintro e w2 ⟨rfl, b2'⟩; have B2 := Lib.hid (B1.out.trans (b2'.mono B1.out.size)); have k2 := KK.out w2 B2.out; clear b2'))
  go_wp2_with fail
  go_ret
  exact ⟨rfl, BD.out.trans B2.out⟩
end Kq
end Go.Proofs.YtalanjhpacjmmaaGreat
