import Derived.Test.YtbnicnhkakbglaaGreatDoorG23
import Derived.Lib.AtoiErrMem
import Derived.Test.YtbnicnhkakbglaaGreatDoorG25
import Derived.Test.YtbnicnhkakbglaaGreatDoorG24
import Derived.ScopeJumps
import Derived.Test.YtbnicnhkakbglaaGreatDoorG07

/- The library's FormatFloat at 1.5, and what the program prints for it. -/
namespace Go.Proofs.YtbnicnhkakbglaaGreatDoor
open Go.RowKit Go.Sort
namespace Sf
set_option maxRecDepth 100000

set_option maxHeartbeats 1000000 in
theorem format_e (w : World) (hT : Tabs w) :
    Calls Tryz.prog 136 #[.float .f64 4609434218613702656, .int .u8 101, .int .i64 (-1), .int .i64 64] w
      fun e w' => e = .returned (.string ⟨#[49, 46, 53, 101, 43, 48, 48]⟩) ∧ Below w.heap.size w w' := by
  have HT := Lib.hid hT
  clear hT
  have m2 : max (3 : Int) 24 = 24 := by decide
  have hmk : ∀ w, (Instr.makeSlice 58 (.int .i64 0) (.int .i64 24)).run Tryz.prog w = .ok (.slice (some ⟨w.heap.size, 0, none⟩) 0 24) (w.alloc (.cells (Array.replicate 24 (.int .u8 0)) 5)) := fun _ => by kernel_rfl
  go_enter Tryz.func136, Tryz.ntmps136
  go_wp2_with fail
  refine (ftoa_e _ w.heap.size (by simp) (fun j hj => ⟨?_, ?_⟩) (HT.out.below ((Below.refl w.heap.size w).alloc (Nat.le_refl _) _) (Nat.le_refl _))).mono ?_
  · rw [World.cell?_alloc_at (w := w) _ _ w.heap.size j rfl]; simp [hj]
  · exact World.frozen?_alloc_at (w := w) _ _ w.heap.size j rfl
  rintro e w2 ⟨rfl, hb2, e0, e1, e2, e3, e4, e5, e6⟩
  have hB : Below w.heap.size w w2 := ((Below.refl w.heap.size w).alloc (Nat.le_refl _) _).trans hb2
  have hcv : (convert 58 9 (.slice (some ⟨w.heap.size, 0, none⟩) 7 24)).run Tryz.prog w2 = .ok (.string ⟨#[49, 46, 53, 101, 43, 48, 48]⟩) w2 := by
    refine run_convert_bytes_back w2 58 9 5 ⟨w.heap.size, 0, none⟩ 24 [49, 46, 53, 101, 43, 48, 48] Tryz.underlying58 Tryz.underlying5 Tryz.underlying9 ?_
    intro i hi
    match i, hi with
    | 0, _ => simpa [Addr.add] using e0
    | 1, _ => simpa [Addr.add] using e1
    | 2, _ => simpa [Addr.add] using e2
    | 3, _ => simpa [Addr.add] using e3
    | 4, _ => simpa [Addr.add] using e4
    | 5, _ => simpa [Addr.add] using e5
    | 6, _ => simpa [Addr.add] using e6
  clear e0 e1 e2 e3 e4 e5 e6 hb2
  go_wp2
  go_ret
  exact ⟨rfl, hB⟩
set_option maxHeartbeats 1000000 in
theorem format_f (w : World) (hT : Tabs w) :
    Calls Tryz.prog 136 #[.float .f64 4609434218613702656, .int .u8 102, .int .i64 (-1), .int .i64 64] w
      fun e w' => e = .returned (.string ⟨#[49, 46, 53]⟩) ∧ Below w.heap.size w w' := by
  have HT := Lib.hid hT
  clear hT
  have m2 : max (3 : Int) 24 = 24 := by decide
  have hmk : ∀ w, (Instr.makeSlice 58 (.int .i64 0) (.int .i64 24)).run Tryz.prog w = .ok (.slice (some ⟨w.heap.size, 0, none⟩) 0 24) (w.alloc (.cells (Array.replicate 24 (.int .u8 0)) 5)) := fun _ => by kernel_rfl
  go_enter Tryz.func136, Tryz.ntmps136
  go_wp2_with fail
  refine (ftoa_f _ w.heap.size (by simp) (fun j hj => ⟨?_, ?_⟩) (HT.out.below ((Below.refl w.heap.size w).alloc (Nat.le_refl _) _) (Nat.le_refl _))).mono ?_
  · rw [World.cell?_alloc_at (w := w) _ _ w.heap.size j rfl]; simp [hj]
  · exact World.frozen?_alloc_at (w := w) _ _ w.heap.size j rfl
  rintro e w2 ⟨rfl, hb2, e0, e1, e2⟩
  have hB : Below w.heap.size w w2 := ((Below.refl w.heap.size w).alloc (Nat.le_refl _) _).trans hb2
  have hcv : (convert 58 9 (.slice (some ⟨w.heap.size, 0, none⟩) 3 24)).run Tryz.prog w2 = .ok (.string ⟨#[49, 46, 53]⟩) w2 := by
    refine run_convert_bytes_back w2 58 9 5 ⟨w.heap.size, 0, none⟩ 24 [49, 46, 53] Tryz.underlying58 Tryz.underlying5 Tryz.underlying9 ?_
    intro i hi
    match i, hi with
    | 0, _ => simpa [Addr.add] using e0
    | 1, _ => simpa [Addr.add] using e1
    | 2, _ => simpa [Addr.add] using e2
  clear e0 e1 e2 hb2
  go_wp2
  go_ret
  exact ⟨rfl, hB⟩
theorem fmt41_e (w : World) (hT : Tabs w) : Calls Tryz.prog 94 #[.float .f64 4609434218613702656, .int .u8 101, .int .i64 (-1), .int .i64 64] w
      fun e w' => e = .returned (.string ⟨#[49, 46, 53, 101, 43, 48, 48]⟩) ∧ Below w.heap.size w w' := by
  have HT := Lib.hid hT
  clear hT
  go_enter Tryz.func94, Tryz.ntmps94
  go_wp2_with (go_at_call 136; refine (format_e _ HT.out).mono ?_; rintro e w' ⟨rfl, hb⟩)
  go_ret
  exact ⟨rfl, hb⟩
theorem fmt41_f (w : World) (hT : Tabs w) : Calls Tryz.prog 94 #[.float .f64 4609434218613702656, .int .u8 102, .int .i64 (-1), .int .i64 64] w
      fun e w' => e = .returned (.string ⟨#[49, 46, 53]⟩) ∧ Below w.heap.size w w' := by
  have HT := Lib.hid hT
  clear hT
  go_enter Tryz.func94, Tryz.ntmps94
  go_wp2_with (go_at_call 136; refine (format_f _ HT.out).mono ?_; rintro e w' ⟨rfl, hb⟩)
  go_ret
  exact ⟨rfl, hb⟩
/-- The text parted at its e. -/
theorem cut_e (w : World) (hT : Tabs w) : Calls Tryz.prog 95 #[.string ⟨#[49, 46, 53, 101, 43, 48, 48]⟩, .string ⟨#[101]⟩] w
      fun e w' => e = .returned (.tuple #[.string ⟨#[49, 46, 53]⟩, .string ⟨#[43, 48, 48]⟩, .bool true]) ∧ Below w.heap.size w w' := by
  obtain ⟨_, _, _, m, hm⟩ := hT
  refine (Tryz.strings_Cut ⟨#[49, 46, 53, 101, 43, 48, 48]⟩ ⟨#[101]⟩ m w (by decide) hm).mono ?_
  rintro e w' ⟨rfl, n, rfl⟩
  refine ⟨?_, bdn n (Below.refl _ _)⟩
  have h : Lib.cut [49, 46, 53, 101, 43, 48, 48] [101] = ([49, 46, 53], [43, 48, 48], true) := by decide
  simp [h]
theorem atoi_0 (w : World) : Calls Tryz.prog 96 #[.string ⟨#[43, 48, 48]⟩] w fun e w' => e = .returned (.tuple #[.int .i64 0, .nilIface]) ∧ Below w.heap.size w w' := by
  refine (Tryz.strconv_Atoi ⟨#[43, 48, 48]⟩ 0 (by decide) (by decide) w).mono ?_
  rintro e w' ⟨rfl, t, rfl⟩
  exact ⟨rfl, Lib.bytesWorld_below _ _ _⟩
set_option maxHeartbeats 1000000 in
theorem printFloat (w : World) (hT : Tabs w) : Calls Tryz.prog 55 #[.float .f64 4609434218613702656] w
      fun e w' => e = .returned (.string ⟨#[49, 46, 53]⟩) ∧ Below w.heap.size w w' := by
  have HT := Lib.hid hT
  clear hT
  go_enter Tryz.func55, Tryz.ntmps55
  go_wp2_with fail
  refine (fmt41_e _ HT.out).mono ?_
  rintro e w1 ⟨rfl, hb1⟩
  go_wp2_with fail
  refine (cut_e _ (HT.out.below hb1 (Nat.le_refl _))).mono ?_
  rintro e w2 ⟨rfl, hb2⟩
  go_wp2_with fail
  refine (atoi_0 _).mono ?_
  rintro e w3 ⟨rfl, hb3⟩
  have hB : Below w.heap.size w w3 := hb1.trans ((hb2.mono hb1.size).trans (hb3.mono (Nat.le_trans hb1.size hb2.size)))
  go_wp2_with fail
  refine (fmt41_f _ (HT.out.below hB (Nat.le_refl _))).mono ?_
  rintro e w4 ⟨rfl, hb4⟩
  go_wp2
  go_ret
  exact ⟨rfl, hB.trans (hb4.mono hB.size)⟩
theorem run12 (b : Nat) (w : World) : (callFunc 30 #[.float .f64 b]).run Tryz.prog w = .ok (.value (.int .u64 b)) w := by
  rw [run_callFunc_extern Tryz.func30 (by kernel_rfl) (by kernel_rfl) (by kernel_rfl) (e := Extern.MathFloatBits.float64bits) (by kernel_rfl)]; rfl
theorem run25 (b : Int) (w : World) : (callFunc 56 #[.int .u64 b]).run Tryz.prog w = .ok (.value (.float .f64 b.toNat)) w := by
  rw [run_callFunc_extern Tryz.func56 (by kernel_rfl) (by kernel_rfl) (by kernel_rfl) (e := Extern.MathFloatBits.float64frombits) (by kernel_rfl)]; rfl
set_option maxHeartbeats 1000000 in
theorem formed (w : World) : Calls Tryz.prog 54 #[.agg #[.int .i64 1, .int .u64 4609434218613702656, .string ⟨#[]⟩]] w
      fun e w' => e = .returned (.bool true) ∧ Below w.heap.size w w' := by
  have r25 := run25
  have r12 := run12
  have o1 : FloatKind.f64.format.order 4609434218613702656 4609434218613702656 = some .eq := by kernel_rfl
  have b1 : bits BinOp.andNot IntKind.u64 4609434218613702656 9223372036854775808 = 4609434218613702656 := by kernel_rfl
  have o2 : (FloatKind.f64.format.order 4609434218613702656 9218868437227405311 == some .gt) = false := by kernel_rfl
  go_enter Tryz.func54, Tryz.ntmps54
  go_wp2
  go_ret
  exact ⟨rfl, by go_grown⟩

set_option maxHeartbeats 1000000 in
theorem print15 (w : World) (hT : Tabs w) : Calls Tryz.prog 23 #[.agg #[.int .i64 1, .int .u64 4609434218613702656, .string ⟨#[]⟩]] w
      fun e w' => e = .returned (.tuple #[.string ⟨#[49, 46, 53]⟩, .int .i64 0]) ∧ Below w.heap.size w w' := by
  have HT := Lib.hid hT
  clear hT
  have r25 := run25
  go_enter Tryz.func23, Tryz.ntmps23
  go_wp2_with fail
  refine (formed _).mono ?_
  rintro e w1 ⟨rfl, hb1⟩
  have hB : Below w.heap.size w w1 := ((Below.refl w.heap.size w).alloc (Nat.le_refl _) _).trans (hb1.mono (by simp))
  have c0 : w1.cell? ⟨w.heap.size, 0, none⟩ = some (.int .i64 1) := by rw [hb1.cell (p := ⟨w.heap.size, 0, none⟩) (by simp)]; simp
  have c1 : w1.cell? ⟨w.heap.size, 1, none⟩ = some (.int .u64 4609434218613702656) := by rw [hb1.cell (p := ⟨w.heap.size, 1, none⟩) (by simp)]; simp
  clear hb1
  go_wp2_with fail
  refine (printFloat _ (HT.out.below hB (Nat.le_refl _))).mono ?_
  rintro e w2 ⟨rfl, hb2⟩
  go_wp2
  go_ret2
  exact ⟨rfl, hB.trans (hb2.mono hB.size)⟩

set_option maxHeartbeats 1000000 in
theorem awake (w : World) (hT : Tabs w) : Calls Tryz.prog 9 #[] w fun e w' => e = .returned (.bool true) ∧ Below w.heap.size w w' := by
  have HT := Lib.hid hT
  clear hT
  have r12 := run12
  go_enter Tryz.func9, Tryz.ntmps9
  go_wp2_with (go_at_call 24; go_in)
  refine (print15 _ (HT.out.below ((Below.refl w.heap.size w).alloc (Nat.le_refl _) _) (Nat.le_refl _))).mono ?_
  rintro e w1 ⟨rfl, hb1⟩
  have hB : Below w.heap.size w w1 := ((Below.refl w.heap.size w).alloc (Nat.le_refl _) _).trans (hb1.mono (by simp))
  clear hb1
  go_wp2
  go_ret
  exact ⟨rfl, hB⟩
end Sf
end Go.Proofs.YtbnicnhkakbglaaGreatDoor

/- Shift. -/
namespace Go.Proofs.YtbnicnhkakbglaaGreatDoor
open Go.RowKit
namespace Dc
open Us Dm

theorem only_drew {w w' : World} {g m : Nat} (h : Only (w.drewN m) w' g) : Only w w' g := by
  obtain ⟨a, b, c, d, e⟩ := h
  exact ⟨a, b, c, d, e⟩
set_option maxRecDepth 100000 in
theorem shift_left (w : World) (g : Nat) (a : De) (ng : Bool) (k : Nat) (dlv l5v : Nat → Nat) (CS : Nat → ByteArray) (hT : LT w dlv CS) (hF : LF dlv l5v CS) (hk1 : 1 ≤ k) (hk : k ≤ 60) (h : Db w g a ng) (hdp : -3000 ≤ a.dp ∧ a.dp ≤ 3000) :
    Calls Tryz.prog 223 #[.pointer (some ⟨g, 0, none⟩), .int .i64 (k : Nat)] w fun e w' => e = .returned (.tuple #[]) ∧ Db w' g (a.shl k) ng ∧ Only w w' g := by
  have F := Lib.hid (left_db w g a ng k dlv l5v CS hT hF hk1 hk h hdp)
  obtain ⟨⟨hn, h8⟩, A, hD, hA⟩ := h
  have c0 := hD.c0
  have b1 := dlen_one hn
  obtain ⟨nd, hnd⟩ : ∃ nd, nd = dlen a.n := ⟨_, rfl⟩
  rw [← hnd] at c0 b1
  have d0 : ((nd : Int) == 0) = false := by simp; omega
  clear hn h8 hD hA hnd hT hF hdp
  go_enter Tryz.func223, Tryz.ntmps223
  go_wp2_with fail
  go_loopw [1] (fun r wr => r = .int .i64 (k : Nat) ∧ wr = w) (fun _ _ => 0)
  case atStart => exact ⟨rfl, by first | rfl | trivial⟩
  case round =>
    obtain ⟨rfl, rfl⟩ := hrel
    go_wp2_with fail
    refine F.out.mono ?_
    rintro x w9 ⟨rfl, h1, m, h2⟩
    go_wp2_with fail
    go_end0
    exact ⟨rfl, h1, only_drew h2⟩
set_option maxRecDepth 100000 in
theorem shift_right (w : World) (g : Nat) (a : De) (ng : Bool) (n : Nat) (hn1 : 1 ≤ n) (hn2 : n ≤ 400) (h : Db w g a ng) (hdp : -2500 ≤ a.dp ∧ a.dp ≤ 2500) :
    Calls Tryz.prog 223 #[.pointer (some ⟨g, 0, none⟩), .int .i64 (-(n : Int))] w fun e w' => e = .returned (.tuple #[]) ∧ Db w' g (shrN a n) ng ∧ Only w w' g := by
  have H := Lib.hid h
  have HG := Lib.hid (sixties_good h.1)
  have HP := Lib.hid hdp
  obtain ⟨⟨hn, h8⟩, A, hD, hA⟩ := h
  have c0 := hD.c0
  have b1 := dlen_one hn
  obtain ⟨nd, hnd⟩ : ∃ nd, nd = dlen a.n := ⟨_, rfl⟩
  rw [← hnd] at c0 b1
  have d0 : ((nd : Int) == 0) = false := by simp; omega
  obtain ⟨z, hz⟩ : ∃ z, z = -(n : Int) := ⟨_, rfl⟩
  rw [← hz]
  have z1 : decide (z < 0) = true := by simp; omega
  have z2 : decide (z > 0) = false := by simp; omega
  have HZ := Lib.hid hz
  have z3 : -400 ≤ z := by omega
  have z4 : z ≤ -1 := by omega
  clear hn h8 hD hA hnd hdp hz
  go_enter Tryz.func223, Tryz.ntmps223
  go_wp2_with fail
  go_loopw [1] (fun r wr => ∃ j : Nat, 60 * j < n ∧ r = .int .i64 (z + 60 * (j : Int)) ∧ Db wr g (sixties a j) ng ∧ Only w wr g) (fun r _ => (-(intOf r)).toNat)
  case atStart => exact ⟨0, by omega, by congr 1; omega, H.out, Only.refl _ _⟩
  case round =>
    obtain ⟨j, hj, rfl, hd, ho⟩ := hrel
    have HD := Lib.hid hd
    have HO := Lib.hid ho
    clear hd ho c0 d0
    obtain ⟨q, hq⟩ : ∃ q, q = n - 60 * j := ⟨_, rfl⟩
    have eq : z + 60 * (j : Int) = -(q : Int) := by have := HZ.out; omega
    have HQ := Lib.hid hq
    have bq1 : 1 ≤ q := by omega
    have bq2 : q ≤ 400 := by omega
    rw [eq]
    clear eq hq
    by_cases hq6 : 60 < q
    · go_wp2_with fail
      refine (right146 _ g (sixties a j) ng 60 (by decide) (by decide) HD.out ?_).mono ?_
      · obtain ⟨_, g1, g2⟩ := HG.out j
        have := HP.out
        constructor <;> omega
      · rintro x w9 ⟨rfl, h1, h2⟩
        have H9 := Lib.hid h1
        have O9 := Lib.hid (HO.out.trans h2)
        clear h1 h2
        go_wp2_with fail
        go_roundw
        case rel =>
          have := HQ.out
          have := HZ.out
          exact ⟨j + 1, by omega, by congr 1; omega, H9.out, O9.out⟩
        case measure => simp [intOf]; omega
    · go_wp2_with fail
      refine (right146 _ g (sixties a j) ng q bq1 (by omega) HD.out ?_).mono ?_
      · obtain ⟨_, g1, g2⟩ := HG.out j
        have := HP.out
        constructor <;> omega
      · rintro x w9 ⟨rfl, h1, h2⟩
        have H9 := Lib.hid h1
        have O9 := Lib.hid (HO.out.trans h2)
        clear h1 h2
        go_wp2_with fail
        go_end0
        refine ⟨rfl, ?_, O9.out⟩
        have := HQ.out
        have e : (n - 1) / 60 = j := by omega
        unfold shrN
        rw [e, ← HQ.out]
        exact H9.out
end Dc
end Go.Proofs.YtbnicnhkakbglaaGreatDoor

/- A scope with two labels ahead; the tables that floatBits reads. -/
namespace Go.Proofs.YtbnicnhkakbglaaGreatDoor
open Go.RowKit
namespace Dc
open Us Dm

/-- A goto goes on by J. -/
def jumps (J : Nat → Act → World → Prop) (Q : Exit → Act → World → Prop) : Exit → Act → World → Prop
  | .goto l, a, w => J l a w
  | e, a, w => Q e a w
/-- Where two labels lead. -/
def ahead (P : Program) (r0 r1 : Code) (Q : Exit → Act → World → Prop) (l : Nat) (a : Act) (w : World) : Prop :=
  (l = 0 ∧ r0.wp P (Exit.noGoto Q) a w) ∨ (l = 1 ∧ r1.wp P (Exit.noGoto Q) a w)
theorem wp_ahead {P : Program} {c : Code} {a : Act} {w : World} {Q : Exit → Act → World → Prop} (r0 r1 : Code) (h0 : findLabel c 0 = some r0) (h1 : findLabel c 1 = some r1)
    (first : c.wp P (jumps (ahead P r0 r1 Q) Q) a w) : (Code.scope c).wp P Q a w := by
  intro b k cs
  have one : ∀ (l : Nat) (r : Code), findLabel c l = some r → ∀ a₁ w₁, r.wp P (Exit.noGoto Q) a₁ w₁ →
      (∀ k', gotoIn l (.inScope c :: k) = some k' → Steps P (lone (b.at a (.code (.scope c) :: k)) cs w) (lone (b.at a₁ k') cs w₁)) →
      ∃ e a' w', Q e a' w' ∧ Arrives P (lone (b.at a (.code (.scope c) :: k)) cs w) b k cs e a' w' := by
    intro l r hl a₁ w₁ hr hs
    have hg : gotoIn l (.inScope c :: k) = some (.code r :: .inScope c :: k) := by simp [gotoIn, hl]
    obtain ⟨e, a₂, w₂, hq, harr⟩ := hr b (.inScope c :: k) cs
    cases e with
    | normal => exact ⟨.normal, a₂, w₂, hq, Steps.trans (hs _ hg) (Steps.trans harr (.one step_inScope))⟩
    | exit id => exact ⟨.exit id, a₂, w₂, hq, fun k' hk => Steps.trans (hs _ hg) (harr k' (by simp [exitTo, hk]))⟩
    | goto l' => exact hq.elim
    | ret => exact ⟨_, a₂, w₂, hq, .of_steps (hs _ hg) harr⟩
    | panic ch => exact ⟨_, a₂, w₂, hq, .of_steps (hs _ hg) harr⟩
    | outgrown => exact ⟨_, a₂, w₂, hq, .of_steps (hs _ hg) harr⟩
  obtain ⟨e, a₁, w₁, hq, harr⟩ := first b (.inScope c :: k) cs
  cases e with
  | normal => exact ⟨.normal, a₁, w₁, hq, .head step_scope (Steps.trans harr (.one step_inScope))⟩
  | exit id => exact ⟨.exit id, a₁, w₁, hq, fun k' hk => .head step_scope (harr k' (by simp [exitTo, hk]))⟩
  | goto l' =>
    rcases hq with ⟨rfl, hr⟩ | ⟨rfl, hr⟩
    · exact one 0 r0 h0 a₁ w₁ hr fun k' hk => .head step_scope (harr k' hk)
    · exact one 1 r1 h1 a₁ w₁ hr fun k' hk => .head step_scope (harr k' hk)
  | ret => exact ⟨_, a₁, w₁, hq, .of_steps (.one step_scope) harr⟩
  | panic ch => exact ⟨_, a₁, w₁, hq, .of_steps (.one step_scope) harr⟩
  | outgrown => exact ⟨_, a₁, w₁, hq, .of_steps (.one step_scope) harr⟩

theorem cell_only {w w' : World} {g k i : Nat} (o : Only w w' g) (hk : k < w.heap.size) (hg : k ≠ g) : w'.cell? ⟨k, i, none⟩ = w.cell? ⟨k, i, none⟩ := by
  unfold World.cell?
  simp only [o.block k hk hg]
/-- The tables at package level, none of them the decimal's block. -/
structure GT (w : World) (dlv : Nat → Nat) (CS : Nat → ByteArray) (g : Nat) (tb tp : Nat × Nat) : Prop where
  z16 : 16 < w.heap.size ∧ 16 ≠ g
  ztb : tb.1 < w.heap.size ∧ tb.1 ≠ g
  z9 : 9 < w.heap.size ∧ 9 ≠ g
  ztp : tp.1 < w.heap.size ∧ tp.1 ≠ g
  z6 : 7 < w.heap.size ∧ 7 ≠ g
  c16 : w.cell? ⟨16, 0, none⟩ = some (.slice (some ⟨tb.1, tb.2, none⟩) 61 61)
  ctb : ∀ k, k ≤ 60 → w.cell? ⟨tb.1, tb.2 + k * 2, none⟩ = some (.int .i64 (dlv k : Nat)) ∧ w.cell? ⟨tb.1, tb.2 + k * 2 + 1, none⟩ = some (.string (CS k))
  c9 : w.cell? ⟨9, 0, none⟩ = some (.slice (some ⟨tp.1, tp.2, none⟩) 9 9)
  ctp : ∀ m, m < 9 → w.cell? ⟨tp.1, tp.2 + m, none⟩ = some (.int .i64 (pt m : Nat))
  f0 : w.cell? ⟨7, 0, none⟩ = some (.int .u64 52)
  f1 : w.cell? ⟨7, 1, none⟩ = some (.int .u64 11)
  f2 : w.cell? ⟨7, 2, none⟩ = some (.int .i64 (-1023))
theorem GT.only {w w' : World} {dlv : Nat → Nat} {CS : Nat → ByteArray} {g : Nat} {tb tp : Nat × Nat} (h : GT w dlv CS g tb tp) (o : Only w w' g) : GT w' dlv CS g tb tp := by
  have hs := o.size
  refine ⟨by rw [hs]; exact h.z16, by rw [hs]; exact h.ztb, by rw [hs]; exact h.z9, by rw [hs]; exact h.ztp, by rw [hs]; exact h.z6, ?_, fun k hk => ?_, ?_, fun m hm => ?_, ?_, ?_, ?_⟩
  · rw [cell_only o h.z16.1 h.z16.2]; exact h.c16
  · rw [cell_only o h.ztb.1 h.ztb.2, cell_only o h.ztb.1 h.ztb.2]; exact h.ctb k hk
  · rw [cell_only o h.z9.1 h.z9.2]; exact h.c9
  · rw [cell_only o h.ztp.1 h.ztp.2]; exact h.ctp m hm
  · rw [cell_only o h.z6.1 h.z6.2]; exact h.f0
  · rw [cell_only o h.z6.1 h.z6.2]; exact h.f1
  · rw [cell_only o h.z6.1 h.z6.2]; exact h.f2
theorem GT.lt {w : World} {dlv : Nat → Nat} {CS : Nat → ByteArray} {g : Nat} {tb tp : Nat × Nat} (h : GT w dlv CS g tb tp) : LT w dlv CS := ⟨h.z16.1, tb.1, tb.2, h.c16, h.ztb.1, h.ctb⟩
end Dc
end Go.Proofs.YtbnicnhkakbglaaGreatDoor

/- What a decimal is set to: plain mathematics, and the decimal in memory. -/
namespace Go.Proofs.YtbnicnhkakbglaaGreatDoor
open Go.RowKit
namespace Dc
open Us Dm Rm

/-- The number that the digits tell. -/
def nstep (n c : Nat) : Nat := if c = 46 then n else n * 10 + (c - 48)
def nval (l : List Nat) : Nat := l.foldl nstep 0
theorem nval_succ (l : List Nat) (k : Nat) (h : k < l.length) : nval (l.take (k + 1)) = nstep (nval (l.take k)) (l.getD k 0) := by
  rw [take_snoc l k h]
  unfold nval
  rw [List.foldl_append]
  rfl
theorem dlen_snoc {n d : Nat} (hd : d < 10) (h : n * 10 + d ≠ 0) : dlen (n * 10 + d) = dlen n + 1 := by
  rw [dlen_pos h, show (n * 10 + d) / 10 = n from by omega]
theorem dlen_nought {n : Nat} (h : dlen n = 0) : n = 0 := by
  by_cases h0 : n = 0
  · exact h0
  · have := dlen_one h0; omega
theorem nval_len {l : List Nat} (h : Mantissa l) (k : Nat) (hk : k ≤ l.length) : dlen (nval (l.take k)) = (rst (l.take k)).nd := by
  induction k with
  | zero => exact dlen_zero
  | succ k ih =>
    have ih := ih (by omega)
    rw [nval_succ l k (by omega), rst_succ l k (by omega)]
    have hc := mant_char h k (by omega)
    obtain ⟨c, hce⟩ : ∃ c, c = l.getD k 0 := ⟨_, rfl⟩
    rw [← hce] at hc ⊢
    unfold nstep rstep
    by_cases h46 : c = 46
    · rw [if_pos h46, if_pos h46]; exact ih
    · have hd : 48 ≤ c ∧ c ≤ 57 := hc.elim id fun h => absurd h h46
      rw [if_neg h46, if_neg h46]
      by_cases h48 : c = 48 ∧ (rst (l.take k)).nd = 0
      · rw [if_pos h48]
        have h0 : nval (l.take k) = 0 := dlen_nought (by rw [ih]; exact h48.2)
        rw [h0, h48.1]
        show dlen 0 = (rst (l.take k)).nd
        rw [dlen_zero, h48.2]
      · rw [if_neg h48, dlen_snoc (by omega) (by
          intro h0
          have hn : nval (l.take k) = 0 := by omega
          rw [hn, dlen_zero] at ih
          exact h48 ⟨by omega, ih.symm⟩), ih]
        split <;> rfl
theorem sdg_snoc {n d i : Nat} (hd : d < 10) (h : n * 10 + d ≠ 0) (hi : i ≤ dlen n) : sdg (n * 10 + d) i = if i < dlen n then sdg n i else d := by
  rw [sdg_right _ _ (by rw [dlen_snoc hd h]; omega), dlen_snoc hd h]
  by_cases hin : i < dlen n
  · rw [if_pos hin, sdg_right _ _ hin, show dlen n + 1 - 1 - i = (dlen n - 1 - i) + 1 from by omega, Nat.pow_succ, Nat.mul_comm (10 ^ _) 10, ← Nat.div_div_eq_div_mul, show (n * 10 + d) / 10 = n from by omega]
  · rw [if_neg hin, show dlen n + 1 - 1 - i = 0 from by omega, Nat.pow_zero, Nat.div_one]
    omega
/-- A decimal that tells n, its point at dp. -/
def Nv (w : World) (g n : Nat) (dp : Int) (ng : Bool) : Prop := ∃ A, Dh w g A (dlen n) dp ng false ∧ ∀ i, i < dlen n → A i = 48 + sdg n i
theorem set_ng {w : World} {g : Nat} {A : Nat → Nat} {nd : Nat} {dp : Int} {ng tr : Bool} (h : Dh w g A nd dp ng tr) (t : Bool) : Dh (w.setCell ⟨g, 802, none⟩ (.bool t)) g A nd dp t tr := by
  refine ⟨by simpa using h.lt, fun i hi => ⟨?_, by simpa using (h.d i hi).2⟩, ?_, ?_, cell_same h.c2, ?_, by simpa using h.z0, by simpa using h.z1, by simpa using h.z2, by simpa using h.z3⟩
  · rw [cell_other (by simp <;> omega)]; exact (h.d i hi).1
  · rw [cell_other (by simp)]; exact h.c0
  · rw [cell_other (by simp)]; exact h.c1
  · rw [cell_other (by simp)]; exact h.c3
theorem nv_zero {w : World} {g : Nat} {A : Nat → Nat} {dp : Int} {ng : Bool} (h : Dh w g A 0 dp ng false) : Nv w g 0 dp ng := ⟨A, by rw [dlen_zero]; exact h, fun i hi => by rw [dlen_zero] at hi; omega⟩
theorem nv_dp {w : World} {g n : Nat} {dp : Int} {ng : Bool} (h : Nv w g n dp ng) (p : Int) : Nv (w.setCell ⟨g, 801, none⟩ (.int .i64 p)) g n p ng := by
  obtain ⟨A, h1, h2⟩ := h
  exact ⟨A, set_dp h1 p, h2⟩
theorem nv_drewN {w : World} {g n : Nat} {dp : Int} {ng : Bool} (h : Nv w g n dp ng) (m : Nat) : Nv (w.drewN m) g n dp ng := by
  obtain ⟨A, h1, h2⟩ := h
  exact ⟨A, h1.drewN m, h2⟩
theorem nv_push {w : World} {g n nd : Nat} {dp : Int} {ng : Bool} {C : Nat} (h : Nv w g n dp ng) (hnd : nd = dlen n) (h8 : nd < 800) (hC1 : 48 ≤ C) (hC2 : C ≤ 57) (h0 : n * 10 + (C - 48) ≠ 0) :
    Nv ((w.setCell ⟨g, nd, none⟩ (.int .u8 (C : Nat))).setCell ⟨g, 800, none⟩ (.int .i64 ((nd + 1 : Nat) : Int))) g (n * 10 + (C - 48)) dp ng := by
  obtain ⟨A, h1, h2⟩ := h
  subst hnd
  refine ⟨_, by rw [dlen_snoc (by omega) h0]; exact set_nd (set_d h1 (dlen n) C h8) (dlen n + 1), fun i hi => ?_⟩
  rw [dlen_snoc (by omega) h0] at hi
  rw [sdg_snoc (by omega) h0 (by omega)]
  by_cases hin : i < dlen n
  · rw [if_neg (by omega), if_pos hin]
    exact h2 i hin
  · rw [if_pos (by omega), if_neg hin]
    omega
end Dc
end Go.Proofs.YtbnicnhkakbglaaGreatDoor
