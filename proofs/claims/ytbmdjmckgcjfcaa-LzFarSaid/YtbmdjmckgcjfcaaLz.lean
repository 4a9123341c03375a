/- The law LzFar. -/
import Derived.Test.YtbmdjmckgcjfcaaLw
import Derived.Test.YtbmdjmckgcjfcaaUd
import Derived.Lib.AppendStr
namespace Go.Proofs.Ytbmdjmckgcjfcaa
open Go.RowKit
namespace Lw
open Lm Lu Bs Fa Fb Pa Pb Ua

def abc : List Nat := [97, 98, 99, 100, 101, 102, 103, 104]
theorem abc_str : Lib.strCells ⟨#[97, 98, 99, 100, 101, 102, 103, 104]⟩ = u8s abc := by rfl

/-- What holds ahead of each round: the bytes are those at the beginning, or the call's own. -/
def Bw (w w2 wr : World) (G : Nat) (v : Value) (l : List Nat) : Prop :=
  (wr = w2 ∧ v = .slice (some ⟨G, 0, none⟩) 8 8 ∧ l = abc) ∨ (wr.ownsRow w.heap.size 5 1 v l.length (u8s l) ∧ Below w.heap.size w wr)

set_option maxRecDepth 100000 in
set_option maxHeartbeats 2000000 in
theorem far5 (w : World) (n : Nat) (hn : n < 256) :
    Calls Try.prog 5 #[.int .u8 (n : Nat)] w fun e w' => e = .returned (.bool true) ∧ Below w.heap.size w w' := by
  obtain ⟨i0, hi, hz0, hz1, hz2⟩ := info_parts info5
  have F6 := Lib.hid (awake6 w)
  obtain ⟨F, hF⟩ : ∃ F, F = 65520 + n % 30 := ⟨_, rfl⟩
  have h1 : (65520 : Int) + (n : Int) % 30 = (F : Int) := by omega
  have hF1 : 65520 ≤ F := by omega
  have hF2 : F ≤ 65549 := by omega
  have hcv := fun (x : World) => Lib.run_convert_bytes_const (P := Try.prog) x 22 5 #[.int .u8 97, .int .u8 98, .int .u8 99, .int .u8 100, .int .u8 101, .int .u8 102, .int .u8 103, .int .u8 104] 8 8 Try.underlying22 Try.underlying5
  clear hF
  go_enter Try.func5, Try.ntmps5
  go_wp2_with (go_at_call 6; refine F6.out.mono ?_; rintro e w1 ⟨rfl, b1⟩; have B1 := Lib.hid b1; have S1 := Lib.hid b1.size; clear b1)
  obtain ⟨w2, hw2⟩ : ∃ w2, w2 = w1.alloc (.cells #[.int .u8 97, .int .u8 98, .int .u8 99, .int .u8 100, .int .u8 101, .int .u8 102, .int .u8 103, .int .u8 104] 5 (8, 9)) := ⟨_, rfl⟩
  have HC0 : Hid (∀ i, i < 8 → w2.cell? ⟨w1.heap.size, i, none⟩ = some (.int .u8 (g abc i : Nat))) := Lib.hid fun i hi => by
    rw [hw2, World.cell?_alloc_mark]
    match i, hi with
    | 0, _ => rfl
    | 1, _ => rfl
    | 2, _ => rfl
    | 3, _ => rfl
    | 4, _ => rfl
    | 5, _ => rfl
    | 6, _ => rfl
    | 7, _ => rfl
  have HB2 : Hid (Below w.heap.size w w2) := Lib.hid (by rw [hw2]; exact B1.out.alloc S1.out _)
  obtain ⟨G, hG⟩ : ∃ G, G = w1.heap.size := ⟨_, rfl⟩
  rw [← hw2, ← hG]
  rw [← hG] at HC0
  clear hw2 hG hcv
  go_loopw [4, 5] (fun v' x' wr => ∃ l x : Nat, ∃ L, L.length = l ∧ l ≤ F ∧ (∀ y ∈ L, y < 256) ∧ x < 4294967296 ∧ x' = .int .u32 (x : Nat) ∧ Bw w w2 wr G v' L ∧ (∃ a c, v' = .slice a l c)) (fun v' _ _ => F - lenOf v')
  case atStart => exact ⟨8, 1, abc, rfl, by omega, by decide, by decide, rfl, .inl ⟨rfl, rfl, rfl⟩, _, _, rfl⟩
  case round =>
    obtain ⟨l, x, L, hLl, hlF, hL256, hx, rfl, hB, ad, c, rfl⟩ := hrel
    have HB := Lib.hid hB
    have HL := Lib.hid hLl
    have HL256 := Lib.hid hL256
    clear hB hLl hL256
    by_cases hlt : l < F
    · obtain ⟨X, hX⟩ : ∃ X, X = (x * 1664525 % 4294967296 + 1013904223) % 4294967296 := ⟨_, rfl⟩
      have hX2 : X < 4294967296 := by omega
      have hXi : ((x : Int) * 1664525 % 4294967296 + 1013904223) % 4294967296 = (X : Int) := by omega
      obtain ⟨Y, hY⟩ : ∃ Y, Y = X / 16777216 := ⟨_, rfl⟩
      have hY2 : Y < 256 := by omega
      have hYi : (X : Int) / 16777216 = (Y : Int) := by omega
      obtain ⟨Z, hZ⟩ : ∃ Z, Z = Y ||| 128 := ⟨_, rfl⟩
      have hZ2 : Z < 256 := by rw [hZ]; exact Nat.or_lt_two_pow (n := 8) hY2 (by decide)
      have hZi : bits .or .u8 (Y : Int) 128 = (Z : Int) := by rw [hZ]; exact u8_or_nat Y 128 hY2 (by decide)
      clear hX hY hZ
      have HN : ∀ y ∈ L ++ [Z], y < 256 := fun y hy => by
        rcases List.mem_append.1 hy with h | h
        · exact HL256.out y h
        · simp at h; omega
      have HNN := Lib.hid HN
      clear HN
      rcases HB.out with ⟨hw, hv, hL8⟩ | ⟨ho, hb⟩
      · injection hv with e1 e2 e3
        subst e1
        subst e2
        subst e3
        subst hw
        subst hL8
        go_wp2_with (at_builtin; refine wpList_append_grows _ rfl (.tmp 25) (.tmp 30) 22 rfl 5 i0 (.int .u8 0) 1 1 Try.underlying22 hi hz0 hz1 hz2 rfl (by decide) (some ⟨G, 0, none⟩) 8 8 (u8s abc) rfl (by intro h; cases h) rfl ?c0 ⟨wr.heap.size, 0, none⟩ 1 1 [.int .u8 (Z : Nat)] rfl rfl ?c1 ?c2 (by decide) ?c3 ?c4 ?_)
        case c0 =>
          intro b hb j u hj
          cases hb
          obtain ⟨h1, rfl⟩ := u8s_g _ _ _ hj
          rw [add_eq, Nat.zero_add]
          have h2 := HC0.out j h1
          exact (World.cell?_of_block (Below.heap_alloc _ _ G (cell_lt h2))).trans h2
        case c1 => exact cell_one_new _ _ _
        case c2 => intro u hu; simp at hu; subst hu; rfl
        case c3 => unfold maxLen; omega
        case c4 => omega
        intro v3 w3 hown3 hgrow3
        have B3 : Hid (Bw w wr w3 G v3 (abc ++ [Z])) := Lib.hid (.inr ⟨by rw [u8s_app]; exact Go.Joins.ownsRow_le hown3 (by have := HB2.out.size; simp; omega), HB2.out.trans (((Below.refl wr.heap.size wr).alloc (Nat.le_refl _) (.cells #[.int .u8 (Z : Nat)] 5)).trans ⟨hgrow3.os, hgrow3.tape, hgrow3.output, Nat.le_trans (by simp) hgrow3.size, fun k hk => hgrow3.block k (by simp; omega) (by simp)⟩ |>.mono HB2.out.size)⟩)
        obtain ⟨a3, c3, rfl⟩ := slice_any hown3
        clear hown3 hgrow3
        go_wp2_with fail
        go_roundw
        case rel => exact ⟨9, X, _, rfl, by omega, HNN.out, hX2, rfl, B3.out, _, _, rfl⟩
        case measure => simp [lenOf]; omega
      · rw [HL.out] at ho
        have hbs := hb.size
        have HB1 := Lib.hid hb
        obtain ⟨P, hP⟩ : ∃ P, P = u8s L := ⟨_, rfl⟩
        have HP : Hid (u8s (L ++ [Z]) = P ++ [.int .u8 (Z : Nat)] ∧ (L ++ [Z]).length = l + 1) := Lib.hid ⟨by rw [u8s_snoc, hP], by rw [List.length_append, HL.out]; rfl⟩
        rw [← hP] at ho
        have hown := ho
        clear hP ho hb
        go_wp2_with (at_builtin; refine wpList_append_own_at _ rfl (.tmp 25) (.tmp 30) 22 rfl w.heap.size 5 i0 (.int .u8 0) 1 1 Try.underlying22 hi hz0 hz1 hz2 rfl (by decide) _ l _ rfl (hown.alloc _) ⟨wr.heap.size, 0, none⟩ 1 1 [.int .u8 (Z : Nat)] rfl rfl ?d1 ?d2 ?d3 ?d4 ?d5 ?_)
        case d1 => exact cell_one_new _ _ _
        case d2 => intro u hu; simp at hu; subst hu; rfl
        case d3 => unfold maxLen; omega
        case d4 => omega
        case d5 => simp; omega
        intro v3 w3 hown3 hgrow3 _ hat3
        have B3 : Hid (Bw w w2 w3 G v3 (L ++ [Z])) := Lib.hid (.inr ⟨by rw [HP.out.1, HP.out.2]; exact hown3, HB1.out.trans ((gr_alloc _ (gr_at hgrow3 (by simpa using hat3))).below hbs fun k e => (hown.lt k e).1)⟩)
        obtain ⟨a3, c3, rfl⟩ := slice_any hown3
        clear hown3 hgrow3 hat3 hown
        go_wp2_with fail
        go_roundw
        case rel => exact ⟨l + 1, X, _, HP.out.2, by omega, HNN.out, hX2, rfl, B3.out, _, _, rfl⟩
        case measure => simp [lenOf]; omega
    · obtain rfl : l = F := by omega
      rcases HB.out with ⟨hw, hv, hL8⟩ | ⟨ho, hb⟩
      · injection hv with _ e2 _
        omega
      · rw [HL.out] at ho
        have hbs := hb.size
        have HB1 := Lib.hid hb
        have hown := ho
        obtain ⟨A, hA⟩ : ∃ A, A = L ++ abc := ⟨_, rfl⟩
        have hAl : A.length = l + 8 := by rw [hA, List.length_append, HL.out]; rfl
        have hA256 : ∀ x ∈ A, x < 256 := fun y hy => by
          rw [hA] at hy
          rcases List.mem_append.1 hy with h | h
          · exact HL256.out y h
          · exact (show ∀ y ∈ abc, y < 256 from by decide) y h
        have HUA : Hid (u8s L ++ Lib.strCells ⟨#[97, 98, 99, 100, 101, 102, 103, 104]⟩ = u8s A) := Lib.hid (by rw [abc_str, hA, u8s_app])
        clear ho hb hA
        go_wp2_with (at_builtin; refine Lib.wpList_append_own_string _ rfl (.tmp 32) _ 22 9 rfl w.heap.size 5 i0 Try.underlying22 Try.underlying9 hi hz0 hz1 hz2 _ l _ rfl hown ⟨#[97, 98, 99, 100, 101, 102, 103, 104]⟩ rfl ?f1 ?f2 hbs ?_)
        case f1 => show l + 8 ≤ maxLen; unfold maxLen; omega
        case f2 => show l + 8 ≤ _; omega
        intro v3 w3 hown3 hgrow3 _
        rw [HUA.out] at hown3
        have hO3 : w3.ownsRow w.heap.size 5 1 v3 A.length (u8s A) := by rw [hAl]; exact hown3
        have b3 : Below w.heap.size w w3 := HB1.out.trans ⟨hgrow3.os, hgrow3.tape, hgrow3.output, hgrow3.size, fun k hk => hgrow3.block k (by omega) (fun e => by have := (hown.lt k e.symm).1; omega)⟩
        obtain ⟨a3, c3, rfl⟩ := slice_any hO3
        have F7 : Hid (Calls Try.prog 7 #[.slice a3 A.length c3] w3 fun e w' => ∃ r, e = .returned r ∧ w'.ownsRow w3.heap.size 5 1 r (packs A).length (u8s (packs A)) ∧ Below w3.heap.size w3 w') := Lib.hid (pack7 w3 _ _ A (src_own hO3) hA256 (by omega))
        have F9 : Hid (∀ x r B, x.ownsRow B 5 1 r (packs A).length (u8s (packs A)) → Calls Try.prog 9 #[r, .int .i64 (A.length : Nat)] x fun e w' => ∃ u, e = .returned (.tuple #[u, .int .i64 0]) ∧ w'.ownsRow x.heap.size 5 1 u A.length (u8s A) ∧ Below x.heap.size x w') := Lib.hid fun x r B h => by
          have hpl := packs_len A
          refine (unpack9 x _ r (packs A) (A.length : Nat) (src_own h) (packs_bytes hA256) (by omega) (by omega) (by omega) (by omega)).mono ?_
          rintro e w' (⟨l', u, h1, h2, h3, h4⟩ | ⟨k, h1, _⟩)
          · rw [unp_packs (by omega)] at h1
            cases h1
            exact ⟨u, h2, h3, h4⟩
          · rw [unp_packs (by omega)] at h1
            cases h1
        have F8 : Hid (∀ x, Below w3.heap.size w3 x → Calls Try.prog 8 #[.slice a3 A.length c3] x fun e w' => ∃ r, e = .returned r ∧ w'.ownsRow x.heap.size 5 1 r (packs A).length (u8s (packs A)) ∧ Below x.heap.size x w') := Lib.hid fun x hx => refpack8 x _ _ A (src_own (own_below hO3 hx)) hA256 (by omega)
        obtain ⟨S1, hS1⟩ : ∃ S, S = str (packs A) := ⟨_, rfl⟩
        obtain ⟨S2, hS2⟩ : ∃ S, S = str A := ⟨_, rfl⟩
        have FS1 : Hid (∀ x B r, World.ownsRow x B 5 1 r (packs A).length (u8s (packs A)) → (convert 22 9 r).run Try.prog x = .ok (.string S1) x) := Lib.hid fun x B r h => by rw [hS1]; exact conv_own h
        have FS2 : Hid (∀ x B r, World.ownsRow x B 5 1 r A.length (u8s A) → (convert 22 9 r).run Try.prog x = .ok (.string S2) x) := Lib.hid fun x B r h => by rw [hS2]; exact conv_own h
        have O3 := Lib.hid hO3
        have B3 := Lib.hid b3
        have HAL := Lib.hid hAl
        obtain ⟨N, hN⟩ : ∃ N, N = A.length := ⟨_, rfl⟩
        have e3 : Value.slice a3 A.length c3 = .slice a3 N c3 := by rw [hN]
        rw [e3]
        rw [← hN] at F7 F9 F8
        clear hown3 hO3 b3 hA256 hAl hS1 hS2 hgrow3 hown e3
        have HNN := Lib.hid hN
        clear hN
        go_wp2_with fail
        refine F7.out.mono ?_
        rintro e w4 ⟨r4, rfl, o4, b4⟩
        have O4 := Lib.hid o4
        have B4 := Lib.hid b4
        clear o4 b4
        go_wp2_with fail
        refine (F9.out _ _ _ O4.out).mono ?_
        rintro e w5 ⟨r5, rfl, o5, b5⟩
        have O5 := Lib.hid o5
        have O45 := Lib.hid (own_below O4.out b5)
        have B5 := Lib.hid (B4.out.trans (b5.mono B4.out.size))
        clear o5 b5
        go_wp2_with fail
        refine (F8.out _ B5.out).mono ?_
        rintro e w6 ⟨r6, rfl, o6, b6⟩
        have q6 := FS1.out _ _ _ o6
        have q4 := FS1.out _ _ _ (own_below O45.out b6)
        have q5 := FS2.out _ _ _ (by have h := own_below O5.out b6; rw [HNN.out] at h; exact h)
        have q3 := FS2.out _ _ _ (own_below (own_below O3.out B5.out) b6)
        rw [← HNN.out] at q3
        have B6 := Lib.hid (B3.out.trans (((B5.out.trans (b6.mono B5.out.size))).mono B3.out.size))
        clear o6 b6
        go_wp2_with fail
        go_ret
        exact ⟨rfl, B6.out⟩
end Lw
end Go.Proofs.Ytbmdjmckgcjfcaa
