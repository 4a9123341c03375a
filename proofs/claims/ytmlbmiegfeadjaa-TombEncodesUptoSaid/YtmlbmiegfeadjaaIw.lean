/- The law TombEncodes. -/
import Derived.Test.YtmlbmiegfeadjaaIu
import Derived.Test.YtmlbmiegfeadjaaIv
import Derived.Test.YtmlbmiegfeadjaaIj
namespace Go.Proofs.Ytmlbmiegfeadjaa
open Go.RowKit
namespace Iw
open Ga Gm Gt
open Wr (Is u8s)
open Ia Ib Ix Ie Ic Ii Iv Ij
open Jb (Src str conv_src conv_own src_own)
set_option maxRecDepth 100000
set_option maxHeartbeats 4000000
theorem decode14 (w : World) (v0 : Value) (bs : List Nat) (h : Src w (fun k => k < w.heap.size) v0 bs) (hX : ∀ b ∈ bs, b < 256) (hb : bs.length ≤ 100000000) :
    Calls Try.prog 14 #[v0] w fun e w' => DecR w w' bs e ∧ Below w.heap.size w w' := by
  rcases h with ⟨rfl, a, c, rfl⟩ | ⟨h0, b, off, c, rfl, h1, h2, h3⟩
  · go_enter Try.func14, Try.ntmps14
    go_wp2_with fail
    refine wp_loop_rounds 1 ?_
    rw [rounds_succ]
    go_wp2_with fail
    go_ret2
    exact ⟨.inl ⟨_, [], rfl, World.ownsRow_nil _ _ _ _, ⟨rfl, by simp, rfl⟩, by simp⟩, Below.refl _ _⟩
  · exact decode14n w b off c bs.length bs rfl h1 hX hb h2 h3
def erL (L : List Tmb) : Int := if fmL L = true then 0 else 1
def stL (L : List Tmb) : ByteArray := if fmL L = true then str (encL L) else str []
theorem enc_form {w w' : World} {L : List Tmb} {e : Ending} (h : Enc w w' L e) : ∃ r, e = .returned (.tuple #[r, .int .i64 (erL L)]) ∧ ∀ y, Below w'.heap.size w' y → (convert 23 9 r).run Try.prog y = .ok (.string (stL L)) y := by
  unfold erL stL
  rcases h with ⟨hf, r, rfl, o⟩ | ⟨hf, rfl⟩
  · rw [if_pos hf, if_pos hf]
    exact ⟨r, rfl, fun y hy => conv_own (own_of_block o fun k hk => hy.block k (Gt.own_lt o hk).2)⟩
  · rw [if_neg (by rw [hf]; decide), if_neg (by rw [hf]; decide)]
    exact ⟨_, rfl, fun y _ => conv_src (R := fun _ => True) (.inl ⟨rfl, none, 0, rfl⟩)⟩
def DOK (bs : List Nat) (L : List Tmb) (g : Int) : Prop := (g = 0 ∧ Of bs L) ∨ (g = 2 ∧ L = [] ∧ ∀ M, ¬ Of bs M)
theorem dok_one {bs : List Nat} {L M : List Tmb} {g h : Int} (a : DOK bs L g) (b : DOK bs M h) : L = M ∧ g = h := by
  rcases a with ⟨rfl, a⟩ | ⟨rfl, rfl, a⟩
  · rcases b with ⟨rfl, b⟩ | ⟨rfl, rfl, b⟩
    · exact ⟨of_one a b, rfl⟩
    · exact absurd a (b _)
  · rcases b with ⟨rfl, b⟩ | ⟨rfl, rfl, b⟩
    · exact absurd b (a _)
    · exact ⟨rfl, rfl⟩
theorem ti_nil (w : World) : Ti w (.slice none 0 0) [] := ⟨by simp, .inl ⟨none, 0, rfl, rfl⟩⟩
theorem dec_form {w w' : World} {bs : List Nat} {e : Ending} (h : Dec w w' bs e) : ∃ r L g, e = .returned (.tuple #[r, .int .i64 g]) ∧ Ti w' r L ∧ DOK bs L g ∧ L.length ≤ bs.length := by
  rcases h with ⟨r, L, rfl, o, ho, hl⟩ | ⟨hn, rfl⟩
  · exact ⟨r, L, 0, rfl, ti_own o ho.2.1, .inl ⟨rfl, ho⟩, by omega⟩
  · exact ⟨_, [], 2, rfl, ti_nil _, .inr ⟨rfl, rfl, hn⟩, by simp⟩
theorem decr_form {w w' : World} {bs : List Nat} {e : Ending} (h : DecR w w' bs e) : ∃ r L g, e = .returned (.tuple #[r, .int .i64 g]) ∧ Ti w' r L ∧ DOK bs L g := by
  rcases h with ⟨r, L, rfl, o, ho, hl⟩ | ⟨hn, rfl⟩
  · exact ⟨r, L, 0, rfl, ti_own o ho.2.1, .inl ⟨rfl, ho⟩⟩
  · exact ⟨_, [], 2, rfl, ti_nil _, .inr ⟨rfl, rfl, hn⟩⟩
theorem encodes3 (w : World) (v u : Value) (L : List Tmb) (bs : List Nat) (h : Ti w v L) (hs : Src w (fun k => k < w.heap.size) u bs) (hc : ∀ c, u = .slice none bs.length c → c = 0) (hX : ∀ b ∈ bs, b < 256) (hn : L.length ≤ 1048576) (hb : bs.length ≤ 1048576) :
    Calls Try.prog 3 #[v, u] w fun e w' => e = .returned (.bool true) ∧ Below w.heap.size w w' := by
  have A9 := Lib.hid (Gx.awake9 w)
  have E10 := Lib.hid (fun (y : World) (hy : Below w.heap.size w y) => Iu.encode10 y v L (h.below hy) (by omega))
  have T12 := Lib.hid (fun (y : World) (hy : Below w.heap.size w y) => Gu.theirs12 y v L (h.below hy) (by omega))
  have E11 := Lib.hid (fun (y : World) (r : Value) (B : Nat) (ho : y.ownsRow B 57 4 r L.length (tcs L)) => encode11 y r L (ti_own ho h.1) (by omega))
  have D1 := Lib.hid (fun (y : World) (hy : Below w.heap.size w y) => decode13 y u bs (is_below hs hc hy) hX (by omega))
  have D2 := Lib.hid (fun (y : World) (hy : Below w.heap.size w y) => decode14 y u bs ((hs.below hy fun k hk => hk).imp fun k hk => Nat.lt_of_lt_of_le hk hy.size) hX (by omega))
  have OU := Lib.hid (fun (y : World) (r : Value) (M : List Tmb) (ht : Ti y r M) (hm : M.length ≤ bs.length) => Gu.ours16 y r M ht (by omega))
  have SM := Lib.hid (fun (y : World) (r q : Value) (M : List Tmb) (h1 : Ti y r M) (h2 : Ti y q M) (hm : M.length ≤ bs.length) => Gx.same15 y r q M h1 h2 (by omega))
  clear h hs hc hX
  go_enter Try.func3, Try.ntmps3
  go_wp2_with fail
  refine A9.out.mono ?_
  rintro e w1 ⟨rfl, b1⟩
  have B1 := Lib.hid b1
  have T1 := Lib.hid (E10.out w1 b1)
  clear b1 E10 A9
  go_wp2_with fail
  refine T1.out.mono ?_
  rintro e w2 ⟨he, b2⟩
  obtain ⟨want, rfl, hcw⟩ := enc_form he
  have B2 := Lib.hid (B1.out.trans (b2.mono B1.out.size))
  have CW := Lib.hid hcw
  have T2 := Lib.hid (T12.out w2 B2.out)
  clear he b2 hcw T1 T12
  go_wp2_with fail
  refine T2.out.mono ?_
  rintro e w3 ⟨r, rfl, o3, b3⟩
  have T3 := Lib.hid (E11.out w3 r _ o3)
  have B23 := Lib.hid b3
  clear o3 b3 T2 E11
  go_wp2_with fail
  refine T3.out.mono ?_
  rintro e w4 ⟨he, b4⟩
  obtain ⟨got, rfl, hcg⟩ := enc_form he
  have B24 := Lib.hid (B23.out.trans (b4.mono B23.out.size))
  have B4 := Lib.hid (B2.out.trans (B24.out.mono B2.out.size))
  have CG := Lib.hid hcg
  have T4 := Lib.hid (D1.out w4 B4.out)
  clear he b4 hcg T3 D1
  go_wp2_with fail
  refine T4.out.mono ?_
  rintro e w5 ⟨hd, b5⟩
  obtain ⟨x, M, g, rfl, tx, dx, hm⟩ := dec_form hd
  have B45 := Lib.hid b5
  have B5 := Lib.hid (B4.out.trans (b5.mono B4.out.size))
  have TX := Lib.hid tx
  have DX := Lib.hid dx
  have HM := Lib.hid hm
  have T5 := Lib.hid (D2.out w5 B5.out)
  clear hd b5 tx dx hm T4 D2
  go_wp2_with fail
  refine T5.out.mono ?_
  rintro e w6 ⟨hd, b6⟩
  obtain ⟨y, M2, g2, rfl, ty, dy⟩ := decr_form hd
  obtain ⟨rfl, rfl⟩ := dok_one DX.out dy
  have B46 := Lib.hid (B45.out.trans (b6.mono B45.out.size))
  have B6 := Lib.hid (B5.out.trans (b6.mono B5.out.size))
  have TX6 := Lib.hid (TX.out.below b6)
  have TY := Lib.hid ty
  have q1 := CG.out w6 B46.out
  have q2 := CW.out w6 (B24.out.trans (B46.out.mono B24.out.size))
  have T6 := Lib.hid (OU.out w6 x M TX6.out HM.out)
  generalize stL L = S at q1 q2
  have qe : (S.toList == S.toList) = true := by simp
  clear hd b6 ty dy T5
  go_wp2_with (first
    | (go_at_call 16; refine T6.out.mono ?_; rintro e w7 ⟨z, rfl, o7, b7⟩; have B7 := Lib.hid b7; have S7 := Lib.hid (SM.out w7 z y M (ti_own o7 TX6.out.1) (TY.out.below b7) HM.out); clear o7 b7)
    | (go_at_call 15; refine S7.out.mono ?_; rintro e w8 ⟨rfl, b8⟩; have B8 := Lib.hid (B6.out.trans ((B7.out.trans (b8.mono B7.out.size)).mono B6.out.size)); clear b8))
  go_ret
  exact ⟨rfl, B8.out⟩
end Iw
end Go.Proofs.Ytmlbmiegfeadjaa
