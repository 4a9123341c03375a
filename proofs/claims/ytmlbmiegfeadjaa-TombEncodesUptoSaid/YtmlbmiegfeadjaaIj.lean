/- The law TombBack. -/
import Derived.Test.YtmlbmiegfeadjaaIi
import Derived.Test.YtmlbmiegfeadjaaGx
namespace Go.Proofs.Ytmlbmiegfeadjaa
open Go.RowKit
namespace Ij
open Ga Gm Gt
open Wr (Is u8s)
open Ia Ib Ix Ie Ig Ih Ic Ii
open Jb (Src str conv_src conv_own src_own)

theorem encL_lt (L : List Tmb) : ∀ b ∈ encL L, b < 256 := fun b hb => by
  unfold encL at hb
  rw [List.mem_flatMap] at hb
  obtain ⟨x, _, hx⟩ := hb
  exact enc_lt x b hx
theorem is_src {w : World} {R : Nat → Prop} {v : Value} {bs : List Nat} (h : Src w R v bs) (hc : ∀ c, v = .slice none bs.length c → c = 0) : Is w v bs := by
  rcases h with ⟨rfl, a, c, rfl⟩ | ⟨h0, b, off, c, rfl, h1, h2, h3⟩
  · cases a with
    | none => exact .inl ⟨by rw [hc c rfl], rfl⟩
    | some a => exact .inr ⟨a, c, rfl, fun j u hj => by simp [u8s] at hj⟩
  · refine .inr ⟨_, c, rfl, fun j u hj => ?_⟩
    have hjl : j < bs.length := by
      rw [List.getElem?_eq_some_iff] at hj
      obtain ⟨hj, _⟩ := hj
      simpa [u8s] using hj
    have := h3 j hjl
    rw [show u8s bs = Jb.u8s bs from rfl, Jb.u8s_get bs j hjl] at hj
    injection hj with hj
    rw [← hj]
    have e : ((⟨b, off, none⟩ : Addr).add j) = ⟨b, off + j, none⟩ := by cases j <;> simp [Addr.add]
    rw [e]; exact this
theorem is_below {w w' : World} {v : Value} {bs : List Nat} (h : Src w (fun k => k < w.heap.size) v bs) (hc : ∀ c, v = .slice none bs.length c → c = 0) (b : Below w.heap.size w w') : Is w' v bs := is_src (h.below b fun _ hk => hk) hc
set_option maxRecDepth 100000
set_option maxHeartbeats 4000000
/-- What comes behind the first half. -/
theorem back4 (w : World) (v u : Value) (L : List Tmb) (bs : List Nat) (h : Ti w v L) (hs : Src w (fun k => k < w.heap.size) u bs) (hc : ∀ c, u = .slice none bs.length c → c = 0) (hX : ∀ b ∈ bs, b < 256) (hn : L.length ≤ 1048576) (hb : bs.length ≤ 1048576) :
    Calls Try.prog 4 #[v, u] w fun e w' => e = .returned (.bool true) ∧ Below w.heap.size w w' := by
  have A9 := Lib.hid (Gx.awake9 w)
  have T12 := Lib.hid (fun (y : World) (hy : Below w.heap.size w y) => Gu.theirs12 y v L (h.below hy) (by omega))
  have E11 := Lib.hid (fun (y : World) (r : Value) (B : Nat) (ho : y.ownsRow B 57 4 r L.length (tcs L)) => encode11 y r L (ti_own ho h.1) (by omega))
  have SM := Lib.hid (fun (y : World) (r : Value) (hy : Below w.heap.size w y) (ho : Ti y r L) => Gx.same15 y r v L ho (h.below hy) (by omega))
  have D1 := Lib.hid (fun (y : World) (r : Value) (B : Nat) (hf : fmL L = true) (ho : y.ownsRow B 5 1 r (encL L).length (u8s (encL L))) => decode13 y r (encL L) (Wr.is_own ho) (encL_lt L) (by have := encL_len L hf L.length; rw [List.take_length] at this; omega))
  have OF := Lib.hid (fun (hf : fmL L = true) => (show Of (encL L) L from ⟨hf, h.1, rfl⟩))
  have D2 := Lib.hid (fun (y : World) (hy : Below w.heap.size w y) => decode13 y u bs (is_below hs hc hy) hX (by omega))
  have E2 := Lib.hid (fun (y : World) (r : Value) (B : Nat) (M : List Tmb) (ho : y.ownsRow B 57 4 r M.length (tcs M)) (hm : Of bs M) (hl : M.length * 20 ≤ bs.length) => encode11 y r M (ti_own ho hm.2.1) (by omega))
  have CV := Lib.hid (fun (y : World) (hy : Below w.heap.size w y) => conv_src (hs.below hy fun k hk => hk))
  have OU := Lib.hid (fun (y : World) (r : Value) (B : Nat) (M : List Tmb) (ho : y.ownsRow B 57 4 r M.length (tcs M)) (hw : ∀ x ∈ M, Wt x) (hm : M.length ≤ 1048576) => Gu.ours16 y r M (ti_own ho hw) (by omega))
  clear h hs hc hX
  go_enter Try.func4, Try.ntmps4
  go_wp2_with fail
  refine A9.out.mono ?_
  rintro e w1 ⟨rfl, b1⟩
  have B1 := Lib.hid b1
  have T1 := Lib.hid (T12.out w1 b1)
  clear b1 T12 A9
  go_wp2_with fail
  refine T1.out.mono ?_
  rintro e w2 ⟨r, rfl, o2, b2⟩
  have E1 := Lib.hid (E11.out w2 r _ o2)
  have B2 := Lib.hid (B1.out.trans (b2.mono B1.out.size))
  clear o2 b2 T1 E11
  go_wp2_with fail
  refine E1.out.mono ?_
  rintro e w3 ⟨he, b3⟩
  have B3 := Lib.hid (B2.out.trans (b3.mono B2.out.size))
  clear b3 E1
  rcases he with ⟨hf, s, rfl, os⟩ | ⟨hf, rfl⟩
  · have D := Lib.hid (D1.out w3 s _ hf os)
    have OFL := Lib.hid (OF.out hf)
    clear hf os D1
    go_wp2_with fail
    refine D.out.mono ?_
    rintro e w4 ⟨hd, b4⟩
    have B4 := Lib.hid (B3.out.trans (b4.mono B3.out.size))
    clear b4 D
    rcases hd.symm with ⟨hno, rfl⟩ | ⟨x, M, rfl, ox, ofm, hl⟩
    · exact absurd OFL.out (hno L)
    obtain rfl : M = L := of_one ofm OFL.out
    have O16 := Lib.hid (OU.out w4 x _ M ox ofm.2.1 hn)
    clear ox ofm hl
    go_wp2_with fail
    refine O16.out.mono ?_
    rintro e w5 ⟨y, rfl, o5, b5⟩
    have B5 := Lib.hid (B4.out.trans (b5.mono B4.out.size))
    have S5 := Lib.hid (SM.out w5 y B5.out (ti_own o5 OFL.out.2.1))
    clear o5 b5 O16
    go_wp2_with fail
    refine S5.out.mono ?_
    rintro e w6 ⟨rfl, b6⟩
    have B6 := Lib.hid (B5.out.trans (b6.mono B5.out.size))
    clear b6 S5
    have D := Lib.hid (D2.out w6 B6.out)
    clear D2
    go_wp2_with fail
    refine D.out.mono ?_
    rintro e w7 ⟨hd, b7⟩
    have B7 := Lib.hid (B6.out.trans (b7.mono B6.out.size))
    clear b7 D
    rcases hd.symm with ⟨hno, rfl⟩ | ⟨z, M2, rfl, oz, ofm2, hl2⟩
    · clear hno hd
      go_wp2_with fail
      go_ret
      exact ⟨rfl, B7.out⟩
    · have E := Lib.hid (E2.out w7 z _ M2 oz ofm2 hl2)
      have HF := Lib.hid ofm2.1
      have HE := Lib.hid ofm2.2.2
      clear oz ofm2 hl2 hd E2
      go_wp2_with fail
      refine E.out.mono ?_
      rintro e w8 ⟨he2, b8⟩
      have B8 := Lib.hid (B7.out.trans (b8.mono B7.out.size))
      rcases he2.symm with ⟨hf2, rfl⟩ | ⟨_, t, rfl, ot⟩
      · rw [HF.out] at hf2; cases hf2
      rw [HE.out] at ot
      have q1 : (convert 23 9 t).run Try.prog w8 = .ok (.string (str bs)) w8 := conv_own ot
      have q2 := CV.out w8 B8.out
      generalize str bs = S at q1 q2
      have qe : (S.toList == S.toList) = true := by simp
      clear he2 ot b8 E
      go_wp2_with fail
      go_ret
      exact ⟨rfl, B8.out⟩
  · clear hf
    have D := Lib.hid (D2.out w3 B3.out)
    clear D2
    go_wp2_with fail
    refine D.out.mono ?_
    rintro e w7 ⟨hd, b7⟩
    have B7 := Lib.hid (B3.out.trans (b7.mono B3.out.size))
    clear b7 D
    rcases hd.symm with ⟨hno, rfl⟩ | ⟨z, M2, rfl, oz, ofm2, hl2⟩
    · clear hno hd
      go_wp2_with fail
      go_ret
      exact ⟨rfl, B7.out⟩
    · have E := Lib.hid (E2.out w7 z _ M2 oz ofm2 hl2)
      have HF := Lib.hid ofm2.1
      have HE := Lib.hid ofm2.2.2
      clear oz ofm2 hl2 hd E2
      go_wp2_with fail
      refine E.out.mono ?_
      rintro e w8 ⟨he2, b8⟩
      have B8 := Lib.hid (B7.out.trans (b8.mono B7.out.size))
      rcases he2.symm with ⟨hf2, rfl⟩ | ⟨_, t, rfl, ot⟩
      · rw [HF.out] at hf2; cases hf2
      rw [HE.out] at ot
      have q1 : (convert 23 9 t).run Try.prog w8 = .ok (.string (str bs)) w8 := conv_own ot
      have q2 := CV.out w8 B8.out
      generalize str bs = S at q1 q2
      have qe : (S.toList == S.toList) = true := by simp
      clear he2 ot b8 E
      go_wp2_with fail
      go_ret
      exact ⟨rfl, B8.out⟩
end Ij
end Go.Proofs.Ytmlbmiegfeadjaa
