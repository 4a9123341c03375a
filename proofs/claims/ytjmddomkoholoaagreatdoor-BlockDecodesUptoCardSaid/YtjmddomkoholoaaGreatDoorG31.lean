import Derived.Test.YtjmddomkoholoaaGreatDoorG23
import Derived.Test.YtjmddomkoholoaaGreatDoorG07
import Derived.Test.YtjmddomkoholoaaGreatDoorG14
import Derived.Test.YtjmddomkoholoaaGreatDoorG30

/- Points and their bytes: plain mathematics. -/
namespace Go.Proofs.YtjmddomkoholoaaGreatDoor
namespace Kd
open Cm

/-- A point: its time, its value. -/
abbrev Pnt := Int × Vl
def p0 : Pnt := (0, z0)
def Wp (p : Pnt) : Prop := (-9223372036854775808 ≤ p.1 ∧ p.1 ≤ 9223372036854775807) ∧ Wv p.2
def tms (P : List Pnt) : List Int := P.map (·.1)
def vls (P : List Pnt) : List Vl := P.map (·.2)
theorem tms_len (P : List Pnt) : (tms P).length = P.length := by simp [tms]
theorem vls_len (P : List Pnt) : (vls P).length = P.length := by simp [vls]
theorem tms_in {P : List Pnt} (h : ∀ p ∈ P, Wp p) : Tm.In (tms P) := fun t ht => by
  simp only [tms, List.mem_map] at ht
  obtain ⟨p, hp, rfl⟩ := ht
  exact (h p hp).1
theorem vls_wv {P : List Pnt} (h : ∀ p ∈ P, Wp p) : ∀ v ∈ vls P, Wv v := fun v hv => by
  simp only [vls, List.mem_map] at hv
  obtain ⟨p, hp, rfl⟩ := hv
  exact (h p hp).2
theorem p0_wp : Wp p0 := ⟨by decide, z0_wv⟩
theorem getD_wp {P : List Pnt} (h : ∀ p ∈ P, Wp p) (i : Nat) : Wp (P.getD i p0) := by
  rw [List.getD_eq_getElem?_getD]
  by_cases hi : i < P.length
  · rw [List.getElem?_eq_getElem hi]; exact h _ (List.getElem_mem hi)
  · rw [List.getElem?_eq_none (by omega)]; exact p0_wp
theorem tms_get (P : List Pnt) (i : Nat) : (tms P).getD i 0 = (P.getD i p0).1 := by
  simp only [tms, List.getD_eq_getElem?_getD, List.getElem?_map]
  cases P[i]? <;> rfl
theorem vls_get (P : List Pnt) (i : Nat) : (vls P).getD i z0 = (P.getD i p0).2 := by
  simp only [vls, List.getD_eq_getElem?_getD, List.getElem?_map]
  cases P[i]? <;> rfl
theorem tms_zip {T : List Int} {V : List Vl} (h : T.length = V.length) : tms (T.zip V) = T := by
  simp only [tms]
  exact List.map_fst_zip (by omega)
theorem vls_zip {T : List Int} {V : List Vl} (h : T.length = V.length) : vls (T.zip V) = V := by
  simp only [vls]
  exact List.map_snd_zip (by omega)
theorem zip_back (P : List Pnt) : (tms P).zip (vls P) = P := by
  induction P with
  | nil => rfl
  | cons p r ih => simp only [tms, vls, List.map_cons, List.zip_cons_cons] at *; rw [ih]

def four (n : Nat) : List Nat := [n / 16777216 % 256, n / 65536 % 256, n / 256 % 256, n % 256]
theorem four_len (n : Nat) : (four n).length = 4 := rfl
theorem four_lt (n : Nat) : ∀ b ∈ four n, b < 256 := fun b hb => by simp [four] at hb; omega
theorem four_inj {m n : Nat} (hm : m < 4294967296) (hn : n < 4294967296) (h : four m = four n) : m = n := by
  simp only [four, List.cons.injEq, and_true] at h
  omega
def num4 (bs : List Nat) (j : Nat) : Nat := ((bs.getD j 0 * 256 + bs.getD (j + 1) 0) * 256 + bs.getD (j + 2) 0) * 256 + bs.getD (j + 3) 0
theorem num4_lt {bs : List Nat} (h : ∀ b ∈ bs, b < 256) (j : Nat) : num4 bs j < 4294967296 := by
  have h0 := Bm.getD_lt h j
  have h1 := Bm.getD_lt h (j + 1)
  have h2 := Bm.getD_lt h (j + 2)
  have h3 := Bm.getD_lt h (j + 3)
  unfold num4
  omega
theorem four_num {n : Nat} (h : n < 4294967296) : num4 (four n) 0 = n := by
  simp only [num4, four, List.getD_eq_getElem?_getD]
  simp
  omega
/-- What stands ahead of the sum. -/
def body (k : Nat) (tb vb : List Nat) : List Nat := k :: (four tb.length ++ (tb ++ vb))
def lay (k : Nat) (tb vb : List Nat) : List Nat := body k tb vb ++ four (Kc.sum (body k tb vb))
theorem body_len (k : Nat) (tb vb : List Nat) : (body k tb vb).length = 5 + tb.length + vb.length := by simp [body, four_len]; omega
theorem body_lt {k : Nat} {tb vb : List Nat} (hk : k < 256) (ht : ∀ b ∈ tb, b < 256) (hv : ∀ b ∈ vb, b < 256) : ∀ b ∈ body k tb vb, b < 256 := fun b hb => by
  simp only [body, List.mem_cons, List.mem_append] at hb
  rcases hb with rfl | hb | hb | hb
  · exact hk
  · exact four_lt _ b hb
  · exact ht b hb
  · exact hv b hb
theorem lay_len (k : Nat) (tb vb : List Nat) : (lay k tb vb).length = 9 + tb.length + vb.length := by simp [lay, body_len, four_len]; omega
theorem lay_lt {k : Nat} {tb vb : List Nat} (hk : k < 256) (ht : ∀ b ∈ tb, b < 256) (hv : ∀ b ∈ vb, b < 256) : ∀ b ∈ lay k tb vb, b < 256 := fun b hb => by
  simp only [lay, List.mem_append] at hb
  rcases hb with hb | hb
  · exact body_lt hk ht hv b hb
  · exact four_lt _ b hb
/-- The bytes of points, or why there are none. -/
def kd (P : List Pnt) : Nat := ((vls P).getD 0 z0).1.toNat
def enc8 (P : List Pnt) : Nat × List Nat :=
  if Tm.Ok (tms P) then (if (enc (vls P)).1 = 0 then (0, lay (kd P) (Tm.bytesOf (tms P)) (enc (vls P)).2) else ((enc (vls P)).1, [])) else (1, [])
/-- The three parts that bytes tell: the sum is right. -/
def hd (b : List Nat) : Nat := b.getD 0 0
def size (b : List Nat) : Nat := num4 b 1
def bdy (b : List Nat) : List Nat := b.take (b.length - 4)
def tl4 (b : List Nat) : List Nat := b.drop (b.length - 4)
def tpart (b : List Nat) : List Nat := (b.drop 5).take (size b)
def vpart (b : List Nat) : List Nat := (b.drop (5 + size b)).take (b.length - 9 - size b)
/-- The bytes have a head and a sum that is theirs, and room for the times. -/
def Sound (b : List Nat) : Prop := 9 ≤ b.length ∧ four (Kc.sum (bdy b)) = tl4 b ∧ size b ≤ b.length - 9
instance (b : List Nat) : Decidable (Sound b) := by unfold Sound; infer_instance
/-- P is what b says. -/
def Says (b : List Nat) (P : List Pnt) : Prop := Sound b ∧ ∃ T V, Tm.dec (tpart b) = some T ∧ Of (hd b : Nat) T.length (vpart b) V ∧ P = T.zip V

theorem lay_bdy (k : Nat) (tb vb : List Nat) : bdy (lay k tb vb) = body k tb vb := by
  unfold bdy lay
  rw [List.length_append, four_len, show (body k tb vb).length + 4 - 4 = (body k tb vb).length from by omega, List.take_left']
  rfl
theorem lay_tl4 (k : Nat) (tb vb : List Nat) : tl4 (lay k tb vb) = four (Kc.sum (body k tb vb)) := by
  unfold tl4 lay
  rw [List.length_append, four_len, show (body k tb vb).length + 4 - 4 = (body k tb vb).length from by omega, List.drop_left']
  rfl
theorem lay_hd (k : Nat) (tb vb : List Nat) : hd (lay k tb vb) = k := rfl
theorem lay_size {k : Nat} {tb vb : List Nat} (h : tb.length < 4294967296) : size (lay k tb vb) = tb.length := by
  have := four_num h
  exact this
theorem lay_form (k : Nat) (tb vb : List Nat) : lay k tb vb = (k :: four tb.length) ++ (tb ++ (vb ++ four (Kc.sum (body k tb vb)))) := by simp [lay, body]
theorem lay_tpart {k : Nat} {tb vb : List Nat} (h : tb.length < 4294967296) : tpart (lay k tb vb) = tb := by
  unfold tpart
  rw [lay_size h, lay_form, List.drop_left' (by rfl), List.take_left' rfl]
theorem lay_vpart {k : Nat} {tb vb : List Nat} (h : tb.length < 4294967296) : vpart (lay k tb vb) = vb := by
  unfold vpart
  rw [lay_size h, lay_len, lay_form, ← List.append_assoc, List.drop_left' (by simp [four_len]; omega), List.take_left' (by omega)]
theorem lay_sound {k : Nat} {tb vb : List Nat} (h : tb.length < 4294967296) : Sound (lay k tb vb) :=
  ⟨by rw [lay_len]; omega, by rw [lay_bdy, lay_tl4], by rw [lay_size h, lay_len]; omega⟩

theorem enc_formed {T : List Vl} (h : (enc T).1 = 0) : 1 ≤ T.length ∧ T.length ≤ 1000 ∧ T.all formed = true ∧ one T = true := by
  by_cases h0 : T.length = 0 ∨ 1000 < T.length
  · rw [En.enc_len h0] at h; cases h
  · cases hf : T.all formed with
    | false => rw [En.enc_bad hf] at h; cases h
    | true =>
      cases ho : one T with
      | false => rw [En.enc_mixed (by omega) (by omega) hf ho] at h; cases h
      | true => exact ⟨by omega, by omega, rfl, rfl⟩
theorem enc_of {T : List Vl} (hw : ∀ v ∈ T, Wv v) (h : (enc T).1 = 0) : Of (T.getD 0 z0).1 T.length (enc T).2 T := by
  obtain ⟨_, _, _, ho⟩ := enc_formed h
  refine ⟨rfl, fun v hv => ⟨one_of ho v hv, hw v hv⟩, ?_⟩
  rw [← h]
/-- What was packed says what it was. -/
theorem says_back {P : List Pnt} (hw : ∀ p ∈ P, Wp p) {b : List Nat} (h : enc8 P = (0, b)) : Says b P ∧ Tm.Ok (tms P) ∧ (enc (vls P)).1 = 0 ∧ b = lay (kd P) (Tm.bytesOf (tms P)) (enc (vls P)).2 ∧ (kd P = 1 ∨ kd P = 2 ∨ kd P = 3 ∨ kd P = 4) := by
  unfold enc8 at h
  by_cases hO : Tm.Ok (tms P)
  · rw [if_pos hO] at h
    by_cases he : (enc (vls P)).1 = 0
    · rw [if_pos he] at h
      have hb : b = lay (kd P) (Tm.bytesOf (tms P)) (enc (vls P)).2 := (congrArg Prod.snd h).symm
      have hl : (Tm.bytesOf (tms P)).length < 4294967296 := by have := (Tm.bytes_len (tms P) hO.2.1).2; omega
      have ho := enc_of (vls_wv hw) he
      have hk := ho.parts.2.2.2.2
      have hkd : ((kd P : Nat) : Int) = ((vls P).getD 0 z0).1 := by unfold kd; omega
      refine ⟨⟨by rw [hb]; exact lay_sound hl, tms P, vls P, ?_, ?_, (zip_back P).symm⟩, hO, he, hb, by omega⟩
      · rw [hb, lay_tpart hl]
        exact Tm.dec_back (tms_in hw) hO
      · rw [hb, lay_hd, lay_vpart hl, hkd, tms_len, ← vls_len]
        exact ho
    · rw [if_neg he] at h
      exact absurd (congrArg Prod.fst h) he
  · rw [if_neg hO] at h
    cases h
/-- Bytes say one row of points. -/
theorem says_unique {b : List Nat} {P Q : List Pnt} (huniq : ∀ k n c T U, Of k n c T → Of k n c U → T = U) (h : Says b P) (k : Says b Q) : P = Q := by
  obtain ⟨_, T, V, h1, h2, rfl⟩ := h
  obtain ⟨_, T', V', h1', h2', rfl⟩ := k
  rw [h1] at h1'
  cases h1'
  rw [huniq _ _ _ _ _ h2 h2']

/-- A byte turned: no sound bytes. -/
theorem turned_unsound {b : List Nat} (hX : ∀ x ∈ b, x < 256) (h : Sound b) {j x : Nat} (hj : j < b.length) (hx : x < 256) (hne : x ≠ b.getD j 0) : ¬ Sound (b.set j x) := fun h' => by
  obtain ⟨h1, h2, _⟩ := h
  obtain ⟨_, h4, _⟩ := h'
  by_cases hjb : j < b.length - 4
  · have e1 : bdy (b.set j x) = (bdy b).set j x := by
      unfold bdy
      rw [List.length_set, List.take_set]
    have e2 : tl4 (b.set j x) = tl4 b := by
      unfold tl4
      rw [List.length_set, List.drop_set_of_lt (by omega)]
    rw [e1, e2, ← h2] at h4
    have e3 := four_inj (Kc.sum_lt _) (Kc.sum_lt _) h4
    have hl : (bdy b).length = b.length - 4 := by unfold bdy; simp
    refine Kc.sum_set (bs := bdy b) (fun y hy => hX y (List.mem_of_mem_take hy)) (j := j) (by omega) hx ?_ e3
    intro e
    apply hne
    rw [e]
    unfold bdy
    simp [List.getD_eq_getElem?_getD, hjb, hj]
  · have e1 : bdy (b.set j x) = bdy b := by
      unfold bdy
      rw [List.length_set, List.take_set_of_le (by omega)]
    rw [e1, h2] at h4
    have e5 := congrArg (fun l => l.getD (j - (b.length - 4)) 0) h4
    unfold tl4 at e5
    rw [List.length_set] at e5
    simp only [List.getD_eq_getElem?_getD, List.getElem?_drop, show b.length - 4 + (j - (b.length - 4)) = j from by omega] at e5
    rw [List.getElem?_set_self hj] at e5
    simp only [Option.getD_some] at e5
    exact hne (by rw [List.getD_eq_getElem?_getD]; exact e5.symm)
end Kd
end Go.Proofs.YtjmddomkoholoaaGreatDoor
