/- The law DiskKeeps. -/
import Derived.Test.YthejolhpoakheaaJ6
namespace Go.Proofs.Ythejolhpoakheaa
open Go.RowKit Go.Maps Go.ChangeMaps Go.MapKept
namespace J7
open Jb Jm Jd Jw Jx Jn Je Jf Jg Jh Jk Jc Jl Jo Jq J1 J2 J3 J4 J6 Jt

theorem str_app (a b : List Nat) : str (a ++ b) = ⟨((str a).data.toList ++ (str b).data.toList).toArray⟩ := by
  unfold str
  apply ByteArray.ext
  apply Array.toList_inj.1
  rw [strOfNums_data, strOfNums_data, strOfNums_data]
  simp
theorem str_size (a : List Nat) : (str a).size = a.length := by
  have : (str a).data.toList.length = a.length := by unfold str; rw [strOfNums_data]; simp
  simpa using this
/-- What the law's walk asks where the name is one. -/
structure KG (w : World) (gd : Nat) (s : ByteArray) (v1 v2 v3 : Value) (X1 X2 : List Nat) : Prop where
  a1 : ∀ wr S, Below w.heap.size w wr → DV wr S gd 0 (Vn s none (X1.length + X2.length)) → (∀ k, S k → w.heap.size ≤ k) → Calls Try.prog 13 #[.pointer (some ⟨gd, 0, none⟩), .string s, v1] wr fun e w' => (∃ m : Nat, e = .returned (.tuple #[.int .i64 (m : Nat), .int .i64 0])) ∧ ∃ S', DV w' S' gd 1 (Vn s (some (X1, 0)) (X1.length + X2.length)) ∧ (∀ k, S' k → w.heap.size ≤ k) ∧ Below w.heap.size w w'
  sy : ∀ wr S, Below w.heap.size w wr → DV wr S gd 1 (Vn s (some (X1, 0)) (X1.length + X2.length)) → (∀ k, S k → w.heap.size ≤ k) → Calls Try.prog 14 #[.pointer (some ⟨gd, 0, none⟩), .string s] wr fun e w' => e = .returned (.int .i64 0) ∧ ∃ S', DV w' S' gd 1 (Vn s (some (X1, X1.length)) (X1.length + X2.length)) ∧ (∀ k, S' k → w.heap.size ≤ k) ∧ Below w.heap.size w w'
  a2 : ∀ wr S, Below w.heap.size w wr → DV wr S gd 1 (Vn s (some (X1, X1.length)) (X1.length + X2.length)) → (∀ k, S k → w.heap.size ≤ k) → Calls Try.prog 13 #[.pointer (some ⟨gd, 0, none⟩), .string s, v2] wr fun e w' => (∃ v, e = .returned v) ∧ ∃ S', DV w' S' gd 2 (Vn s (some (X1 ++ X2, X1.length)) (X1.length + X2.length)) ∧ (∀ k, S' k → w.heap.size ≤ k) ∧ Below w.heap.size w w'
  rs : ∀ wr S, Below w.heap.size w wr → DV wr S gd 2 (Vn s (some (X1 ++ X2, X1.length)) (X1.length + X2.length)) → (∀ k, S k → w.heap.size ≤ k) → Calls Try.prog 15 #[.pointer (some ⟨gd, 0, none⟩), v3] wr fun e w' => e = .returned (.tuple #[]) ∧ ∃ S' Z c, X1.length ≤ Z ∧ Z ≤ (X1 ++ X2).length ∧ DV w' S' gd 2 ⟨FnS s (some ((X1 ++ X2).take Z, c)), Z, X1.length + X2.length, false, 0, false⟩ ∧ (∀ k, S' k → w.heap.size ≤ k) ∧ Below w.heap.size w w'
  rd : ∀ wr S Z c, DV wr S gd 2 ⟨FnS s (some ((X1 ++ X2).take Z, c)), Z, X1.length + X2.length, false, 0, false⟩ → Z ≤ (X1 ++ X2).length → Calls Try.prog 16 #[.pointer (some ⟨gd, 0, none⟩), .string s] wr fun e w' => ∃ a cc, e = .returned (.tuple #[.slice a Z cc, .int .i64 0]) ∧ (∀ m, (convert 29 9 (.slice a Z cc)).run Try.prog (w'.drewN m) = .ok (.string (str ((X1 ++ X2).take Z))) (w'.drewN m)) ∧ Below wr.heap.size wr w'
theorem grow {w wr w' : World} {S : Nat → Prop} (b : Below w.heap.size w wr) (hS : ∀ k, S k → w.heap.size ≤ k) (c : Chg wr w' S) : (∀ k, New S wr w' k → w.heap.size ≤ k) ∧ Below w.heap.size w w' := by
  have := b.size
  exact ⟨fun k hk => hk.elim (hS k) (fun e => by omega), b.trans (c.below (fun k hk _ => hS k hk) (by omega))⟩
theorem kg (w : World) (gd : Nat) (s : ByteArray) (v1 v2 v3 : Value) (X1 X2 X3 : List Nat) (hn : isNm s = true) (h1 : Src w (fun k => k < w.heap.size) v1 X1) (h2 : Src w (fun k => k < w.heap.size) v2 X2) (h3 : Src w (fun k => k < w.heap.size) v3 X3)
    (hc1 : ∀ c, v1 = .slice none X1.length c → c = 0) (hc2 : ∀ c, v2 = .slice none X2.length c → c = 0) (hb1 : ∀ x ∈ X1, x < 256) (hb2 : ∀ x ∈ X2, x < 256) (hb3 : ∀ x ∈ X3, x < 256) (hl1 : X1.length ≤ 1048576) (hl2 : X2.length ≤ 1048576) : KG w gd s v1 v2 v3 X1 X2 := by
  have hs : s.size ≤ 64 := by
    have := of_decide_eq_true (show decide _ = true from hn)
    exact this.2.1
  have hal : (X1 ++ X2).length = X1.length + X2.length := List.length_append
  constructor
  · intro wr S b h hS
    have A := Append_c wr S gd 0 _ h s (by omega) _ (fun k hk e => by have := hS k e; omega) v1 X1 (h1.below b (fun k hk => hk)) hc1 hb1 (by omega) (by rw [Vn_old]; simp; omega) (by simp [Vn]; omega)
    obtain ⟨e1, e2⟩ := Vn_app hn none (X1.length + X2.length) X1 (by simp)
    rw [e1, e2] at A
    refine A.mono ?_
    rintro e w' ⟨rfl, k1, k2⟩
    exact ⟨⟨_, rfl⟩, _, k1, grow b hS k2⟩
  · intro wr S b h hS
    have A := Sync_c wr S gd 1 _ h s (by omega) X1 0 rfl (by simp [Vn, FnS]) rfl
    rw [Vn_sync] at A
    refine A.mono ?_
    rintro e w' ⟨rfl, k1, k2⟩
    exact ⟨rfl, _, k1, grow b hS k2⟩
  · intro wr S b h hS
    have A := Append_c wr S gd 1 _ h s (by omega) _ (fun k hk e => by have := hS k e; omega) v2 X2 (h2.below b (fun k hk => hk)) hc2 hb2 (by omega) (by rw [Vn_old]; simp; omega) (by simp [Vn]; omega)
    obtain ⟨e1, e2⟩ := Vn_app hn (some (X1, X1.length)) (X1.length + X2.length) X2 (by simp)
    rw [e1, e2] at A
    refine A.mono ?_
    rintro e w' ⟨rfl, k1, k2⟩
    exact ⟨⟨_, rfl⟩, _, k1, grow b hS k2⟩
  · intro wr S b h hS
    have A := Restart_c wr S gd 2 _ h (by omega) (fun k => k < w.heap.size) (fun k hk => ⟨fun e => by have := hS k e; omega, by have := b.size; omega⟩) v3 X3 (h3.below b (fun k hk => hk)) hb3 (nsn s (some (X1 ++ X2, X1.length))) (namesn s _) (totn s (some (X1 ++ X2, X1.length))).symm (by simp [Vn]; omega) (nsn_sz hs _).1 (by have := (nsn_sz hs (some (X1 ++ X2, X1.length))).2; omega)
    obtain ⟨Z, c, z1, z2, e1⟩ := Vn_rest s (X1 ++ X2) X1.length (X1.length + X2.length) X3 (by omega)
    refine A.mono ?_
    rintro e w' ⟨rfl, k1, k2⟩
    refine ⟨rfl, _, Z, c, z1, z2, ?_, grow b hS k2⟩
    rw [← e1]
    exact k1
  · intro wr S Z c h hZ
    have hl : ((X1 ++ X2).take Z).length = Z := by rw [List.length_take]; omega
    refine (Read_c wr S gd 2 _ h s (by omega) ((X1 ++ X2).take Z) c rfl (by simp [FnS]) (by omega)).mono ?_
    rintro e w' ⟨v, rfl, ho, hb⟩
    have hcv : ∀ m, (convert 29 9 v).run Try.prog (w'.drewN m) = .ok (.string (str ((X1 ++ X2).take Z))) (w'.drewN m) := fun m => by
      have ho' : (w'.drewN m).ownsRow wr.heap.size 5 1 v ((X1 ++ X2).take Z).length (u8s ((X1 ++ X2).take Z)) := own_of_block ho (fun _ _ => rfl)
      exact conv_own ho'
    rw [hl] at ho
    obtain ⟨a, cc, rfl⟩ := own_forms ho
    exact ⟨a, cc, rfl, hcv, hb⟩
/-- .. and where it is none. -/
structure KB (w : World) (gd : Nat) (s : ByteArray) (v1 v2 v3 : Value) (room : Nat) : Prop where
  a1 : ∀ wr S, Below w.heap.size w wr → DV wr S gd 0 (Vn s none room) → (∀ k, S k → w.heap.size ≤ k) → Calls Try.prog 13 #[.pointer (some ⟨gd, 0, none⟩), .string s, v1] wr fun e w' => (∃ m : Nat, e = .returned (.tuple #[.int .i64 (m : Nat), .int .i64 1])) ∧ ∃ S', DV w' S' gd 1 (Vn s none room) ∧ (∀ k, S' k → w.heap.size ≤ k) ∧ Below w.heap.size w w'
  sy : ∀ wr S, DV wr S gd 1 (Vn s none room) → Calls Try.prog 14 #[.pointer (some ⟨gd, 0, none⟩), .string s] wr fun e w' => e = .returned (.int .i64 6) ∧ w' = wr
  a2 : ∀ wr S, Below w.heap.size w wr → DV wr S gd 1 (Vn s none room) → (∀ k, S k → w.heap.size ≤ k) → Calls Try.prog 13 #[.pointer (some ⟨gd, 0, none⟩), .string s, v2] wr fun e w' => (∃ v, e = .returned v) ∧ ∃ S', DV w' S' gd 2 (Vn s none room) ∧ (∀ k, S' k → w.heap.size ≤ k) ∧ Below w.heap.size w w'
  rs : ∀ wr S, Below w.heap.size w wr → DV wr S gd 2 (Vn s none room) → (∀ k, S k → w.heap.size ≤ k) → Calls Try.prog 15 #[.pointer (some ⟨gd, 0, none⟩), v3] wr fun e w' => e = .returned (.tuple #[]) ∧ ∃ S', DV w' S' gd 2 (Vn s none room) ∧ Below w.heap.size w w'
  rd : ∀ wr S, DV wr S gd 2 (Vn s none room) → Calls Try.prog 16 #[.pointer (some ⟨gd, 0, none⟩), .string s] wr fun e w' => e = .returned (.tuple #[.slice none 0 0, .int .i64 6]) ∧ w' = wr
theorem kb (w : World) (gd : Nat) (s : ByteArray) (hs : s.size ≤ 140737488355328) (v1 v2 v3 : Value) (X1 X2 X3 : List Nat) (room : Nat) (hn : isNm s = false) (h1 : Src w (fun k => k < w.heap.size) v1 X1) (h2 : Src w (fun k => k < w.heap.size) v2 X2) (h3 : Src w (fun k => k < w.heap.size) v3 X3)
    (hc1 : ∀ c, v1 = .slice none X1.length c → c = 0) (hc2 : ∀ c, v2 = .slice none X2.length c → c = 0) (hb1 : ∀ x ∈ X1, x < 256) (hb2 : ∀ x ∈ X2, x < 256) (hb3 : ∀ x ∈ X3, x < 256) (hl1 : X1.length ≤ 1048576) (hl2 : X2.length ≤ 1048576) : KB w gd s v1 v2 v3 room := by
  have hE : finE (Vn s none room) s = 6 := by unfold finE; rw [if_neg (by simp [Vn]), if_pos (by simp [Vn, FnS])]
  constructor
  · intro wr S b h hS
    have A := Append_c wr S gd 0 _ h s hs _ (fun k hk e => by have := hS k e; omega) v1 X1 (h1.below b (fun k hk => hk)) hc1 hb1 (by omega) (by rw [Vn_old]; simp; omega) (by simp [Vn]; omega)
    obtain ⟨e1, e2⟩ := Vn_bad hn room X1
    rw [e1, e2] at A
    refine A.mono ?_
    rintro e w' ⟨rfl, k1, k2⟩
    exact ⟨⟨_, rfl⟩, _, k1, grow b hS k2⟩
  · intro wr S h
    have A := Sync_bad wr S gd 1 _ h s hs (by rw [hE]; decide)
    rw [hE] at A
    exact A
  · intro wr S b h hS
    have A := Append_c wr S gd 1 _ h s hs _ (fun k hk e => by have := hS k e; omega) v2 X2 (h2.below b (fun k hk => hk)) hc2 hb2 (by omega) (by rw [Vn_old]; simp; omega) (by simp [Vn]; omega)
    obtain ⟨e1, e2⟩ := Vn_bad hn room X2
    rw [e1, e2] at A
    refine A.mono ?_
    rintro e w' ⟨rfl, k1, k2⟩
    exact ⟨⟨_, rfl⟩, _, k1, grow b hS k2⟩
  · intro wr S b h hS
    have A := Restart_c wr S gd 2 _ h (by omega) (fun k => k < w.heap.size) (fun k hk => ⟨fun e => by have := hS k e; omega, by have := b.size; omega⟩) v3 X3 (h3.below b (fun k hk => hk)) hb3 (nsn s none) (namesn s _) (totn s none).symm (by simp [Vn]) (by simp [nsn]) (by simp [nsn])
    refine A.mono ?_
    rintro e w' ⟨rfl, k1, k2⟩
    exact ⟨rfl, _, k1, (grow b hS k2).2⟩
  · intro wr S h
    have A := Read_bad wr S gd 2 _ h s hs (by rw [hE]; decide)
    rw [hE] at A
    exact A
theorem new_n (w : World) (s : ByteArray) (room : Nat) (hr : room ≤ 9223372036854775807) : ∀ w1, Below w.heap.size w w1 → Calls Try.prog 9 #[.int .i64 (room : Nat)] w1 fun e w' => e = .returned (.pointer (some ⟨w1.heap.size, 0, none⟩)) ∧ ∃ S, DV w' S w1.heap.size 0 (Vn s none room) ∧ (∀ k, S k → w.heap.size ≤ k) ∧ Below w.heap.size w w' := by
  intro w1 b1
  have hb := b1.size
  refine (New_c w1 (room : Nat) (by omega)).mono ?_
  rintro e w' ⟨rfl, h1, h2⟩
  refine ⟨rfl, (fun k => w1.heap.size ≤ k ∧ k < w'.heap.size), ?_, fun k hk => Nat.le_trans hb hk.1, b1.trans (h2.mono hb)⟩
  have e0 : Vn s none room = V0 (room : Int).toNat := vw_ext (fun x => by simp [Vn, FnS, V0]) rfl (by simp [Vn, V0]) rfl rfl rfl
  rw [e0]
  exact h1
end J7
end Go.Proofs.Ythejolhpoakheaa
