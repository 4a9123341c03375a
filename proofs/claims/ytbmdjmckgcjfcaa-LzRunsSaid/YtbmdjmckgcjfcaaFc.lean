/- appendCopy; the document's flush. -/
import Derived.Test.YtbmdjmckgcjfcaaFb
namespace Go.Proofs.Ytbmdjmckgcjfcaa
open Go.RowKit
namespace Fb
open Lm Bs

theorem cells_new (w : World) (xs : List Value) (t : TypeId) : ∀ j u, xs[j]? = some u → (w.alloc (.cells xs.toArray t)).cell? ((⟨w.heap.size, 0, none⟩ : Addr).add j) = some u := by
  intro j u hj
  rw [add_eq, Nat.zero_add, cell_of_row _ _ _ _ _ _ (heap_alloc_new _ _)]
  simpa using hj

set_option maxRecDepth 100000 in
theorem copy14 (w : World) (B : Nat) (s : Value) (pre : List Nat) (d n : Nat) (hown : w.ownsRow B 5 1 s pre.length (u8s pre)) (hB : B ≤ w.heap.size) (hb : pre.length ≤ 70368744177664) (hd : d ≤ 65535) (hn4 : 4 ≤ n) (hn : n ≤ 131) :
    Calls Try.prog 14 #[s, .int .i64 (d : Nat), .int .i64 (n : Nat)] w fun e w' => ∃ r, e = .returned r ∧ w'.ownsRow B 5 1 r (pre ++ cp d n).length (u8s (pre ++ cp d n)) ∧ Gr w w' s r := by
  obtain ⟨i0, hi, hz0, hz1, hz2⟩ := info_parts info5
  obtain ⟨K, hK⟩ : ∃ K, K = pre.length := ⟨_, rfl⟩
  obtain ⟨P, hP⟩ : ∃ P, P = u8s pre := ⟨_, rfl⟩
  have HPT : Hid (u8s (pre ++ cp d n) = P ++ [.int .u8 ((124 + n : Nat) : Int), .int .u8 ((d / 256 : Nat) : Int), .int .u8 ((d % 256 : Nat) : Int)] ∧ (pre ++ cp d n).length = K + 3) := Lib.hid ⟨by rw [u8s_app, hP]; rfl, by rw [List.length_append, hK]; rfl⟩
  obtain ⟨X, hX⟩ : ∃ X, X = 124 + n := ⟨_, rfl⟩
  obtain ⟨Y, hY⟩ : ∃ Y, Y = d / 256 := ⟨_, rfl⟩
  obtain ⟨Z, hZ⟩ : ∃ Z, Z = d % 256 := ⟨_, rfl⟩
  have h1 : 128 + (n : Int) - 4 = (X : Int) := by omega
  have h2 : (d : Int) / 256 = (Y : Int) := by omega
  have h3 : (d : Int) % 256 = (Z : Int) := by omega
  have h4 : X < 256 := by omega
  have h5 : Y < 256 := by omega
  have h6 : Z < 256 := by omega
  rw [← hX, ← hY, ← hZ] at HPT
  rw [← hK, ← hP] at hown
  rw [← hK] at hb
  clear hX hY hZ hK hP
  go_enter Try.func14, Try.ntmps14
  go_wp2_with (at_builtin; refine wpList_append_own_at _ rfl (.tmp 7) (.tmp 17) 22 rfl B 5 i0 (.int .u8 0) 1 1 Try.underlying22 hi hz0 hz1 hz2 rfl (by decide) _ K _ rfl (hown.alloc _) ⟨w.heap.size, 0, none⟩ 3 3 [.int .u8 (X : Int), .int .u8 (Y : Int), .int .u8 (Z : Int)] rfl rfl ?c1 ?c2 ?c3 ?c4 ?c5 ?_)
  case c1 => exact cells_new _ _ _
  case c2 => intro u hu; simp at hu; rcases hu with rfl | rfl | rfl <;> rfl
  case c3 => unfold maxLen; omega
  case c4 => omega
  case c5 => simp; omega
  intro v2 w2 hown2 hgrow2 _ hat2
  have G2 := Lib.hid (gr_alloc _ (gr_at hgrow2 (by simpa using hat2)))
  have O2 := Lib.hid hown2
  clear hgrow2 hat2 hown hown2
  go_wp2_with fail
  go_ret
  exact ⟨_, rfl, by rw [HPT.out.1, HPT.out.2]; exact O2.out, G2.out⟩

/-- An append to a slice of one's own, as one step of a region that draws. -/
theorem step_append_at {P : Program} {ops : Array Oper} {o : Oper} {a : Act} {w : World} {K : Act → World → Prop} {Q : Exit → Act → World → Prop} {E : Prop}
    (hg : o.guard = none) (s x : Operand) (t : TypeId) (hop : o.op = Op.call { callee := Callee.builtin Builtin.append, args := #[s, x], argTypes := #[t, t] })
    (base : Nat) (e : TypeId) (i : TypeInfo) (z : Value) (size bytes : Nat) (h1 : P.underlying t = some (.slice e)) (h2 : P.info? e = some i) (h3 : i.zero = some z) (h4 : i.size = size) (h5 : i.bytes = bytes) (h6 : z.cells.size = size) (h7 : 0 < size)
    (v : Value) (n : Nat) (xs : List Value) (hs : a.eval s = v) (hown : w.ownsRow base e size v n xs)
    (ad : Addr) (m c : Nat) (news : List Value) (hx : a.eval x = .slice (some ad) m c) (hn : news.length = m * size) (hc : ∀ j u, news[j]? = some u → w.cell? (ad.add j) = some u) (h1c : ∀ u ∈ news, u.oneCell' = true)
    (b1 : n + m ≤ maxLen) (b2 : (n + m) * bytes ≤ 140737488355328) (hb : base ≤ w.heap.size)
    (hK : ∀ v' w', w'.ownsRow base e size v' (n + m) (xs ++ news) → w.grownBy w' v.ownBlock → (v'.ownBlock = v.ownBlock ∨ v'.ownBlock = some w.heap.size) → K (a.put o.dst v') w') :
    if Region.wanted o (yielded ops a.tmps) = true then Oper.wp P o a w K Q else E := by
  have hw : Region.wanted o (yielded ops a.tmps) = true := by simp [Region.wanted, hg]
  rw [if_pos hw]
  obtain ⟨v', w', hrun, r1, r2, _, r3⟩ := run_append_own_at (P := P) w base t o.type e i z size bytes h1 h2 h3 h4 h5 h6 h7 v n xs hown ad m c news hn hc h1c b1 b2 hb
  unfold Oper.wp
  simp [execOp, hop, resolve, invoke, builtin, hs, hx, hrun, Result.andThen]
  exact hK v' w' r1 r2 r3
end Fb
end Go.Proofs.Ytbmdjmckgcjfcaa
