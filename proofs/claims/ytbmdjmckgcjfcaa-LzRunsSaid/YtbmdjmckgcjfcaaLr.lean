/- One byte again and again: plain mathematics. -/
import Derived.Test.YtbmdjmckgcjfcaaLm
namespace Go.Proofs.Ytbmdjmckgcjfcaa
namespace Lr
open Lm

theorem g_rep {c n i : Nat} (h : i < n) : g (List.replicate n c) i = c := by unfold g; simp [List.getD_eq_getElem?_getD, h]
theorem latest_rep {c n a : Nat} (h1 : 1 ≤ a) (h4 : a + 4 ≤ n) : latest (List.replicate n c) a = some (a - 1) := by
  refine latest_some (by simpa using h4) (by omega) ?_ (fun q h1 h2 => by omega) (by omega)
  unfold Same
  rw [g_rep (by omega), g_rep (by omega), g_rep (by omega), g_rep (by omega), g_rep (by omega), g_rep (by omega), g_rep (by omega), g_rep (by omega)]
  exact ⟨rfl, rfl, rfl, rfl⟩
theorem alike_rep {c n a : Nat} (h1 : 1 ≤ a) (h : a ≤ n) : alike (List.replicate n c) (a - 1) a = min (n - a) 131 :=
  alike_eq (by simp) (fun k hk => by rw [g_rep (by omega), g_rep (by omega)]) (.inl (by simp))
theorem rest_tail {b : List Nat} {o : Nat} : ∀ {k a : Nat}, b.length - a = k → b.length < a + 4 → rest b o a = own (b.drop o) := by
  intro k
  induction k with
  | zero => intro a h _; exact rest_end (by omega)
  | succ k ih =>
    intro a h h4
    rw [rest_none (by omega) (latest_end h4)]
    exact ih (a := a + 1) (by omega) (by omega)
/-- How many bytes so many more come to. -/
def F (k : Nat) : Nat := 3 * (k / 131) + (if 4 ≤ k % 131 then 3 else if 0 < k % 131 then 1 + k % 131 else 0)
theorem rest_rep {c n : Nat} : ∀ {k a : Nat}, n - a = k → 1 ≤ a → a ≤ n → (rest (List.replicate n c) a a).length = F k := by
  intro k
  induction k using Nat.strongRecOn with
  | _ k ih =>
    intro a hk h1 h2
    by_cases h4 : 4 ≤ k
    · rw [rest_some (by simp; omega) (latest_rep (c := c) h1 (by omega)), alike_rep h1 h2, mid_self, own_nil, List.nil_append, List.length_append]
      have e : (cp (a - (a - 1)) (min (n - a) 131)).length = 3 := rfl
      rw [e, ih (n - (a + min (n - a) 131)) (by omega) rfl (by omega) (by omega)]
      unfold F
      by_cases h131 : 131 ≤ k
      · rw [show n - (a + min (n - a) 131) = k - 131 from by omega]
        have e1 : k / 131 = (k - 131) / 131 + 1 := by omega
        have e2 : k % 131 = (k - 131) % 131 := by omega
        rw [e1, e2]
        omega
      · rw [show n - (a + min (n - a) 131) = 0 from by omega]
        have e1 : k / 131 = 0 := by omega
        have e2 : k % 131 = k := by omega
        rw [e1, e2, if_pos h4]
        rfl
    · rw [rest_tail rfl (by simp; omega)]
      have hl : ((List.replicate n c).drop a).length = k := by simp; omega
      by_cases h0 : k = 0
      · have : (List.replicate n c).drop a = [] := List.length_eq_zero_iff.1 (by omega)
        rw [this, own_nil, h0]; rfl
      · rw [own_small (by omega) (by omega), List.length_cons, hl]
        unfold F
        have e1 : k / 131 = 0 := by omega
        have e2 : k % 131 = k := by omega
        rw [e1, e2, if_neg h4, if_pos (by omega)]
        omega
theorem packs_rep {c n : Nat} (h5 : 5 ≤ n) : (packs (List.replicate n c)).length = 2 + F (n - 1) := by
  unfold packs
  have h0 : latest (List.replicate n c) 0 = none := latest_none fun q hq => by omega
  rw [rest_none (by simp; omega) h0, rest_some (by simp; omega) (latest_rep (c := c) (Nat.le_refl _) (by omega)), alike_rep (Nat.le_refl _) (by omega), List.length_append, List.length_append]
  have e : (cp (1 - (1 - 1)) (min (n - 1) 131)).length = 3 := rfl
  have hm : (mid (List.replicate n c) 0 1).length = 1 := by rw [mid_len (by simp; omega)]
  rw [own_small (by omega) (by omega), List.length_cons, hm, e]
  have hr := rest_rep (c := c) (n := n) (k := n - 1) (a := 1) rfl (Nat.le_refl _) (by omega)
  rw [rest_some (by simp; omega) (latest_rep (c := c) (Nat.le_refl _) (by omega)), alike_rep (Nat.le_refl _) (by omega), mid_self, own_nil, List.nil_append, List.length_append, e] at hr
  omega
end Lr
end Go.Proofs.Ytbmdjmckgcjfcaa
