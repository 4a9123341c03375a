/- Columns of whatever size that came in. -/
import Derived.Test.YtmlbmiegfeadjaaOa
namespace Go.Proofs.Ytmlbmiegfeadjaa
open Go.ChangeShapes Go.WideShapes Go.Deep
namespace Ob
open Jb Ca Hh Jt Oa

theorem weightsAll_mem {H : Type} {P : Program} {e : TypeId} : ∀ {es : List (DataW H)} {i : Nat} {d : DataW H}, es[i]? = some d → ∀ n ∈ d.weights P e, n ∈ DataW.weightsAll P e es
  | [], i, d, h, n, hn => by simp at h
  | x :: r, 0, d, h, n, hn => by
    simp only [List.getElem?_cons_zero, Option.some.injEq] at h
    subst h
    simp only [DataW.weightsAll, List.mem_append]
    exact .inl hn
  | x :: r, i + 1, d, h, n, hn => by
    simp only [List.getElem?_cons_succ] at h
    simp only [DataW.weightsAll, List.mem_append]
    exact .inr (weightsAll_mem h n hn)
theorem bytes50 : Try.prog.bytesOf 50 = 40 := by kernel_rfl
theorem bytes53 : Try.prog.bytesOf 53 = 56 := by kernel_rfl
theorem fields53 : ∃ fs, Try.prog.underlying 53 = some (.struct fs) ∧ (fs.toList.map (·.type)) = [9, 9, 51] := ⟨_, Try.underlying53, rfl⟩
def Sized {H : Type} (d : DataW H) (t : TypeId) : Prop := ∀ n ∈ d.weights Try.prog t, n ≤ reachBytes
theorem sized_of {H : Type} {ts : List TypeId} {ds : List (DataW H)} {d : DataW H} {t : TypeId} (j : Nat) (hsz : (DataW.weightsEach Try.prog ts ds).all (· ≤ reachBytes) = true) (ht : ts[j]? = some t) (hd : ds[j]? = some d) : Sized d t := fun n hn => by
  simpa using List.all_eq_true.1 hsz _ (DataW.weights_mem_each ht hd n hn)
theorem fits_sized {H : Type} {d : DataW H} (hs : Sized d 38) : Fits d := by
  intro cols spare parts es sp i e1 e2 e3
  have h1 : Sized (H := H) (.agg parts) 53 := fun n hn => hs n (by
    rw [e1]
    simp only [DataW.weights, Try.underlying38, List.mem_cons, List.mem_append]
    exact .inr (.inl (weightsAll_mem e2 _ hn)))
  obtain ⟨fs, f1, f2⟩ := fields53
  have h2 : Sized (H := H) (.slice es sp) 51 := fun n hn => h1 n (by
    simp only [DataW.weights, f1, f2]
    exact DataW.weights_mem_each (j := 2) rfl e3 n hn)
  have := h2 ((es.length + sp.length) * Try.prog.bytesOf 50) (by simp [DataW.weights, Try.underlying51])
  rw [bytes50] at this
  simp only [reachBytes] at this
  omega
theorem reach_cols {H : Type} {d : DataW H} {C : List Kp} (hs : Sized d 38) (h : C = [] ∨ ∃ es sp, d = .slice es sp ∧ C.length = es.length) : C.length * 56 ≤ 140737488355328 := by
  rcases h with rfl | ⟨es, sp, rfl, hl⟩
  · simp
  · have := hs ((es.length + sp.length) * Try.prog.bytesOf 53) (by simp [DataW.weights, Try.underlying38])
    rw [bytes53] at this
    simp only [reachBytes] at this
    omega
end Ob
end Go.Proofs.Ytmlbmiegfeadjaa
