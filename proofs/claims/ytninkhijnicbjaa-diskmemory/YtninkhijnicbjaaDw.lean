/- What is known of the sizes of a slice of slices among the arguments. -/
import Derived.Test.YtninkhijnicbjaaDz
namespace Go.Proofs.Ytninkhijnicbjaa
open Go.ChangeShapes Go.WideShapes Go.ChangeAt Go.RowKit

theorem weights_mem_all {H : Type} {P : Program} {e : TypeId} : ∀ {ds : List (DataW H)} {i : Nat} {d : DataW H}, ds[i]? = some d → ∀ n ∈ d.weights P e, n ∈ DataW.weightsAll P e ds
  | [], i, d, hd, n, hn => by simp at hd
  | d0 :: ds, 0, d, hd, n, hn => by
    simp only [List.getElem?_cons_zero, Option.some.injEq] at hd
    subst hd
    simp only [DataW.weightsAll, List.mem_append]
    exact .inl hn
  | d0 :: ds, i + 1, d, hd, n, hn => by
    simp only [List.getElem?_cons_succ] at hd
    simp only [DataW.weightsAll, List.mem_append]
    exact .inr (weights_mem_all hd n hn)

theorem bytes_u8 : Try.prog.bytesOf 5 = 1 := by kernel_rfl
theorem bytes_row : Try.prog.bytesOf 36 = 24 := by kernel_rfl

/-- Within the reach: so many blocks, and each so long. -/
theorem sized_image {H : Type} {ts : List TypeId} {ds : List (DataW H)} {j : Nat} {d : DataW H} {ls : List (List Nat)} (hsz : (DataW.weightsEach Try.prog ts ds).all (· ≤ reachBytes) = true) (ht : ts[j]? = some 22) (hd : ds[j]? = some d)
    (hz : (d = .nil ∧ ls = []) ∨ ∃ elems spare, d = .slice elems spare ∧ elems.length = ls.length ∧ ∀ i e, elems[i]? = some e → Szd e (bk ls i)) : ls.length * 24 ≤ 140737488355328 ∧ ∀ b ∈ ls, b.length ≤ 140737488355328 := by
  rcases hz with ⟨_, rfl⟩ | ⟨elems, spare, rfl, hl, he⟩
  · exact ⟨by simp, by simp⟩
  · have hall : ∀ n ∈ (DataW.slice elems spare).weights Try.prog 22, n ≤ reachBytes := fun n hn => by
      have := List.all_eq_true.1 hsz n (DataW.weights_mem_each ht hd n hn)
      simpa using this
    simp only [DataW.weights, Try.underlying22] at hall
    refine ⟨?_, fun b hb => ?_⟩
    · have := hall _ (List.mem_cons_self)
      rw [bytes_row] at this
      simp only [reachBytes] at this
      omega
    · obtain ⟨i, hi, rfl⟩ := List.getElem_of_mem hb
      obtain ⟨e, hee⟩ : ∃ e, elems[i]? = some e := ⟨_, List.getElem?_eq_getElem (by omega)⟩
      rw [← bk_at hi]
      rcases he i e hee with ⟨_, h0⟩ | ⟨el, sp, rfl, h1⟩
      · rw [h0]; simp
      · have := hall ((el.length + sp.length) * 1) (List.mem_cons_of_mem _ (List.mem_append.2 (.inl (weights_mem_all hee _ (by simp [DataW.weights, Try.underlying36, bytes_u8])))))
        simp only [reachBytes] at this
        omega
end Go.Proofs.Ytninkhijnicbjaa
