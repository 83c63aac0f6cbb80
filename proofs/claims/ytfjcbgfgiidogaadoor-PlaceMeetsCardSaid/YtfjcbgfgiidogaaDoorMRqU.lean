/-
  rilllaw04: RqMore.
-/
import Derived.Test.YtfjcbgfgiidogaaDoorMRqT
namespace Go.Proofs.YtfjcbgfgiidogaaDoor
open Go.RowKit

theorem enoughB_parts {k : Int} {es : List Int} (h : enoughB k es = true) : ∃ m : Nat, k = (m : Int) ∧ 1 ≤ m ∧ m ≤ 32 ∧ es.length ≤ 128 ∧ es.all okE = true ∧ enoughP m es := by
  have h0 := h
  unfold enoughB at h
  simp only [Bool.and_eq_true, decide_eq_true_iff] at h
  obtain ⟨h1, h2, h3, -⟩ := h
  obtain ⟨m, rfl, -, k1, k2⟩ := okK_nat h1
  exact ⟨m, rfl, k1, k2, h2, h3, (enough_iff k1 k2 h2 h3).1 h0⟩
theorem enoughP_iff {k : Nat} {es : List Int} : enoughP k es ↔ ∀ y : Nat → Nat, (∀ j, y j < 256) → (∀ j, cL k ≤ j → y j = 0) → (∀ a ∈ fixedL k ++ symsL k es, dot y a (cL k) = 0) → ∀ j, j < cL k → y j = 0 := rank_full (all_rws (all_app (fixed_all k) (syms_rws k es)))
theorem enoughP_sub {k : Nat} {es fs : List Int} (h : enoughP k es) (hs : ∀ e ∈ es, e ∈ fs) : enoughP k fs := by
  rw [enoughP_iff] at h ⊢
  refine fun y h1 h2 h3 => h y h1 h2 fun a ha => h3 a ?_
  rcases List.mem_append.1 ha with h4 | h4
  · exact List.mem_append.2 (.inl h4)
  · obtain ⟨e, he, rfl⟩ := List.mem_map.1 h4
    exact List.mem_append.2 (.inr (List.mem_map.2 ⟨e, hs e he, rfl⟩))
theorem enough_more {k : Int} {es more : List Int} (h : enoughB k es = true) (hm : ∀ e ∈ more, okE e = true) (hl : more.length + es.length ≤ 128) : enoughB k (more ++ es) = true := by
  obtain ⟨m, rfl, k1, k2, h2, h3, h4⟩ := enoughB_parts h
  refine (enough_iff k1 k2 (by rw [List.length_append]; exact hl) (List.all_eq_true.2 fun e he => ?_)).2 (enoughP_sub h4 fun e he => List.mem_append.2 (.inr he))
  rcases List.mem_append.1 he with h5 | h5
  · exact hm e h5
  · exact List.all_eq_true.1 h3 e h5
def fstB (es : List Int) (i : Nat) : Nat → Bool
  | 0 => true
  | j + 1 => fstB es i j && (es.getD j 0 != es.getD i 0)
def ddL (es : List Int) : Nat → List Int
  | 0 => []
  | i + 1 => if fstB es i i = true then ddL es i ++ [es.getD i 0] else ddL es i
theorem fstB_false {es : List Int} {i : Nat} : ∀ {j : Nat}, fstB es i j = false → ∃ q, q < j ∧ es.getD q 0 = es.getD i 0
  | 0, h => by cases h
  | j + 1, h => by
    simp only [fstB, Bool.and_eq_false_iff] at h
    rcases h with h | h
    · obtain ⟨q, h1, h2⟩ := fstB_false h
      exact ⟨q, by omega, h2⟩
    · exact ⟨j, by omega, by simpa using h⟩
theorem ddL_mem (es : List Int) : ∀ i j, j < i → es.getD j 0 ∈ ddL es i
  | 0, j, h => absurd h (Nat.not_lt_zero _)
  | i + 1, j, h => by
    simp only [ddL]
    by_cases hf : fstB es i i = true
    · rw [if_pos hf]
      by_cases e : j = i
      · rw [e]; exact List.mem_append.2 (.inr (by simp))
      · exact List.mem_append.2 (.inl (ddL_mem es i j (by omega)))
    · rw [if_neg hf]
      by_cases e : j = i
      · obtain ⟨q, h1, h2⟩ := fstB_false (show fstB es i i = false by simpa using hf)
        rw [e, ← h2]; exact ddL_mem es i q h1
      · exact ddL_mem es i j (by omega)
theorem ddL_len (es : List Int) : ∀ i, (ddL es i).length ≤ i
  | 0 => Nat.le_refl _
  | i + 1 => by
    have := ddL_len es i
    simp only [ddL]
    split
    · rw [List.length_append]; simp; omega
    · omega
theorem enough_count {k : Int} {es : List Int} (h : enoughB k es = true) : k ≤ (((ddL es es.length).length : Nat) : Int) := by
  obtain ⟨m, rfl, k1, k2, h2, h3, h4⟩ := enoughB_parts h
  have h5 : enoughP m (ddL es es.length) := enoughP_sub h4 fun e he => by
    obtain ⟨j, hj, rfl⟩ := List.mem_iff_getElem.1 he
    have := ddL_mem es es.length j hj
    rwa [List.getD_eq_getElem?_getD, List.getElem?_eq_getElem hj] at this
  by_cases hlt : (ddL es es.length).length < m
  · exact absurd h5 (not_enough k1 k2 hlt)
  · omega

end Go.Proofs.YtfjcbgfgiidogaaDoor
