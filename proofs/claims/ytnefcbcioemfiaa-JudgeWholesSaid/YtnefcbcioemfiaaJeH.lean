/-
  The reference of the judge: what its search asks.
-/
import Derived.Test.YtnefcbcioemfiaaJeE
namespace Go.Proofs.Ytnefcbcioemfiaa
open Go Go.RowKit

def LinC (cur : Option (List Nat)) (xs : List ActR) : Prop := ∃ ys rest, (ys ++ rest).Perm xs ∧ Seq cur ys ∧ ∀ r ∈ rest, sureB r = false
theorem linC_none (xs : List ActR) : LinC none xs ↔ Lin xs := Iff.rfl
theorem before_self {a : ActR} (h : stepBad a = false) : beforeB a a = false := by
  unfold stepBad at h
  unfold beforeB
  simp only [Bool.or_eq_false_iff, Bool.and_eq_false_iff, decide_eq_false_iff_not] at h ⊢
  rcases h.2 with h | h
  · exact .inl h
  · exact .inr h
def leftB (a c : ActR) : Bool := !beforeB c a
theorem perm_idxJ (xs : List ActR) {i : Nat} (h : i < xs.length) : xs.Perm (xs[i] :: xs.eraseIdx i) := by
  rw [List.eraseIdx_eq_take_drop_succ]
  conv => lhs; rw [← List.take_append_drop i xs, List.drop_eq_getElem_cons h]
  exact List.perm_middle
theorem linC_step {cur : Option (List Nat)} {xs : List ActR} (hst : ∀ a ∈ xs, stepBad a = false) : LinC cur xs ↔ (∀ a ∈ xs, sureB a = false) ∨ ∃ i, ∃ h : i < xs.length, (∀ b ∈ xs, sureB b = true → beforeB b xs[i] = false) ∧ (xs[i].d = 2 → tellsV cur xs[i] = true) ∧ LinC (nextV cur xs[i]) ((xs.eraseIdx i).filter (leftB xs[i])) := by
  constructor
  · rintro ⟨ys, rest, hp, hs, hr⟩
    cases ys with
    | nil => exact .inl fun a ha => hr a (by simpa using hp.mem_iff.2 ha)
    | cons a ys =>
      obtain ⟨t1, t2, t3⟩ := hs
      have ham : a ∈ xs := hp.mem_iff.1 (by simp)
      obtain ⟨i, hi, e⟩ := List.getElem_of_mem ham
      refine .inr ⟨i, hi, ?_⟩
      rw [e]
      have hp2 : (ys ++ rest).Perm (xs.eraseIdx i) := by
        have h1 := perm_idxJ xs hi
        rw [e] at h1
        exact List.Perm.cons_inv ((by simpa using hp : (a :: (ys ++ rest)).Perm xs).trans h1)
      refine ⟨fun b hb hsb => ?_, t1, ys, rest.filter (leftB a), ?_, t3, fun r hr2 => hr r (List.mem_filter.1 hr2).1⟩
      · rcases List.mem_append.1 (hp.mem_iff.2 hb) with h1 | h1
        · rcases List.mem_cons.1 h1 with rfl | h1
          · exact before_self (hst _ hb)
          · exact t2 b h1
        · rw [hr b h1] at hsb; cases hsb
      · have h3 : ys.filter (leftB a) = ys := by
          rw [List.filter_eq_self]
          intro b hb
          unfold leftB
          rw [t2 b hb]; rfl
        have h4 := hp2.filter (leftB a)
        rwa [List.filter_append, h3] at h4
  · rintro (h | ⟨i, hi, h1, h2, ys, rest, hp, hs, hr⟩)
    · exact ⟨[], xs, List.Perm.refl _, trivial, h⟩
    · have hpe := perm_idxJ xs hi
      have hsplit : ((xs.eraseIdx i).filter (leftB xs[i]) ++ (xs.eraseIdx i).filter (fun c => !leftB xs[i] c)).Perm (xs.eraseIdx i) := List.filter_append_perm _ _
      refine ⟨xs[i] :: ys, rest ++ (xs.eraseIdx i).filter (fun c => !leftB xs[i] c), ?_, ⟨h2, fun b hb => ?_, hs⟩, fun r hr2 => ?_⟩
      · refine List.Perm.trans ?_ hpe.symm
        rw [List.cons_append, ← List.append_assoc]
        exact ((hp.append_right _).trans hsplit).cons _
      · have := (List.mem_filter.1 (hp.mem_iff.1 (List.mem_append_left _ hb))).2
        unfold leftB at this
        simpa using this
      · rcases List.mem_append.1 hr2 with h3 | h3
        · exact hr r h3
        · obtain ⟨h4, h5⟩ := List.mem_filter.1 h3
          have hmem : r ∈ xs := hpe.mem_iff.2 (List.mem_cons_of_mem _ h4)
          cases hsr : sureB r with
          | false => rfl
          | true =>
            have := h1 r hmem hsr
            unfold leftB at h5
            rw [this] at h5
            cases h5
def curL (xs : List ActR) (last : Int) : Option (List Nat) := if last < 0 ∨ (xs.getD last.toNat dAct).d = 3 then none else some (xs.getD last.toNat dAct).val
theorem tellsB_cur (xs : List ActR) (last : Int) (A : ActR) : tellsB xs last A = tellsV (curL xs last) A := by
  unfold tellsB curL
  split <;> rfl
theorem nextV_cur (xs : List ActR) (last : Int) (p : Nat) : nextV (curL xs last) (xs.getD p dAct) = curL xs (nextP xs last (p : Int)) := by
  unfold nextV nextP
  rw [aP_cast]
  by_cases h2 : (xs.getD p dAct).d = 2
  · rw [if_pos h2, if_pos h2]
  · rw [if_neg h2, if_neg h2]
    unfold curL
    by_cases h3 : (xs.getD p dAct).d = 3
    · rw [if_pos h3, if_pos (.inr h3)]
    · rw [if_neg h3, if_neg (by rintro (h | h); omega; exact h3 h)]
      rfl
end Go.Proofs.Ytnefcbcioemfiaa
