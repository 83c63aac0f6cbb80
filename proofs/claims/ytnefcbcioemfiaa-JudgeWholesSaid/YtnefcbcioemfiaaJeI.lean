/-
  The reference of the judge: what its search asks, over places.
-/
import Derived.Test.YtnefcbcioemfiaaJeH
namespace Go.Proofs.Ytnefcbcioemfiaa
open Go Go.RowKit

def pAct (xs : List ActR) (P : List Nat) (m : Nat) : ActR := xs.getD (P.getD m 0) dAct
def actsOf (xs : List ActR) (P : List Nat) : List ActR := P.map fun p => xs.getD p dAct
/-- what is left of the places when the one at m is done. -/
def restTo (xs : List ActR) (P : List Nat) (m j : Nat) : List Nat := ((List.range j).filter fun n => decide (n ≠ m) && leftB (pAct xs P m) (pAct xs P n)).map fun n => P.getD n 0
def okM (xs : List ActR) (P : List Nat) (last : Int) (m : Nat) : Prop :=
  (∀ n, n < P.length → sureB (pAct xs P n) = true → beforeB (pAct xs P n) (pAct xs P m) = false) ∧ ((pAct xs P m).d = 2 → tellsB xs last (pAct xs P m) = true) ∧ LinC (curL xs (nextP xs last ((P.getD m 0 : Nat) : Int))) (actsOf xs (restTo xs P m P.length))
theorem LinC.perm {cur : Option (List Nat)} {xs ys : List ActR} (h : LinC cur xs) (hp : xs.Perm ys) : LinC cur ys := by
  obtain ⟨a, b, h1, h2, h3⟩ := h
  exact ⟨a, b, h1.trans hp, h2, h3⟩
theorem actsOf_getD (xs : List ActR) (P : List Nat) {m : Nat} (hm : m < P.length) : (actsOf xs P)[m]'(by unfold actsOf; rw [List.length_map]; exact hm) = pAct xs P m := by
  unfold actsOf pAct
  rw [List.getElem_map, List.getD_eq_getElem?_getD (l := P), List.getElem?_eq_getElem hm]
  rfl
theorem actsOf_range (xs : List ActR) (P : List Nat) : actsOf xs P = (List.range P.length).map (pAct xs P) := by
  unfold actsOf pAct
  conv => lhs; rw [← map_getD_range 0 P]
  rw [List.map_map]
  rfl
theorem restTo_succ (xs : List ActR) (P : List Nat) (m j : Nat) : restTo xs P m (j + 1) = restTo xs P m j ++ (if decide (j ≠ m) && leftB (pAct xs P m) (pAct xs P j) then [P.getD j 0] else []) := by
  unfold restTo
  rw [List.range_succ, List.filter_append, List.map_append]
  congr 1
  have hf : ∀ (p : Nat → Bool), List.filter p [j] = if p j then [j] else [] := fun p => by rw [List.filter_cons, List.filter_nil]
  rw [hf]
  show List.map _ (if (decide (j ≠ m) && leftB (pAct xs P m) (pAct xs P j)) = true then [j] else []) = _
  split <;> rfl
theorem restTo_lt (xs : List ActR) (P : List Nat) {m : Nat} (hm : m < P.length) : (restTo xs P m P.length).length < P.length := by
  unfold restTo
  rw [List.length_map]
  have h1 : ((List.range P.length).filter fun n => decide (n ≠ m) && leftB (pAct xs P m) (pAct xs P n)).length ≤ ((List.range P.length).filter fun n => decide (n ≠ m)).length := by
    rw [← List.countP_eq_length_filter, ← List.countP_eq_length_filter]
    exact List.countP_mono_left fun x _ h => by rw [Bool.and_eq_true] at h; exact h.1
  have h2 : ((List.range P.length).filter fun n => decide (n ≠ m)).length < (List.range P.length).length := by
    rw [List.length_filter_lt_length_iff_exists]
    exact ⟨m, by rw [List.mem_range]; exact hm, by simp⟩
  rw [List.length_range] at h2
  omega
theorem restTo_le (xs : List ActR) (P : List Nat) (m j : Nat) : (restTo xs P m j).length ≤ j := by
  unfold restTo
  rw [List.length_map]
  have := List.length_filter_le (fun n => decide (n ≠ m) && leftB (pAct xs P m) (pAct xs P n)) (List.range j)
  rwa [List.length_range] at this
theorem restTo_mem {xs : List ActR} {P : List Nat} {m j p : Nat} (hj : j ≤ P.length) (h : p ∈ restTo xs P m j) : p ∈ P := by
  obtain ⟨n, hn, rfl⟩ := List.mem_map.1 h
  have h1 := (List.mem_filter.1 hn).1
  rw [List.mem_range] at h1
  rw [List.getD_eq_getElem?_getD, List.getElem?_eq_getElem (by omega)]
  exact List.getElem_mem _
theorem rest_perm (xs : List ActR) (P : List Nat) {m : Nat} (hm : m < P.length) : (actsOf xs (restTo xs P m P.length)).Perm (((actsOf xs P).eraseIdx m).filter (leftB (pAct xs P m))) := by
  have hl : m < (actsOf xs P).length := by unfold actsOf; rw [List.length_map]; exact hm
  have e1 : actsOf xs (restTo xs P m P.length) = (((List.range P.length).filter fun n => decide (n ≠ m)).map (pAct xs P)).filter (leftB (pAct xs P m)) := by
    unfold actsOf restTo
    rw [List.map_map, List.filter_map, List.filter_filter]
    congr 1
    congr 1
    funext n
    simp [Bool.and_comm]
  rw [e1]
  refine List.Perm.filter _ ?_
  have h1 : (List.range P.length).Perm (m :: (List.range P.length).filter fun n => decide (n ≠ m)) := by
    have h2 := List.perm_cons_erase (show m ∈ List.range P.length from List.mem_range.2 hm)
    rw [List.Nodup.erase_eq_filter List.nodup_range] at h2
    refine h2.trans ?_
    rw [show ((List.range P.length).filter fun x => x != m) = (List.range P.length).filter fun n => decide (n ≠ m) from List.filter_congr fun x _ => by by_cases e : x = m <;> simp [bne, e]]
  have h3 := h1.map (pAct xs P)
  rw [← actsOf_range, List.map_cons] at h3
  have h4 := perm_idxJ (actsOf xs P) hl
  rw [actsOf_getD xs P hm] at h4
  exact List.Perm.cons_inv (h3.symm.trans h4)
theorem more_iff {xs : List ActR} {P : List Nat} {last : Int} (hst : ∀ a ∈ actsOf xs P, stepBad a = false) : LinC (curL xs last) (actsOf xs P) ↔ (∀ m, m < P.length → sureB (pAct xs P m) = false) ∨ ∃ m, m < P.length ∧ okM xs P last m := by
  have hlen : (actsOf xs P).length = P.length := by unfold actsOf; rw [List.length_map]
  have hmem : ∀ a, a ∈ actsOf xs P ↔ ∃ m, m < P.length ∧ pAct xs P m = a := fun a => by
    rw [actsOf_range, List.mem_map]
    simp only [List.mem_range]
  rw [linC_step hst]
  refine or_congr ⟨fun h m hm => h _ ((hmem _).2 ⟨m, hm, rfl⟩), fun h a ha => by obtain ⟨m, hm, rfl⟩ := (hmem a).1 ha; exact h m hm⟩ ?_
  have one : ∀ m, m < P.length → ((∃ h : m < (actsOf xs P).length, (∀ b ∈ actsOf xs P, sureB b = true → beforeB b (actsOf xs P)[m] = false) ∧ ((actsOf xs P)[m].d = 2 → tellsV (curL xs last) (actsOf xs P)[m] = true) ∧ LinC (nextV (curL xs last) (actsOf xs P)[m]) (((actsOf xs P).eraseIdx m).filter (leftB (actsOf xs P)[m]))) ↔ okM xs P last m) := fun m hm => by
    have e := actsOf_getD xs P hm
    unfold okM
    rw [← nextV_cur]
    constructor
    · rintro ⟨h, h1, h2, h3⟩
      rw [e] at h1 h2 h3
      exact ⟨fun n hn hs => h1 _ ((hmem _).2 ⟨n, hn, rfl⟩) hs, fun hd => by rw [tellsB_cur]; exact h2 hd, h3.perm (rest_perm xs P hm).symm⟩
    · rintro ⟨h1, h2, h3⟩
      refine ⟨by omega, ?_⟩
      rw [e]
      exact ⟨fun b hb hs => by obtain ⟨n, hn, rfl⟩ := (hmem b).1 hb; exact h1 n hn hs, fun hd => by rw [← tellsB_cur]; exact h2 hd, h3.perm (rest_perm xs P hm)⟩
  constructor
  · rintro ⟨m, h, r⟩
    have hm : m < P.length := by omega
    exact ⟨m, hm, (one m hm).1 ⟨h, r⟩⟩
  · rintro ⟨m, hm, h⟩
    exact ⟨m, (one m hm).2 h⟩
end Go.Proofs.Ytnefcbcioemfiaa
