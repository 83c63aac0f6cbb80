/-
  tally: the order of answers that don't contradict each other makes no difference.
-/
import Derived.Test.YtehaijdbmnljnaaTaF
import Derived.StillTailTactics
namespace Go.Proofs.Ytehaijdbmnljnaa
open Go.RowKit

theorem step1_get (N : Nat) (x a : Int) (said : List Int) (i : Nat) (hi : i < said.length) : (step1 N x said a).getD i 0 = if said.getD i 0 = 0 ∧ i < N ∧ (i : Int) = a then x else said.getD i 0 := by
  unfold step1
  split
  · rename_i h
    by_cases e : a.toNat = i
    · have ea : (i : Int) = a := by omega
      rw [e] at h ⊢
      rw [if_pos ⟨h.2.2, by omega, ea⟩]
      simp [List.getD_eq_getElem?_getD, hi]
    · rw [if_neg (fun h2 => e (by omega))]
      simp [List.getD_eq_getElem?_getD, e]
  · rename_i h
    rw [if_neg (fun h2 => h ⟨by omega, by omega, by rw [← h2.2.2]; simpa using h2.1⟩)]
theorem steps_get (N : Nat) (x : Int) (hx : x ≠ 0) (i : Nat) : ∀ (l said : List Int), i < said.length → (steps N x said l).getD i 0 = if said.getD i 0 = 0 ∧ i < N ∧ (i : Int) ∈ l then x else said.getD i 0
  | [], said, _ => by rw [if_neg (fun h => by cases h.2.2)]; rfl
  | a :: l, said, hi => by
    show (steps N x (step1 N x said a) l).getD i 0 = _
    rw [steps_get N x hx i l _ (by rw [step1_length]; exact hi)]
    have h1 := step1_get N x a said i hi
    by_cases hc : said.getD i 0 = 0 ∧ i < N ∧ (i : Int) = a
    · rw [if_pos hc] at h1
      rw [h1, if_neg (fun h => hx h.1), if_pos ⟨hc.1, hc.2.1, List.mem_cons.2 (Or.inl hc.2.2)⟩]
    · rw [if_neg hc] at h1
      rw [h1]
      by_cases hl : said.getD i 0 = 0 ∧ i < N ∧ (i : Int) ∈ l
      · rw [if_pos hl, if_pos ⟨hl.1, hl.2.1, List.mem_cons.2 (Or.inr hl.2.2)⟩]
      · rw [if_neg hl, if_neg (fun h => (List.mem_cons.1 h.2.2).elim (fun e => hc ⟨h.1, h.2.1, e⟩) (fun e => hl ⟨h.1, h.2.1, e⟩))]
theorem mem_getD' {l : List Int} {a : Int} : a ∈ l ↔ ∃ p, p < l.length ∧ l.getD p 0 = a := by
  refine ⟨mem_getD, ?_⟩
  rintro ⟨p, hp, e⟩
  rw [← e, List.getD_eq_getElem?_getD, List.getElem?_eq_getElem hp]
  exact List.getElem_mem hp

/-- what is told behind some of the noes, and some of the yeses. -/
structure Told (N : Nat) (la lb : List Int) (k m : Nat) (sd : List Int) : Prop where
  len : sd.length = 8
  no : ∀ i, i < 8 → i < N → (∃ p, k ≤ p ∧ p < lb.length ∧ lb.getD p 0 = (i : Int)) → sd.getD i 0 = 2
  yes : ∀ i, i < 8 → i < N → ¬ (∃ p, k ≤ p ∧ p < lb.length ∧ lb.getD p 0 = (i : Int)) → (∃ p, m ≤ p ∧ p < la.length ∧ la.getD p 0 = (i : Int)) → sd.getD i 0 = 1
  non : ∀ i, i < 8 → ¬ (i < N ∧ ((∃ p, k ≤ p ∧ p < lb.length ∧ lb.getD p 0 = (i : Int)) ∨ (∃ p, m ≤ p ∧ p < la.length ∧ la.getD p 0 = (i : Int)))) → sd.getD i 0 = 0
theorem told_start (N : Nat) (la lb : List Int) : Told N la lb lb.length la.length zeros :=
  ⟨by simp [zeros], fun i _ _ ⟨p, h1, h2, _⟩ => absurd h2 (by omega), fun i _ _ _ ⟨p, h1, h2, _⟩ => absurd h2 (by omega), fun i _ _ => zeros_getD i⟩
theorem told_no {N : Nat} {la lb : List Int} {k : Nat} {sd : List Int} (h : Told N la lb (k + 1) la.length sd) (hk : k < lb.length) : Told N la lb k la.length (steps N 2 sd [lb.getD k 0, lb.getD k 0]) := by
  have key : ∀ i, i < 8 → (steps N 2 sd [lb.getD k 0, lb.getD k 0]).getD i 0 = if sd.getD i 0 = 0 ∧ i < N ∧ (i : Int) = lb.getD k 0 then 2 else sd.getD i 0 := by
    intro i hi
    rw [steps_get N 2 (by omega) i _ sd (by rw [h.len]; exact hi)]
    simp only [List.mem_cons, List.not_mem_nil, or_false, or_self]
  refine ⟨by rw [steps_length, h.len], fun i hi hN ⟨p, h1, h2, h3⟩ => ?_, fun i _ _ _ ⟨p, h1, h2, _⟩ => absurd h2 (by omega), fun i hi hn => ?_⟩
  · rw [key i hi]
    by_cases e : ∃ p, k + 1 ≤ p ∧ p < lb.length ∧ lb.getD p 0 = (i : Int)
    · rw [h.no i hi hN e]; simp
    · have hp : p = k := by
        by_cases e2 : p = k
        · exact e2
        · exact absurd ⟨p, by omega, h2, h3⟩ e
      subst hp
      rw [if_pos ⟨h.non i hi (fun hc => hc.2.elim e (fun ⟨p, h1, h2, _⟩ => absurd h2 (by omega))), hN, h3.symm⟩]
  · rw [key i hi, if_neg]
    · exact h.non i hi (fun hc => hn ⟨hc.1, hc.2.elim (fun ⟨p, h1, h2, h3⟩ => Or.inl ⟨p, by omega, h2, h3⟩) (fun ⟨p, h1, h2, h3⟩ => Or.inr ⟨p, h1, h2, h3⟩)⟩)
    · intro hc
      exact hn ⟨hc.2.1, Or.inl ⟨k, Nat.le_refl _, hk, hc.2.2.symm⟩⟩
theorem told_yes {N : Nat} {la lb : List Int} {m : Nat} {sd : List Int} (h : Told N la lb 0 (m + 1) sd) (hm : m < la.length) : Told N la lb 0 m (steps N 1 sd [la.getD m 0]) := by
  have key : ∀ i, i < 8 → (steps N 1 sd [la.getD m 0]).getD i 0 = if sd.getD i 0 = 0 ∧ i < N ∧ (i : Int) = la.getD m 0 then 1 else sd.getD i 0 := by
    intro i hi
    rw [steps_get N 1 (by omega) i _ sd (by rw [h.len]; exact hi)]
    simp only [List.mem_cons, List.not_mem_nil, or_false]
  refine ⟨by rw [steps_length, h.len], fun i hi hN hp => ?_, fun i hi hN hno ⟨p, h1, h2, h3⟩ => ?_, fun i hi hn => ?_⟩
  · rw [key i hi, h.no i hi hN hp]; simp
  · rw [key i hi]
    by_cases e : ∃ p, m + 1 ≤ p ∧ p < la.length ∧ la.getD p 0 = (i : Int)
    · rw [h.yes i hi hN hno e]; simp
    · have hp : p = m := by
        by_cases e2 : p = m
        · exact e2
        · exact absurd ⟨p, by omega, h2, h3⟩ e
      subst hp
      rw [if_pos ⟨h.non i hi (fun hc => hc.2.elim hno e), hN, h3.symm⟩]
  · rw [key i hi, if_neg]
    · exact h.non i hi (fun hc => hn ⟨hc.1, hc.2.elim (fun ⟨p, h1, h2, h3⟩ => Or.inl ⟨p, h1, h2, h3⟩) (fun ⟨p, h1, h2, h3⟩ => Or.inr ⟨p, by omega, h2, h3⟩)⟩)
    · intro hc
      exact hn ⟨hc.2.1, Or.inr ⟨m, Nat.le_refl _, hm, hc.2.2.symm⟩⟩
theorem told_same {N : Nat} {la lb : List Int} {sd : List Int} (h : Told N la lb 0 0 sd) (hd : ∀ i j, i < la.length → j < lb.length → la.getD i 0 ≠ lb.getD j 0) : steps N 2 (steps N 1 zeros la) lb = sd := by
  have hz : zeros.length = 8 := by simp [zeros]
  apply ext_getDi (by rw [steps_length, steps_length, h.len, hz])
  intro i hi
  rw [steps_length, steps_length, hz] at hi
  have k1 : (steps N 1 zeros la).getD i 0 = if i < N ∧ (i : Int) ∈ la then 1 else 0 := by
    rw [steps_get N 1 (by omega) i la _ (by rw [hz]; exact hi), zeros_getD]; simp
  rw [steps_get N 2 (by omega) i lb _ (by rw [steps_length, hz]; exact hi)]
  by_cases hN : i < N
  · by_cases hb : (i : Int) ∈ lb
    · have ha : ¬ (i : Int) ∈ la := by
        intro ha
        obtain ⟨p, hp, e1⟩ := mem_getD ha
        obtain ⟨q, hq, e2⟩ := mem_getD hb
        exact hd p q hp hq (by rw [e1, e2])
      rw [if_neg (fun hc => ha hc.2)] at k1
      rw [k1, if_pos ⟨rfl, hN, hb⟩]
      obtain ⟨q, hq, e2⟩ := mem_getD hb
      exact (h.no i hi hN ⟨q, Nat.zero_le _, hq, e2⟩).symm
    · have hb' : ¬ ∃ p, 0 ≤ p ∧ p < lb.length ∧ lb.getD p 0 = (i : Int) := fun ⟨p, _, h2, h3⟩ => hb (mem_getD'.2 ⟨p, h2, h3⟩)
      rw [if_neg (fun hc => hb hc.2.2), k1]
      by_cases ha : (i : Int) ∈ la
      · rw [if_pos ⟨hN, ha⟩]
        obtain ⟨p, hp, e1⟩ := mem_getD ha
        exact (h.yes i hi hN hb' ⟨p, Nat.zero_le _, hp, e1⟩).symm
      · have ha' : ¬ ∃ p, 0 ≤ p ∧ p < la.length ∧ la.getD p 0 = (i : Int) := fun ⟨p, _, h2, h3⟩ => ha (mem_getD'.2 ⟨p, h2, h3⟩)
        rw [if_neg (fun hc => ha hc.2)]
        exact (h.non i hi (fun hc => hc.2.elim hb' ha')).symm
  · rw [if_neg (fun hc => hN hc.2.1), k1, if_neg (fun hc => hN hc.1)]
    exact (h.non i hi (fun hc => hN hc.1)).symm
end Go.Proofs.Ytehaijdbmnljnaa
