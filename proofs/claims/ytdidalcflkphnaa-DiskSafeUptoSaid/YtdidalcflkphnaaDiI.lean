/-
  disk: a slot's header is set.
-/
import Derived.Test.YtdidalcflkphnaaDiH
namespace Go.Proofs.Ytdidalcflkphnaa
open Go.RowKit

theorem own_setS {w : World} {B : Nat} {T : TypeId} {s g n cap : Nat} {xs : List Value} (h : w.ownsRow B T s (.slice (some ⟨g, 0, none⟩) n cap) n xs) (i : Nat) (v : Value) :
    (w.setCell ⟨g, i, none⟩ v).ownsRow B T s (.slice (some ⟨g, 0, none⟩) n cap) n (xs.set i v) := by
  refine ⟨by simpa using h.1, .inr ?_⟩
  rcases h.2 with ⟨e, _⟩ | ⟨g', cap', cur, e, hB, hh, h1, h2, h3, h4⟩
  · cases e
  · cases e
    refine ⟨g, cap, _, rfl, hB, heap_setCell_same _ _ i _ _ _ hh, h1, h2, by simpa using h3, ?_⟩
    rw [← h4]
    simp [List.take_set]
theorem kcells_set : ∀ (hs : List SlH) (k : Nat) (x y : SlH), hs[k]? = some x → kcells (hs.set k y) = (((kcells hs).set (k * 3) (SV y.1)).set (k * 3 + 1) (SV y.2.1)).set (k * 3 + 2) (.bool y.2.2)
  | [], k, x, y, h => by simp at h
  | z :: zs, 0, x, y, h => rfl
  | z :: zs, k + 1, x, y, h => by
    have := kcells_set zs k x y (by simpa using h)
    rw [show (k + 1) * 3 = k * 3 + 3 by omega]
    show SV z.1 :: SV z.2.1 :: .bool z.2.2 :: kcells (zs.set k y) = _
    rw [this]
    rfl
theorem set_sameD {α : Type} : ∀ (l : List α) (i : Nat) (a : α), l[i]? = some a → l.set i a = l
  | [], i, a, h => by simp at h
  | b :: l, 0, a, h => by simp only [List.getElem?_cons_zero, Option.some.injEq] at h; subst h; rfl
  | b :: l, i + 1, a, h => by rw [List.set_cons_succ, set_sameD l i a (by simpa using h)]
theorem kcells_read (hs : List SlH) (k : Nat) (x : SlH) (y : HdT) (t : Bool) (h : hs[k]? = some x) : kcells (hs.set k (x.1, y, t)) = ((kcells hs).set (k * 3 + 1) (SV y)).set (k * 3 + 2) (.bool t) := by
  rw [kcells_set hs k x _ h]
  congr 2
  obtain ⟨q, -⟩ := kcells_at hs k x h
  exact set_sameD _ _ _ q
theorem kcells_safe (hs : List SlH) (k : Nat) (x : SlH) (y : HdT) (t : Bool) (h : hs[k]? = some x) : kcells (hs.set k (y, x.2.1, t)) = ((kcells hs).set (k * 3) (SV y)).set (k * 3 + 2) (.bool t) := by
  rw [kcells_set hs k x _ h]
  congr 1
  obtain ⟨-, q, -⟩ := kcells_at hs k x h
  exact set_sameD _ _ _ (by rw [List.getElem?_set_ne (by omega)]; exact q)
theorem apart_put {hs hs' : List SlH} {kk m : Nat} {nh : HdT} (h : ∀ k l u v, hdr hs k = some u → hdr hs l = some v → k ≠ l → (SV u).ownBlock = none ∨ (SV u).ownBlock ≠ (SV v).ownBlock)
    (hlt : ∀ j u b, hdr hs j = some u → (SV u).ownBlock = some b → b < m) (hk : hdr hs' kk = some nh) (ho : ∀ j, j ≠ kk → hdr hs' j = hdr hs j) (hn : ∀ b, (SV nh).ownBlock = some b → m ≤ b) :
    ∀ k l u v, hdr hs' k = some u → hdr hs' l = some v → k ≠ l → (SV u).ownBlock = none ∨ (SV u).ownBlock ≠ (SV v).ownBlock := by
  intro a b u v ha hb hab
  by_cases e1 : a = kk
  · subst e1
    rw [hk] at ha
    injection ha with ha
    subst ha
    rw [ho b (fun e => hab e.symm)] at hb
    cases e : (SV nh).ownBlock with
    | none => exact .inl rfl
    | some q =>
      refine .inr fun e2 => ?_
      have q1 := hn q e
      have q2 := hlt b v q hb e2.symm
      omega
  · rw [ho a e1] at ha
    by_cases e3 : b = kk
    · subst e3
      rw [hk] at hb
      injection hb with hb
      subst hb
      cases e : (SV u).ownBlock with
      | none => exact .inl rfl
      | some q =>
        refine .inr fun e2 => ?_
        have q1 := hn q e2.symm
        have q2 := hlt a u q ha e
        omega
    · rw [ho b e3] at hb
      exact h a b u v ha hb hab
theorem hdr_read (hs : List SlH) (k : Nat) (x : SlH) (y : HdT) (t : Bool) (h : hs[k]? = some x) : hdr (hs.set k (x.1, y, t)) (2 * k + 1) = some y ∧ ∀ j, j ≠ 2 * k + 1 → hdr (hs.set k (x.1, y, t)) j = hdr hs j := by
  have hk : k < hs.length := (List.getElem?_eq_some_iff.1 h).1
  refine ⟨?_, fun j hj => ?_⟩
  · unfold hdr
    rw [show (2 * k + 1) / 2 = k by omega, List.getElem?_set_self hk]
    simp [show (2 * k + 1) % 2 = 1 by omega]
  · unfold hdr
    by_cases e : j / 2 = k
    · rw [e, List.getElem?_set_self hk, h]
      simp [show j % 2 = 0 by omega]
    · rw [List.getElem?_set_ne (fun q => e q.symm)]
theorem hdr_safe (hs : List SlH) (k : Nat) (x : SlH) (y : HdT) (t : Bool) (h : hs[k]? = some x) : hdr (hs.set k (y, x.2.1, t)) (2 * k) = some y ∧ ∀ j, j ≠ 2 * k → hdr (hs.set k (y, x.2.1, t)) j = hdr hs j := by
  have hk : k < hs.length := (List.getElem?_eq_some_iff.1 h).1
  refine ⟨?_, fun j hj => ?_⟩
  · unfold hdr
    rw [show (2 * k) / 2 = k by omega, List.getElem?_set_self hk]
    simp [show (2 * k) % 2 = 0 by omega]
  · unfold hdr
    by_cases e : j / 2 = k
    · rw [e, List.getElem?_set_self hk, h]
      simp [show j % 2 = 1 by omega]
    · rw [List.getElem?_set_ne (fun q => e q.symm)]
theorem SlM.hdr_lt {w : World} {F : Nat → Prop} {sh : HdT} {hs : List SlH} {sl : List Slot} (h : SlM w F sh hs sl) : ∀ j u b, hdr hs j = some u → (SV u).ownBlock = some b → b < w.heap.size ∧ F b := by
  intro j u b hj hb
  unfold hdr at hj
  cases e : hs[j / 2]? with
  | none => rw [e] at hj; cases hj
  | some x =>
    rw [e] at hj
    have hlt : j / 2 < sl.length := by rw [← h.hl]; exact (List.getElem?_eq_some_iff.1 e).1
    obtain ⟨-, q1, q2⟩ := h.each (j / 2) x _ e (List.getElem?_eq_getElem hlt)
    simp only [Option.map_some, Option.some.injEq] at hj
    by_cases p : j % 2 = 0
    · rw [if_pos p] at hj; subst hj; exact ⟨(q1.own.lt b hb).2, q1.inF b hb⟩
    · rw [if_neg p] at hj; subst hj; exact ⟨(q2.own.lt b hb).2, q2.inF b hb⟩
end Go.Proofs.Ytdidalcflkphnaa
