/-
  Histories changed: an act left out, made longer, moved on, told in another order, parted by keys. Nothing of a program in sight.
-/
import Derived.Test.YtnefcbcioemfiaaJdS
namespace Go.Proofs.Ytnefcbcioemfiaa
open Go

theorem mem_keyList {xs : List ActR} {k : ByteArray} : k ∈ keyList xs ↔ ∃ a ∈ xs, keyedB a = true ∧ a.key = k := by
  unfold keyList
  rw [List.mem_map]
  constructor
  · rintro ⟨a, ha, rfl⟩
    obtain ⟨h1, h2⟩ := List.mem_filter.1 ha
    exact ⟨a, h1, h2, rfl⟩
  · rintro ⟨a, h1, h2, rfl⟩
    exact ⟨a, List.mem_filter.2 ⟨h1, h2⟩, rfl⟩
theorem counts_keyedU {A : ActR} (h : countsB A = true) : keyedB A = true := by
  simp only [countsB, Bool.and_eq_true] at h
  exact h.1
theorem row_none {xs : List ActR} {k : ByteArray} (h : ¬ k ∈ keyList xs) : rowOf xs k = [] := by
  apply List.filter_eq_nil_iff.2
  intro a ha hc
  simp only [Bool.and_eq_true, decide_eq_true_eq] at hc
  exact h (mem_keyList.2 ⟨a, ha, counts_keyedU hc.2, hc.1⟩)
theorem check_cases (xs : List ActR) : (xs.any stepBad = true ∧ checkR xs = 180) ∨ (xs.any stepBad = false ∧ (∃ k, 12 < (rowOf xs k).length) ∧ checkR xs = 201) ∨ (xs.any stepBad = false ∧ (∀ k, (rowOf xs k).length ≤ 12) ∧ checkR xs = 0) := by
  unfold checkR
  cases h1 : xs.any stepBad with
  | true => exact .inl ⟨rfl, rfl⟩
  | false =>
    simp only [Bool.false_eq_true, if_false]
    by_cases h2 : (keyList xs).any (fun k => decide (12 < (placesOf xs k).length)) = true
    · right; left
      rw [if_pos h2]
      obtain ⟨k, _, hk⟩ := List.any_eq_true.1 h2
      exact ⟨by first | rfl | trivial, ⟨k, by rw [← places_row_len]; simpa using hk⟩, rfl⟩
    · right; right
      rw [if_neg h2]
      refine ⟨by first | rfl | trivial, fun k => ?_, rfl⟩
      by_cases hk : k ∈ keyList xs
      · rw [Bool.not_eq_true, List.any_eq_false] at h2
        have := h2 k hk
        rw [← places_row_len]
        simpa using this
      · rw [row_none hk]; simp
theorem check_zero {xs : List ActR} : checkR xs = 0 ↔ (∀ a ∈ xs, stepBad a = false) ∧ ∀ k, (rowOf xs k).length ≤ 12 := by
  have e : xs.any stepBad = false ↔ ∀ a ∈ xs, stepBad a = false := by
    rw [List.any_eq_false]
    exact forall_congr' fun a => imp_congr_right fun _ => by simp
  rw [← e]
  rcases check_cases xs with ⟨h1, h2⟩ | ⟨h1, ⟨k, hk⟩, h2⟩ | ⟨h1, h3, h2⟩
  · rw [h2, h1]; simp
  · rw [h2]
    constructor
    · intro h; omega
    · rintro ⟨_, h⟩; have := h k; omega
  · exact ⟨fun _ => ⟨h1, h3⟩, fun _ => h2⟩
theorem check_same {xs ys : List ActR} (h1 : xs.any stepBad = ys.any stepBad) (h2 : ∀ k, (rowOf xs k).length = (rowOf ys k).length) : checkR xs = checkR ys := by
  rcases check_cases xs with ⟨a1, a2⟩ | ⟨a1, ⟨k, hk⟩, a2⟩ | ⟨a1, a3, a2⟩ <;> rcases check_cases ys with ⟨b1, b2⟩ | ⟨b1, ⟨k', hk'⟩, b2⟩ | ⟨b1, b3, b2⟩
  · rw [a2, b2]
  · rw [h1, b1] at a1; cases a1
  · rw [h1, b1] at a1; cases a1
  · rw [h1, b1] at a1; cases a1
  · rw [a2, b2]
  · have := b3 k; rw [← h2] at this; omega
  · rw [h1, b1] at a1; cases a1
  · have := a3 k'; rw [h2] at this; omega
  · rw [a2, b2]
theorem row_split (l1 : List ActR) (a : ActR) (l2 : List ActR) (k : ByteArray) : rowOf (l1 ++ a :: l2) k = rowOf l1 k ++ (if decide (a.key = k) && countsB a then a :: rowOf l2 k else rowOf l2 k) := by
  unfold rowOf
  rw [List.filter_append, List.filter_cons]
/-- without a get. -/
theorem whole_less {l1 l2 : List ActR} {A : ActR} (hd : A.d = 2) (h : wholeR (l1 ++ A :: l2) = true) : wholeR (l1 ++ l2) = true := by
  rw [whole_iff] at h ⊢
  obtain ⟨h1, h2⟩ := h
  rw [check_zero] at h1 ⊢
  have hm : ∀ a, a ∈ l1 ++ l2 → a ∈ l1 ++ A :: l2 := fun a ha => by
    rcases List.mem_append.1 ha with ha | ha
    · exact List.mem_append_left _ ha
    · exact List.mem_append_right _ (List.mem_cons_of_mem _ ha)
  have hr : ∀ k, rowOf (l1 ++ l2) k = rowOf l1 k ++ rowOf l2 k := fun k => by unfold rowOf; rw [List.filter_append]
  refine ⟨⟨fun a ha => h1.1 a (hm a ha), fun k => ?_⟩, fun k hk => ?_⟩
  · have := h1.2 k
    rw [row_split] at this
    rw [hr]
    split at this <;> simp at this ⊢ <;> omega
  · obtain ⟨a, ha, hk1, hk2⟩ := mem_keyList.1 hk
    have := h2 k (mem_keyList.2 ⟨a, hm a ha, hk1, hk2⟩)
    rw [row_split] at this
    rw [hr]
    split at this
    · exact this.less hd
    · exact this
/-- with an act's time made longer. -/
theorem whole_wide {l1 l2 : List ActR} {A A' : ActR} (w : Wide A A') (hk : A'.key = A.key) (hc : countsB A' = countsB A) (hkd : keyedB A' = keyedB A) (hs : stepBad A' = false) (h : wholeR (l1 ++ A :: l2) = true) : wholeR (l1 ++ A' :: l2) = true := by
  rw [whole_iff] at h ⊢
  obtain ⟨h1, h2⟩ := h
  rw [check_zero] at h1 ⊢
  refine ⟨⟨fun a ha => ?_, fun k => ?_⟩, fun k hkk => ?_⟩
  · rcases List.mem_append.1 ha with ha | ha
    · exact h1.1 a (List.mem_append_left _ ha)
    · rcases List.mem_cons.1 ha with rfl | ha
      · exact hs
      · exact h1.1 a (List.mem_append_right _ (List.mem_cons_of_mem _ ha))
  · have := h1.2 k
    rw [row_split] at this ⊢
    rw [hk, hc]
    split at this
    · rename_i h3; rw [if_pos h3]; simpa using this
    · rename_i h3; rw [if_neg h3]; simpa using this
  · have hkx : k ∈ keyList (l1 ++ A :: l2) := by
      obtain ⟨a, ha, hk1, hk2⟩ := mem_keyList.1 hkk
      rcases List.mem_append.1 ha with ha | ha
      · exact mem_keyList.2 ⟨a, List.mem_append_left _ ha, hk1, hk2⟩
      · rcases List.mem_cons.1 ha with rfl | ha
        · exact mem_keyList.2 ⟨A, by simp, by rw [← hkd]; exact hk1, by rw [← hk]; exact hk2⟩
        · exact mem_keyList.2 ⟨a, List.mem_append_right _ (List.mem_cons_of_mem _ ha), hk1, hk2⟩
    have := h2 k hkx
    rw [row_split] at this ⊢
    rw [hk, hc]
    split at this
    · rename_i h3; rw [if_pos h3]; exact this.wide w
    · rename_i h3; rw [if_neg h3]; exact this
/-! told in another order; each act changed -/
theorem row_perm {xs ys : List ActR} (h : xs.Perm ys) (k : ByteArray) : (rowOf xs k).Perm (rowOf ys k) := h.filter _
theorem row_map {g : ActR → ActR} (h1 : ∀ a, (g a).key = a.key) (h2 : ∀ a, countsB (g a) = countsB a) (xs : List ActR) (k : ByteArray) : rowOf (xs.map g) k = (rowOf xs k).map g := by
  unfold rowOf
  rw [List.filter_map]
  congr 2
  funext a
  simp only [Function.comp, h1, h2]
theorem keys_perm {xs ys : List ActR} (h : xs.Perm ys) (k : ByteArray) : k ∈ keyList xs ↔ k ∈ keyList ys := by
  rw [mem_keyList, mem_keyList]
  exact ⟨fun ⟨a, ha, r⟩ => ⟨a, h.mem_iff.1 ha, r⟩, fun ⟨a, ha, r⟩ => ⟨a, h.mem_iff.2 ha, r⟩⟩
theorem keys_map {g : ActR → ActR} (h1 : ∀ a, (g a).key = a.key) (h2 : ∀ a, keyedB (g a) = keyedB a) (xs : List ActR) (k : ByteArray) : k ∈ keyList (xs.map g) ↔ k ∈ keyList xs := by
  rw [mem_keyList, mem_keyList]
  constructor
  · rintro ⟨_, ha, r1, r2⟩
    obtain ⟨a, ha2, rfl⟩ := List.mem_map.1 ha
    exact ⟨a, ha2, by rw [← h2]; exact r1, by rw [← h1]; exact r2⟩
  · rintro ⟨a, ha, r1, r2⟩
    exact ⟨g a, List.mem_map.2 ⟨a, ha, rfl⟩, by rw [h2]; exact r1, by rw [h1]; exact r2⟩
theorem whole_same {xs ys : List ActR} (h1 : xs.any stepBad = ys.any stepBad) (h2 : ∀ k, (rowOf xs k).length = (rowOf ys k).length) (h3 : ∀ k, k ∈ keyList xs ↔ k ∈ keyList ys) (h4 : ∀ k, Lin (rowOf xs k) ↔ Lin (rowOf ys k)) : wholeR xs = wholeR ys := by
  rw [Bool.eq_iff_iff, whole_iff, whole_iff, check_same h1 h2]
  exact and_congr_right fun _ => ⟨fun h k hk => (h4 k).1 (h k ((h3 k).2 hk)), fun h k hk => (h4 k).2 (h k ((h3 k).1 hk))⟩
def eraseA (a : ActR) : ActR := { a with cl := 0 }
def shiftG (L : Int) (a : ActR) : ActR := { a with cl := 0, st := a.st + L, en := if 0 ≤ a.en then a.en + L else a.en }
def shiftA (L : Int) (i : Nat) (a : ActR) : ActR := { a with cl := i, st := a.st + L, en := if 0 ≤ a.en then a.en + L else a.en }
theorem keep_erase : Keep eraseA := ⟨fun _ => rfl, fun _ => rfl, fun _ => rfl, fun _ => rfl, fun _ => rfl, fun _ _ => rfl⟩
theorem sure_shift {L : Int} (hL : 0 ≤ L) (a : ActR) : sureB (shiftG L a) = sureB a := by
  unfold sureB shiftG
  simp only
  by_cases h : 0 ≤ a.en
  · rw [if_pos h, decide_eq_true h, decide_eq_true (show 0 ≤ a.en + L by omega)]
  · rw [if_neg h]
theorem keep_shift {L : Int} (hL : 0 ≤ L) : Keep (shiftG L) := ⟨fun _ => rfl, fun _ => rfl, fun _ => rfl, fun _ => rfl, sure_shift hL, fun a b => by
  unfold beforeB shiftG
  simp only
  by_cases h : 0 ≤ a.en
  · rw [if_pos h, decide_eq_true h, decide_eq_true (show 0 ≤ a.en + L by omega)]
    congr 1
    rw [decide_eq_decide]
    omega
  · rw [if_neg h, decide_eq_false h]
    rfl⟩
theorem counts_shift {L : Int} (hL : 0 ≤ L) (a : ActR) : countsB (shiftG L a) = countsB a := by
  unfold countsB
  rw [sure_shift hL]
  rfl
theorem step_shift {L : Int} (hL : 0 ≤ L) {a : ActR} (ha : 0 ≤ a.st) : stepBad (shiftG L a) = stepBad a := by
  unfold stepBad shiftG
  simp only
  rw [decide_eq_false (show ¬ a.st + L < 0 by omega), decide_eq_false (show ¬ a.st < 0 by omega)]
  by_cases h : 0 ≤ a.en
  · rw [if_pos h, decide_eq_true h, decide_eq_true (show 0 ≤ a.en + L by omega)]
    congr 2
    rw [decide_eq_decide]
    omega
  · rw [if_neg h, decide_eq_false h]
    rfl
theorem any_map_congr {α β : Type} (f : α → β) (p : β → Bool) (q : α → Bool) : ∀ (l : List α), (∀ a ∈ l, p (f a) = q a) → (l.map f).any p = l.any q
  | [], _ => rfl
  | a :: l, h => by
    rw [List.map_cons, List.any_cons, List.any_cons, h a (by simp), any_map_congr f p q l (fun b hb => h b (by simp [hb]))]
theorem any_perm {α : Type} {p : α → Bool} {l1 l2 : List α} (h : l1.Perm l2) : l1.any p = l2.any p := by
  rw [Bool.eq_iff_iff, List.any_eq_true, List.any_eq_true]
  exact ⟨fun ⟨a, ha, r⟩ => ⟨a, h.mem_iff.1 ha, r⟩, fun ⟨a, ha, r⟩ => ⟨a, h.mem_iff.2 ha, r⟩⟩
/-- in whatever order, by whichever clients, from whichever moment on. -/
theorem swap_same {xs ys zs : List ActR} {L : Int} (hL : 0 ≤ L) (hp : ys.Perm xs) (hs : ∀ a ∈ ys, 0 ≤ a.st) (hz : zs.map eraseA = ys.map (shiftG L)) : checkR xs = checkR zs ∧ wholeR xs = wholeR zs := by
  have h1 : xs.any stepBad = zs.any stepBad := by
    have e1 : (zs.map eraseA).any stepBad = zs.any stepBad := any_map_congr _ _ _ _ fun a _ => rfl
    have e2 : (ys.map (shiftG L)).any stepBad = ys.any stepBad := any_map_congr _ _ _ _ fun a ha => step_shift hL (hs a ha)
    rw [← e1, hz, e2]
    exact any_perm hp.symm
  have hrow : ∀ k, (rowOf zs k).map eraseA = (rowOf ys k).map (shiftG L) := fun k => by
    rw [← row_map (g := eraseA) (fun _ => rfl) (fun _ => rfl), hz, row_map (g := shiftG L) (fun _ => rfl) (counts_shift hL)]
  have h2 : ∀ k, (rowOf xs k).length = (rowOf zs k).length := fun k => by
    have := congrArg List.length (hrow k)
    rw [List.length_map, List.length_map] at this
    rw [this]
    exact (row_perm hp.symm k).length_eq
  refine ⟨check_same h1 h2, whole_same h1 h2 (fun k => ?_) fun k => ?_⟩
  · rw [← keys_perm hp, ← keys_map (g := shiftG L) (fun _ => rfl) (fun _ => rfl), ← hz, keys_map (g := eraseA) (fun _ => rfl) (fun _ => rfl)]
  · rw [← keep_erase.lin (rowOf zs k), hrow, (keep_shift hL).lin]
    exact ⟨fun h => h.perm (row_perm hp.symm k), fun h => h.perm (row_perm hp k)⟩
/-- each key by itself. -/
def partK (xs : List ActR) (k : ByteArray) : List ActR := xs.filter fun a => decide (a.key = k)
theorem part_row (xs : List ActR) (k k' : ByteArray) : rowOf (partK xs k) k' = if k' = k then rowOf xs k else [] := by
  unfold rowOf partK
  rw [List.filter_filter]
  split
  · rename_i e
    subst e
    congr 1
    funext a
    by_cases h : a.key = k' <;> simp [h]
  · rename_i e
    apply List.filter_eq_nil_iff.2
    intro a _
    by_cases h : a.key = k'
    · simp [h, e]
    · simp [h]
theorem part_check {xs : List ActR} (h : checkR xs = 0) (k : ByteArray) : checkR (partK xs k) = 0 := by
  rw [check_zero] at h ⊢
  refine ⟨fun a ha => h.1 a (List.mem_filter.1 ha).1, fun k' => ?_⟩
  rw [part_row]
  split
  · exact h.2 k
  · simp
theorem part_whole {xs : List ActR} (h : checkR xs = 0) {k : ByteArray} (hk : k ∈ keyList xs) : wholeR (partK xs k) = true ↔ Lin (rowOf xs k) := by
  rw [whole_iff]
  constructor
  · rintro ⟨_, h2⟩
    have : k ∈ keyList (partK xs k) := by
      obtain ⟨a, ha, r1, r2⟩ := mem_keyList.1 hk
      exact mem_keyList.2 ⟨a, List.mem_filter.2 ⟨ha, by simp [r2]⟩, r1, r2⟩
    have := h2 k this
    rwa [part_row, if_pos rfl] at this
  · intro hl
    refine ⟨part_check h k, fun k' hk' => ?_⟩
    obtain ⟨a, ha, r1, r2⟩ := mem_keyList.1 hk'
    have e : k' = k := by
      have := (List.mem_filter.1 ha).2
      simp at this
      rw [← r2, this]
    rw [part_row, if_pos e]
    exact hl
theorem whole_parts {xs : List ActR} {ks : List ByteArray} (h : checkR xs = 0) (hk : ∀ k, k ∈ ks ↔ k ∈ keyList xs) : wholeR xs = ks.all fun k => wholeR (partK xs k) := by
  rw [Bool.eq_iff_iff, whole_iff, List.all_eq_true]
  constructor
  · rintro ⟨_, h2⟩ k hkk
    have := (hk k).1 hkk
    exact (part_whole h this).2 (h2 k this)
  · intro h2
    exact ⟨h, fun k hkk => (part_whole h hkk).1 (h2 k ((hk k).2 hkk))⟩
end Go.Proofs.Ytnefcbcioemfiaa
