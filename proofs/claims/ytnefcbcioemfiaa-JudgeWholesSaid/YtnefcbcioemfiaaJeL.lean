/-
  Keys in their order: the order of strings, sorted lists without doubles.
-/
import Derived.Test.YtnefcbcioemfiaaJdZ
namespace Go.Proofs.Ytnefcbcioemfiaa
open Go Go.RowKit

theorem bytesLess_lt : ∀ (x y : List UInt8), Op.bytesLess x y = decide (x < y)
  | [], [] => by simp [Op.bytesLess]
  | _ :: _, [] => by simp [Op.bytesLess]
  | [], _ :: _ => by simp [Op.bytesLess]
  | a :: x, b :: y => by
    rw [Op.bytesLess, bytesLess_lt x y]
    by_cases h1 : a < b
    · simp [h1, List.cons_lt_cons_iff]
    · by_cases h2 : a = b
      · simp [h2]
      · simp [h1, h2, List.cons_lt_cons_iff]
def ltK (a b : ByteArray) : Bool := Op.bytesLess a.toList b.toList
theorem ltK_eq (a b : ByteArray) : ltK a b = decide (a.data.toList < b.data.toList) := by
  unfold ltK
  rw [bytesLess_lt, ByteArray.toList_eq, ByteArray.toList_eq]
theorem ltK_irrefl (a : ByteArray) : ltK a a = false := by
  rw [ltK_eq]; exact decide_eq_false (List.lt_irrefl _)
theorem ltK_trans {a b c : ByteArray} (h1 : ltK a b = true) (h2 : ltK b c = true) : ltK a c = true := by
  rw [ltK_eq, decide_eq_true_eq] at *
  exact List.lt_trans h1 h2
theorem ltK_total {a b : ByteArray} (h : a ≠ b) (h1 : ltK a b = false) : ltK b a = true := by
  cases h2 : ltK b a with
  | true => rfl
  | false =>
    rw [ltK_eq, decide_eq_false_iff_not] at h1 h2
    have e : a.data.toList = b.data.toList := List.le_antisymm (List.not_lt.1 h2) (List.not_lt.1 h1)
    have e2 : a.data = b.data := Array.toList_inj.1 e
    exact absurd (by cases a; cases b; simp only at e2; rw [e2]) h
/-- in order and without doubles. -/
def UpK (l : List ByteArray) : Prop := l.Pairwise fun a b => ltK a b = true
theorem UpK.same : ∀ {l m : List ByteArray}, UpK l → UpK m → (∀ x, x ∈ l ↔ x ∈ m) → l = m
  | [], [], _, _, _ => rfl
  | [], b :: m, _, _, h => absurd ((h b).2 (by simp)) (by simp)
  | a :: l, [], _, _, h => absurd ((h a).1 (by simp)) (by simp)
  | a :: l, b :: m, h1, h2, h => by
    unfold UpK at h1 h2
    rw [List.pairwise_cons] at h1 h2
    have hab : a = b := by
      apply Decidable.byContradiction
      intro hne
      have ha : a ∈ m := by
        have := (h a).1 (by simp)
        rcases List.mem_cons.1 this with e | e
        · exact absurd e hne
        · exact e
      have hb : b ∈ l := by
        have := (h b).2 (by simp)
        rcases List.mem_cons.1 this with e | e
        · exact absurd e.symm hne
        · exact e
      have := ltK_trans (h1.1 b hb) (h2.1 a ha)
      rw [ltK_irrefl] at this
      cases this
    subst hab
    rw [UpK.same h1.2 h2.2 fun x => ?_]
    constructor
    · intro hx
      have := (h x).1 (List.mem_cons_of_mem _ hx)
      rcases List.mem_cons.1 this with e | e
      · subst e; have := h1.1 x hx; rw [ltK_irrefl] at this; cases this
      · exact e
    · intro hx
      have := (h x).2 (List.mem_cons_of_mem _ hx)
      rcases List.mem_cons.1 this with e | e
      · subst e; have := h2.1 x hx; rw [ltK_irrefl] at this; cases this
      · exact e
/-- one key more, put in where it belongs. -/
structure SrtO (L : List ByteArray) (key : ByteArray) (j : Nat) (out : List ByteArray) (put : Bool) : Prop where
  dn : put = false → ∀ x ∈ L.take j, ltK key x = false
  up : put = true → ∀ x ∈ L.drop j, ltK key x = true
  s : key ∉ L → UpK out
theorem SrtO.start (L : List ByteArray) (key : ByteArray) : SrtO L key 0 [] false := ⟨fun _ x h => by simp at h, (fun h => nomatch h), fun _ => List.Pairwise.nil⟩
theorem UpK.snoc {l : List ByteArray} {x : ByteArray} (h : UpK l) (hx : ∀ y ∈ l, ltK y x = true) : UpK (l ++ [x]) := by
  unfold UpK
  rw [List.pairwise_append]
  exact ⟨h, by simp, fun a ha b hb => by rw [List.mem_singleton.1 hb]; exact hx a ha⟩
theorem UpK.take_lt {L : List ByteArray} (h : UpK L) {j : Nat} {q : ByteArray} (hq : L[j]? = some q) : ∀ x ∈ L.take j, ltK x q = true := by
  obtain ⟨hjl, e⟩ := List.getElem?_eq_some_iff.1 hq
  intro x hx
  have h1 := h
  unfold UpK at h1
  rw [← List.take_append_drop j L, List.pairwise_append] at h1
  exact h1.2.2 x hx q (by rw [List.drop_eq_getElem_cons hjl, e]; simp)
theorem UpK.drop_lt {L : List ByteArray} (h : UpK L) {j : Nat} {q : ByteArray} (hq : L[j]? = some q) : ∀ x ∈ L.drop j, x = q ∨ ltK q x = true := by
  obtain ⟨hjl, e⟩ := List.getElem?_eq_some_iff.1 hq
  intro x hx
  have h1 : (L.drop j).Pairwise fun a b => ltK a b = true := List.Pairwise.sublist (List.drop_sublist _ _) h
  rw [List.drop_eq_getElem_cons hjl, e] at h1 hx
  rw [List.pairwise_cons] at h1
  rcases List.mem_cons.1 hx with e1 | e1
  · exact .inl e1
  · exact .inr (h1.1 x e1)
theorem SrtO.push {L : List ByteArray} {key : ByteArray} {j : Nat} {out : List ByteArray} (h : SrtO L key j out false) (hm : ∀ k, k ∈ out ↔ (k ∈ L.take j ∨ (false = true ∧ k = key))) (hup : ∀ x ∈ L.drop j, ltK key x = true) : SrtO L key j (out ++ [key]) true :=
  ⟨(fun h => nomatch h), fun _ => hup, fun hk => (h.s hk).snoc fun y hy => by
    have hy2 : y ∈ L.take j := by rcases (hm y).1 hy with e | e; exact e; cases e.1
    exact ltK_total (fun e => hk (e ▸ List.mem_of_mem_take hy2)) (h.dn rfl y hy2)⟩
theorem SrtO.next {L : List ByteArray} {key : ByteArray} {j : Nat} {out : List ByteArray} {put : Bool} (h : SrtO L key j out put) (hL : UpK L) {q : ByteArray} (hq : L[j]? = some q) (hm : ∀ k, k ∈ out ↔ (k ∈ L.take j ∨ (put = true ∧ k = key))) (hd : put = false → ltK key q = false) : SrtO L key (j + 1) (out ++ [q]) put := by
  obtain ⟨hjl, e⟩ := List.getElem?_eq_some_iff.1 hq
  have ht2 : L.take (j + 1) = L.take j ++ [q] := by rw [List.take_succ_eq_append_getElem hjl, e]
  have hd2 : L.drop j = q :: L.drop (j + 1) := by rw [List.drop_eq_getElem_cons hjl, e]
  refine ⟨fun hp x hx => ?_, fun hp x hx => h.up hp x (by rw [hd2]; exact List.mem_cons_of_mem _ hx), fun hk => (h.s hk).snoc fun y hy => ?_⟩
  · rw [ht2, List.mem_append, List.mem_singleton] at hx
    rcases hx with e1 | e1
    · exact h.dn hp x e1
    · rw [e1]; exact hd hp
  · rcases (hm y).1 hy with e1 | ⟨hp, e1⟩
    · exact hL.take_lt hq y e1
    · rw [e1]; exact h.up hp q (by rw [hd2]; simp)
/-- keys as they are given: in order. -/
def GivesKeysU (xs : List ActR) (w : World) (e : Ending) (w' : World) : Prop :=
  ∃ (a : Option Addr) (n c : Nat) (ks : List ByteArray), e = .returned (.slice a n c) ∧ RowV w' a n (ks.map Value.string) ∧ (∀ k, k ∈ ks ↔ k ∈ keyList xs) ∧ UpK ks ∧ n ≤ 1000000 ∧ Below w.heap.size w w'
theorem GivesKeysU.gives {xs : List ActR} {w : World} {e : Ending} {w' : World} (h : GivesKeysU xs w e w') : GivesKeys xs w e w' := by
  obtain ⟨a, n, c, ks, h1, h2, h3, -, h4, h5⟩ := h
  exact ⟨a, n, c, ks, h1, h2, h3, h4, h5⟩
end Go.Proofs.Ytnefcbcioemfiaa
