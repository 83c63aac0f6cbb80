/-
  Histories as plain values: which acts count, the search for an order, and what it finds. Nothing of a program in sight.
-/
import Derived.Test.YtnefcbcioemfiaaMem
namespace Go.Proofs.Ytnefcbcioemfiaa
open Go

structure ActR where
  cl : Int
  d : Int
  st : Int
  en : Int
  key : ByteArray
  val : List Nat
  rop : Int
  rdo : Int
  rkey : ByteArray
  rval : List Nat
  tn : Int
  tc : Int
  code : Int
  found : Bool
  keys : List ByteArray
instance : Inhabited ActR := ⟨⟨0, 0, 0, 0, ByteArray.empty, [], 0, 0, ByteArray.empty, [], 0, 0, 0, false, []⟩⟩
def dAct : ActR := ⟨0, 0, 0, 0, ByteArray.empty, [], 0, 0, ByteArray.empty, [], 0, 0, 0, false, []⟩
def keyedB (a : ActR) : Bool := decide (a.d = 1) || decide (a.d = 2) || decide (a.d = 3)
def sureB (a : ActR) : Bool := decide (0 ≤ a.en) && decide (a.code = 0)
def countsB (a : ActR) : Bool := keyedB a && (!decide (a.d = 2) || sureB a)
def beforeB (a b : ActR) : Bool := decide (0 ≤ a.en) && decide (a.en < b.st)

/-- the acts of a key that count. -/
def rowOf (xs : List ActR) (k : ByteArray) : List ActR := xs.filter fun a => decide (a.key = k) && countsB a
def placesTo (xs : List ActR) (k : ByteArray) (m : Nat) : List Nat := (List.range m).filter fun i => decide ((xs.getD i dAct).key = k) && countsB (xs.getD i dAct)
def placesOf (xs : List ActR) (k : ByteArray) : List Nat := placesTo xs k xs.length
theorem placesTo_succ (xs : List ActR) (k : ByteArray) (m : Nat) :
    placesTo xs k (m + 1) = placesTo xs k m ++ (if decide ((xs.getD m dAct).key = k) && countsB (xs.getD m dAct) then [m] else []) := by
  unfold placesTo
  rw [List.range_succ, List.filter_append, List.filter_cons, List.filter_nil]
theorem map_getD_range {α : Type} (d : α) (xs : List α) : (List.range xs.length).map (fun i => xs.getD i d) = xs := by
  apply List.ext_getElem
  · simp
  · intro i h1 h2
    simp [List.getD_eq_getElem?_getD, h2]
theorem placesOf_row (xs : List ActR) (k : ByteArray) : (placesOf xs k).map (fun i => xs.getD i dAct) = rowOf xs k := by
  unfold placesOf placesTo rowOf
  conv => rhs; rw [← map_getD_range dAct xs]
  rw [List.filter_map]
  rfl
theorem placesTo_lt {xs : List ActR} {k : ByteArray} {m i : Nat} (h : i ∈ placesTo xs k m) : i < m := by
  have := (List.mem_filter.1 h).1
  simpa using this
theorem placesTo_nodup (xs : List ActR) (k : ByteArray) (m : Nat) : (placesTo xs k m).Nodup := List.Nodup.sublist List.filter_sublist List.nodup_range
theorem placesTo_len (xs : List ActR) (k : ByteArray) (m : Nat) : (placesTo xs k m).length ≤ m := by
  have := List.length_filter_le (fun i => decide ((xs.getD i dAct).key = k) && countsB (xs.getD i dAct)) (List.range m)
  simpa [placesTo] using this

/-! the search -/
def fitsB (A : List ActR) (l : Int) (a : ActR) : Bool :=
  if a.d = 2 then (if l = -1 ∨ (A.getD l.toNat dAct).d = 3 then !a.found else a.found && decide (a.rval = (A.getD l.toNat dAct).val)) else true
def lateB (A : List ActR) (T i : Nat) : Bool := (List.range A.length).any fun j => T.testBit j && beforeB (A.getD i dAct) (A.getD j dAct)
def followsB (A : List ActR) (T : Nat) (l : Int) (i : Nat) : Bool := !T.testBit i && !lateB A T i && fitsB A l (A.getD i dAct)
def behT (T i : Nat) : Nat := T ||| 2 ^ i
def behL (A : List ActR) (l : Int) (i : Nat) : Int := if (A.getD i dAct).d = 2 then l else i
def completeB (A : List ActR) (T : Nat) : Bool := !(List.range A.length).any fun i => !T.testBit i && sureB (A.getD i dAct)
def leftN (A : List ActR) (T : Nat) : Nat := ((List.range A.length).filter fun i => !T.testBit i).length
def dfs (A : List ActR) : Nat → Nat → Int → Option (List Nat)
  | 0, T, _ => if completeB A T then some [] else none
  | k + 1, T, l => if completeB A T then some [] else
    (List.range A.length).findSome? fun i => if followsB A T l i then (dfs A k (behT T i) (behL A l i)).map (fun r => i :: r) else none
def okPath (A : List ActR) : List Nat → Nat → Int → Bool
  | [], T, _ => completeB A T
  | i :: r, T, l => decide (i < A.length) && followsB A T l i && okPath A r (behT T i) (behL A l i)
theorem testBit_beh (T i j : Nat) : (behT T i).testBit j = (T.testBit j || decide (i = j)) := by
  unfold behT
  rw [Nat.testBit_or, Nat.testBit_two_pow]
theorem follows_free {A : List ActR} {T i : Nat} {l : Int} (h : followsB A T l i = true) : T.testBit i = false := by
  simp only [followsB, Bool.and_eq_true, Bool.not_eq_true'] at h
  exact h.1.1
theorem filter_one_less {α : Type} (p q : α → Bool) (a : α) : ∀ (l : List α), l.Nodup → a ∈ l → p a = true → q a = false → (∀ x, x ≠ a → q x = p x) → (l.filter q).length + 1 = (l.filter p).length
  | [], _, ha, _, _, _ => by cases ha
  | x :: l, hn, ha, hp, hq, h => by
    rw [List.nodup_cons] at hn
    by_cases e : x = a
    · subst e
      have : l.filter q = l.filter p := List.filter_congr fun y hy => h y (fun e => hn.1 (e ▸ hy))
      rw [List.filter_cons_of_neg (by simp [hq]), List.filter_cons_of_pos hp, this]
      rfl
    · have ih := filter_one_less p q a l hn.2 (by rcases List.mem_cons.1 ha with e' | e'; exact absurd e'.symm e; exact e') hp hq h
      rw [List.filter_cons, List.filter_cons, h x e]
      split
      · simp only [List.length_cons]; omega
      · exact ih
theorem left_beh {A : List ActR} {T i : Nat} (hi : i < A.length) (h : T.testBit i = false) : leftN A (behT T i) + 1 = leftN A T := by
  unfold leftN
  refine filter_one_less _ _ i _ List.nodup_range (by simpa using hi) (by simp [h]) (by simp [testBit_beh]) fun x hx => ?_
  rw [testBit_beh]
  simp [show ¬ i = x from fun e => hx e.symm]
theorem complete_of_left {A : List ActR} {T : Nat} (h : leftN A T = 0) : completeB A T = true := by
  unfold completeB
  rw [Bool.not_eq_true', List.any_eq_false]
  intro i hi
  have := List.eq_nil_of_length_eq_zero h
  have h2 := List.filter_eq_nil_iff.1 this i hi
  have h3 : T.testBit i = true := by simpa using h2
  simp [h3]
theorem findSome_none {α β : Type} {f : α → Option β} {l : List α} (h : l.findSome? f = none) : ∀ x ∈ l, f x = none := by
  simpa using h
theorem dfs_some (A : List ActR) : ∀ (k T : Nat) (l : Int) (r : List Nat), dfs A k T l = some r → okPath A r T l = true
  | 0, T, l, r, h => by
    rw [dfs] at h
    split at h
    · cases h; assumption
    · cases h
  | k + 1, T, l, r, h => by
    rw [dfs] at h
    split at h
    · cases h; assumption
    · obtain ⟨i, hi, h2⟩ := List.exists_of_findSome?_eq_some h
      have hi : i < A.length := by simpa using hi
      split at h2
      · rename_i hf
        obtain ⟨r', h3, rfl⟩ := Option.map_eq_some_iff.1 h2
        simp only [okPath, hi, hf, dfs_some A k _ _ r' h3, decide_true, Bool.and_self]
      · cases h2
theorem dfs_none (A : List ActR) : ∀ (k T : Nat) (l : Int), leftN A T = k → dfs A k T l = none → ∀ r, okPath A r T l = false
  | 0, T, l, hk, h, r => by
    rw [dfs, complete_of_left hk] at h
    cases h
  | k + 1, T, l, hk, h, r => by
    rw [dfs] at h
    split at h
    · cases h
    · rename_i hc
      have hc : completeB A T = false := by simpa using hc
      have hall := findSome_none h
      cases r with
      | nil => exact hc
      | cons i r =>
        simp only [okPath]
        by_cases hi : i < A.length
        · by_cases hf : followsB A T l i = true
          · have := hall i (by simpa using hi)
            rw [if_pos hf] at this
            have h3 := dfs_none A k (behT T i) (behL A l i) (by have h0 := left_beh (A := A) (T := T) (i := i) hi (follows_free hf); omega) (by simpa using this) r
            simp [h3]
          · simp [hf]
        · simp [hi]
/-- the search, from any state. -/
def srch (A : List ActR) (T : Nat) (l : Int) : Option (List Nat) := dfs A (leftN A T) T l
theorem srch_eq (A : List ActR) (T : Nat) (l : Int) : srch A T l = if completeB A T then some [] else
    (List.range A.length).findSome? fun i => if followsB A T l i then (srch A (behT T i) (behL A l i)).map (fun r => i :: r) else none := by
  unfold srch
  cases hk : leftN A T with
  | zero => rw [dfs, complete_of_left hk]; rfl
  | succ k =>
    rw [dfs]
    congr 1
    have : ∀ i ∈ List.range A.length, (if followsB A T l i then (dfs A k (behT T i) (behL A l i)).map (fun r => i :: r) else none) = (if followsB A T l i then (dfs A (leftN A (behT T i)) (behT T i) (behL A l i)).map (fun r => i :: r) else none) := by
      intro i hi
      split
      · rename_i hf
        rw [show leftN A (behT T i) = k by have h0 := left_beh (A := A) (T := T) (i := i) (by simpa using hi) (follows_free hf); omega]
      · rfl
    generalize List.range A.length = L at this ⊢
    induction L with
    | nil => rfl
    | cons x L ih =>
      rw [List.findSome?_cons, List.findSome?_cons, this x (by simp), ih fun i hi => this i (by simp [hi])]
theorem srch_some {A : List ActR} {T : Nat} {l : Int} {r : List Nat} (h : srch A T l = some r) : okPath A r T l = true := dfs_some A _ _ _ _ h
theorem srch_none {A : List ActR} {T : Nat} {l : Int} (h : srch A T l = none) (r : List Nat) : okPath A r T l = false := dfs_none A _ _ _ rfl h r
theorem okPath_lt {A : List ActR} : ∀ {r : List Nat} {T : Nat} {l : Int}, okPath A r T l = true → ∀ i ∈ r, i < A.length
  | [], _, _, _, i, hi => by cases hi
  | j :: r, T, l, h, i, hi => by
    simp only [okPath, Bool.and_eq_true, decide_eq_true_eq] at h
    rcases List.mem_cons.1 hi with rfl | hi
    · exact h.1.1
    · exact okPath_lt h.2 i hi
/-- a row of places, as Fits reads it. -/
def fitsR (A : List ActR) (P : List Nat) : List Int → Nat → Int → Bool
  | [], T, _ => completeB A T
  | p :: r, T, l => match P.findIdx? (fun (q : Nat) => decide ((q : Int) = p)) with
    | none => false
    | some i => followsB A T l i && fitsR A P r (behT T i) (behL A l i)
theorem fitsR_path {A : List ActR} {P : List Nat} (hl : P.length = A.length) : ∀ {r : List Int} {T : Nat} {l : Int}, fitsR A P r T l = true → ∃ ix, okPath A ix T l = true
  | [], T, l, h => ⟨[], h⟩
  | p :: r, T, l, h => by
    rw [fitsR] at h
    split at h
    · cases h
    · rename_i i hi
      simp only [Bool.and_eq_true] at h
      obtain ⟨ix, h2⟩ := fitsR_path hl h.2
      have : i < A.length := by rw [← hl]; exact (List.findIdx?_eq_some_iff_getElem.1 hi).1
      exact ⟨i :: ix, by simp [okPath, this, h.1, h2]⟩
theorem findIdx_place {P : List Nat} (hn : P.Nodup) {i : Nat} (hi : i < P.length) : P.findIdx? (fun (q : Nat) => decide ((q : Int) = ((P.getD i 0 : Nat) : Int))) = some i := by
  rw [List.findIdx?_eq_some_iff_getElem]
  refine ⟨hi, by simp [List.getD_eq_getElem?_getD, hi], fun j hj => ?_⟩
  have : j < P.length := by omega
  simp only [List.getD_eq_getElem?_getD, List.getElem?_eq_getElem hi, Option.getD_some, decide_eq_true_eq, Int.ofNat_inj]
  intro e
  have := (List.getElem_inj hn).1 e
  omega
theorem path_fitsR {A : List ActR} {P : List Nat} (hl : P.length = A.length) (hn : P.Nodup) : ∀ {ix : List Nat} {T : Nat} {l : Int}, okPath A ix T l = true → fitsR A P (ix.map fun i => ((P.getD i 0 : Nat) : Int)) T l = true
  | [], T, l, h => h
  | i :: ix, T, l, h => by
    simp only [okPath, Bool.and_eq_true, decide_eq_true_eq] at h
    rw [List.map_cons, fitsR, findIdx_place hn (by omega)]
    simp only [h.1.2, path_fitsR hl hn h.2, Bool.and_self]
/-! Check, Order, Whole, Fits -/
def stepBad (a : ActR) : Bool := decide (a.st < 0) || (decide (0 ≤ a.en) && decide (a.en < a.st))
def keyList (xs : List ActR) : List ByteArray := (xs.filter keyedB).map (·.key)
def checkR (xs : List ActR) : Int := if xs.any stepBad then 180 else if (keyList xs).any (fun k => decide (12 < (placesOf xs k).length)) then 201 else 0
def ordR (xs : List ActR) (k : ByteArray) : Option (List Nat) := (srch (rowOf xs k) 0 (-1)).map fun r => r.map fun i => (placesOf xs k).getD i 0
def orderR (xs : List ActR) (k : ByteArray) : Option (List Nat) := if checkR xs = 0 then ordR xs k else none
def fitsOf (xs : List ActR) (k : ByteArray) (o : List Int) : Bool := decide (checkR xs = 0) && fitsR (rowOf xs k) (placesOf xs k) o 0 (-1)
def wholeR (xs : List ActR) : Bool := decide (checkR xs = 0) && (keyList xs).all fun k => (srch (rowOf xs k) 0 (-1)).isSome
theorem places_row_len (xs : List ActR) (k : ByteArray) : (placesOf xs k).length = (rowOf xs k).length := by rw [← placesOf_row, List.length_map]
theorem orders_fit {xs : List ActR} {k : ByteArray} {o : List Nat} (h : orderR xs k = some o) : fitsOf xs k (o.map fun (p : Nat) => (p : Int)) = true := by
  unfold orderR at h
  split at h
  · rename_i hc
    obtain ⟨r, h2, rfl⟩ := Option.map_eq_some_iff.1 h
    unfold fitsOf
    rw [List.map_map, decide_eq_true hc, Bool.true_and]
    exact path_fitsR (places_row_len xs k) (placesTo_nodup _ _ _) (srch_some h2)
  · cases h
theorem orders_none {xs : List ActR} {k : ByteArray} (h : orderR xs k = none) (o : List Int) : fitsOf xs k o = false := by
  unfold orderR at h
  unfold fitsOf
  split at h
  · cases hf : fitsR (rowOf xs k) (placesOf xs k) o 0 (-1) with
    | false => simp
    | true =>
      obtain ⟨ix, h2⟩ := fitsR_path (places_row_len xs k) hf
      have := srch_none (by simpa [ordR] using h) ix
      rw [this] at h2; cases h2
  · rename_i hc; simp [hc]
end Go.Proofs.Ytnefcbcioemfiaa
