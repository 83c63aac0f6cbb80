/-
  What the search finds, in words of lists: an order of some of the acts. Nothing of a program in sight.
-/
import Derived.Test.YtnefcbcioemfiaaJdA
namespace Go.Proofs.Ytnefcbcioemfiaa
open Go

def nextV (cur : Option (List Nat)) (a : ActR) : Option (List Nat) := if a.d = 2 then cur else if a.d = 3 then none else some a.val
def tellsV (cur : Option (List Nat)) (a : ActR) : Bool := match cur with
  | none => !a.found
  | some v => a.found && decide (a.rval = v)
def Seq : Option (List Nat) → List ActR → Prop
  | _, [] => True
  | cur, a :: r => (a.d = 2 → tellsV cur a = true) ∧ (∀ b ∈ r, beforeB b a = false) ∧ Seq (nextV cur a) r
def Lin (xs : List ActR) : Prop := ∃ ys rest, (ys ++ rest).Perm xs ∧ Seq none ys ∧ ∀ r ∈ rest, sureB r = false
def curOf (A : List ActR) (l : Int) : Option (List Nat) := if l = -1 ∨ (A.getD l.toNat dAct).d = 3 then none else some (A.getD l.toNat dAct).val
theorem fits_cur (A : List ActR) (l : Int) (a : ActR) : fitsB A l a = true ↔ (a.d = 2 → tellsV (curOf A l) a = true) := by
  unfold fitsB curOf
  by_cases h : a.d = 2
  · rw [if_pos h]
    by_cases h2 : l = -1 ∨ (A.getD l.toNat dAct).d = 3
    · rw [if_pos h2, if_pos h2]; exact ⟨fun k _ => k, fun k => k h⟩
    · rw [if_neg h2, if_neg h2]; exact ⟨fun k _ => k, fun k => k h⟩
  · rw [if_neg h]; exact ⟨fun _ k => absurd k h, fun _ => rfl⟩
theorem cur_beh (A : List ActR) (l : Int) (i : Nat) : curOf A (behL A l i) = nextV (curOf A l) (A.getD i dAct) := by
  unfold behL nextV
  by_cases h : (A.getD i dAct).d = 2
  · rw [if_pos h, if_pos h]
  · rw [if_neg h, if_neg h]
    unfold curOf
    have hi : ¬ (i : Int) = -1 := by omega
    simp only [hi, false_or, Int.toNat_natCast]
theorem late_false {A : List ActR} {T i : Nat} : lateB A T i = false ↔ ∀ j, j < A.length → T.testBit j = true → beforeB (A.getD i dAct) (A.getD j dAct) = false := by
  unfold lateB
  rw [List.any_eq_false]
  constructor
  · intro h j hj ht
    have := h j (by simpa using hj)
    rw [ht, Bool.true_and] at this
    simpa using this
  · intro h j hj
    cases ht : T.testBit j with
    | false => simp
    | true => rw [h j (by simpa using hj) ht]; simp
theorem complete_true {A : List ActR} {T : Nat} : completeB A T = true ↔ ∀ i, i < A.length → T.testBit i = false → sureB (A.getD i dAct) = false := by
  unfold completeB
  rw [Bool.not_eq_true', List.any_eq_false]
  constructor
  · intro h i hi ht
    have := h i (by simpa using hi)
    rw [ht] at this
    simpa using this
  · intro h i hi
    cases ht : T.testBit i with
    | true => simp
    | false => rw [h i (by simpa using hi) ht]; simp
structure PathOk (A : List ActR) (ix : List Nat) (T : Nat) (l : Int) : Prop where
  lt : ∀ i ∈ ix, i < A.length ∧ T.testBit i = false
  nodup : ix.Nodup
  seq : Seq (curOf A l) (ix.map fun i => A.getD i dAct)
  late : ∀ i ∈ ix, ∀ j, j < A.length → T.testBit j = true → beforeB (A.getD i dAct) (A.getD j dAct) = false
  full : ∀ i, i < A.length → T.testBit i = false → ¬ i ∈ ix → sureB (A.getD i dAct) = false
theorem path_iff (A : List ActR) : ∀ (ix : List Nat) (T : Nat) (l : Int), okPath A ix T l = true ↔ PathOk A ix T l
  | [], T, l => by
    rw [okPath, complete_true]
    exact ⟨fun h => ⟨fun _ hi => (nomatch hi), List.nodup_nil, trivial, fun _ hi => (nomatch hi), fun i h1 h2 _ => h i h1 h2⟩, fun h i h1 h2 => h.full i h1 h2 (fun k => nomatch k)⟩
  | i :: r, T, l => by
    simp only [okPath, Bool.and_eq_true, decide_eq_true_eq]
    rw [path_iff A r]
    constructor
    · rintro ⟨⟨hi, hf⟩, h⟩
      have hT := follows_free hf
      simp only [followsB, Bool.and_eq_true, Bool.not_eq_true'] at hf
      have hnr : ∀ j ∈ r, j < A.length ∧ T.testBit j = false ∧ ¬ i = j := fun j hj => by
        have h1 := h.lt j hj
        rw [testBit_beh, Bool.or_eq_false_iff, decide_eq_false_iff_not] at h1
        exact ⟨h1.1, h1.2.1, h1.2.2⟩
      refine ⟨fun j hj => ?_, ?_, ?_, fun j hj k hk hkT => ?_, fun j hj hjT hn => ?_⟩
      · rcases List.mem_cons.1 hj with rfl | hj
        · exact ⟨hi, hT⟩
        · exact ⟨(hnr j hj).1, (hnr j hj).2.1⟩
      · rw [List.nodup_cons]
        exact ⟨fun hir => (hnr i hir).2.2 rfl, h.nodup⟩
      · refine ⟨(fits_cur _ _ _).1 hf.2, fun b hb => ?_, ?_⟩
        · obtain ⟨j, hj, rfl⟩ := List.mem_map.1 hb
          exact h.late j hj i hi (by rw [testBit_beh]; simp)
        · rw [← cur_beh]; exact h.seq
      · rcases List.mem_cons.1 hj with rfl | hj
        · exact (late_false.1 hf.1.2) k hk hkT
        · exact h.late j hj k hk (by rw [testBit_beh, hkT]; rfl)
      · rw [List.mem_cons, not_or] at hn
        exact h.full j hj (by rw [testBit_beh, hjT]; simp; exact fun e => hn.1 e.symm) hn.2
    · intro h
      have hi := h.lt i (List.mem_cons_self ..)
      have hnd := List.nodup_cons.1 h.nodup
      obtain ⟨s1, s2, s3⟩ := h.seq
      refine ⟨⟨hi.1, ?_⟩, ⟨fun j hj => ?_, hnd.2, ?_, fun j hj k hk hkT => ?_, fun j hj hjT hn => ?_⟩⟩
      · simp only [followsB, Bool.and_eq_true, Bool.not_eq_true']
        exact ⟨⟨hi.2, late_false.2 (h.late i (List.mem_cons_self ..))⟩, (fits_cur _ _ _).2 s1⟩
      · have h1 := h.lt j (List.mem_cons_of_mem _ hj)
        refine ⟨h1.1, ?_⟩
        rw [testBit_beh, h1.2, Bool.false_or, decide_eq_false_iff_not]
        rintro rfl
        exact hnd.1 hj
      · rw [cur_beh]; exact s3
      · rw [testBit_beh, Bool.or_eq_true, decide_eq_true_eq] at hkT
        rcases hkT with hkT | rfl
        · exact h.late j (List.mem_cons_of_mem _ hj) k hk hkT
        · exact s2 _ (List.mem_map.2 ⟨j, hj, rfl⟩)
      · rw [testBit_beh, Bool.or_eq_false_iff, decide_eq_false_iff_not] at hjT
        exact h.full j hj hjT.1 (fun hm => by rcases List.mem_cons.1 hm with e | hm; exact hjT.2 e.symm; exact hn hm)
theorem perm_idx {α : Type} (d : α) {L xs : List α} (h : L.Perm xs) : ∃ ix : List Nat, ix.Perm (List.range xs.length) ∧ L = ix.map fun i => xs.getD i d := by
  induction h with
  | nil => exact ⟨[], List.Perm.refl _, rfl⟩
  | cons x h ih =>
    rename_i l1 l2
    obtain ⟨ix, h1, h2⟩ := ih
    refine ⟨0 :: ix.map (· + 1), ?_, ?_⟩
    · rw [List.length_cons, List.range_succ_eq_map]
      exact (h1.map _).cons 0
    · rw [List.map_cons, List.map_map, h2]
      rfl
  | swap x y l =>
    refine ⟨1 :: 0 :: (List.range l.length).map (· + 2), ?_, ?_⟩
    · rw [List.length_cons, List.length_cons, List.range_succ_eq_map, List.range_succ_eq_map]
      refine (List.Perm.swap 0 1 _).trans ?_
      rw [List.map_cons, List.map_map]
      exact List.Perm.refl _
    · rw [List.map_cons, List.map_cons, List.map_map]
      congr 2
      exact (map_getD_range d l).symm
  | trans h1 h2 ih1 ih2 =>
    rename_i l1 l2 l3
    obtain ⟨ix1, p1, e1⟩ := ih1
    obtain ⟨ix2, p2, e2⟩ := ih2
    have hl : ix2.length = l2.length := by rw [e2]; simp
    refine ⟨ix1.map fun i => ix2.getD i 0, ?_, ?_⟩
    · have := p1.map fun i => ix2.getD i 0
      rw [← hl, map_getD_range] at this
      exact this.trans p2
    · rw [e1, List.map_map]
      refine List.map_congr_left fun i hi => ?_
      have hil : i < l2.length := by simpa using p1.mem_iff.1 hi
      simp only [Function.comp]
      conv => lhs; rw [e2]
      simp [List.getD_eq_getElem?_getD, List.getElem?_map, List.getElem?_eq_getElem (show i < ix2.length by omega)]
theorem nodup_perm_range {ix : List Nat} {n : Nat} (hn : ix.Nodup) (hl : ∀ i ∈ ix, i < n) : (ix ++ (List.range n).filter fun i => decide (¬ i ∈ ix)).Perm (List.range n) := by
  have h1 : (ix ++ (List.range n).filter fun i => decide (¬ i ∈ ix)).Nodup := by
    rw [List.nodup_append]
    refine ⟨hn, List.Nodup.sublist List.filter_sublist List.nodup_range, fun a ha b hb e => ?_⟩
    subst e
    have := (List.mem_filter.1 hb).2
    simp at this
    exact this ha
  rw [List.perm_ext_iff_of_nodup h1 List.nodup_range]
  intro a
  rw [List.mem_append, List.mem_filter]
  constructor
  · rintro (h | h)
    · simpa using hl a h
    · exact h.1
  · intro h
    by_cases ha : a ∈ ix
    · exact .inl ha
    · exact .inr ⟨h, by simpa using ha⟩
/-- in words of places. -/
def LinI (xs : List ActR) : Prop := ∃ p q : List Nat, (p ++ q).Perm (List.range xs.length) ∧ Seq none (p.map fun i => xs.getD i dAct) ∧ ∀ i ∈ q, sureB (xs.getD i dAct) = false
theorem lin_idx (xs : List ActR) : Lin xs ↔ LinI xs := by
  constructor
  · rintro ⟨ys, rest, hp, hs, hr⟩
    obtain ⟨ix, h1, h2⟩ := perm_idx dAct hp
    have hl : ix.length = ys.length + rest.length := by rw [← List.length_append, h2, List.length_map]
    have e1 : ys = (ix.take ys.length).map fun i => xs.getD i dAct := by
      rw [List.map_take, ← h2, List.take_left]
    have e2 : rest = (ix.drop ys.length).map fun i => xs.getD i dAct := by
      rw [List.map_drop, ← h2, List.drop_left]
    refine ⟨ix.take ys.length, ix.drop ys.length, by rw [List.take_append_drop]; exact h1, by rw [← e1]; exact hs, fun i hi => ?_⟩
    refine hr _ ?_
    rw [e2]
    exact List.mem_map.2 ⟨i, hi, rfl⟩
  · rintro ⟨p, q, h1, h2, h3⟩
    refine ⟨p.map fun i => xs.getD i dAct, q.map fun i => xs.getD i dAct, ?_, h2, fun r hr => ?_⟩
    · rw [← List.map_append]
      have := h1.map fun i => xs.getD i dAct
      rw [map_getD_range] at this
      exact this
    · obtain ⟨i, hi, rfl⟩ := List.mem_map.1 hr
      exact h3 i hi
theorem srch_lin (A : List ActR) : (srch A 0 (-1)).isSome = true ↔ Lin A := by
  rw [lin_idx]
  have hcur : curOf A (-1) = none := by simp [curOf]
  constructor
  · intro h
    obtain ⟨ix, hx⟩ := Option.isSome_iff_exists.1 h
    have hp := (path_iff A ix 0 (-1)).1 (srch_some hx)
    refine ⟨ix, _, nodup_perm_range hp.nodup (fun i hi => (hp.lt i hi).1), by have := hp.seq; rwa [hcur] at this, fun i hi => ?_⟩
    obtain ⟨h1, h2⟩ := List.mem_filter.1 hi
    exact hp.full i (by simpa using h1) (by simp) (by simpa using h2)
  · rintro ⟨p, q, h1, h2, h3⟩
    have hnd : (p ++ q).Nodup := h1.nodup_iff.2 List.nodup_range
    have hok : okPath A p 0 (-1) = true := by
      refine (path_iff A p 0 (-1)).2 ⟨fun i hi => ⟨by simpa using h1.mem_iff.1 (List.mem_append_left _ hi), by simp⟩, (List.nodup_append.1 hnd).1, by rw [hcur]; exact h2, fun i _ j _ hj => (by simp at hj), fun i hi _ hn => ?_⟩
      have : i ∈ p ++ q := h1.mem_iff.2 (by simpa using hi)
      rcases List.mem_append.1 this with h | h
      · exact absurd h hn
      · exact h3 i h
    cases hs : srch A 0 (-1) with
    | some r => rfl
    | none => rw [srch_none hs] at hok; cases hok
theorem whole_iff (xs : List ActR) : wholeR xs = true ↔ checkR xs = 0 ∧ ∀ k ∈ keyList xs, Lin (rowOf xs k) := by
  unfold wholeR
  rw [Bool.and_eq_true, decide_eq_true_eq, List.all_eq_true]
  exact and_congr_right fun _ => forall_congr' fun k => imp_congr_right fun _ => srch_lin _
theorem Lin.perm {xs ys : List ActR} (h : Lin xs) (hp : xs.Perm ys) : Lin ys := by
  obtain ⟨a, b, h1, h2⟩ := h
  exact ⟨a, b, h1.trans hp, h2⟩
/-! a change that keeps what counts -/
structure Keep (g : ActR → ActR) : Prop where
  d : ∀ a, (g a).d = a.d
  val : ∀ a, (g a).val = a.val
  found : ∀ a, (g a).found = a.found
  rval : ∀ a, (g a).rval = a.rval
  sure : ∀ a, sureB (g a) = sureB a
  bef : ∀ a b, beforeB (g a) (g b) = beforeB a b
theorem Keep.seq {g : ActR → ActR} (k : Keep g) : ∀ (cur : Option (List Nat)) (L : List ActR), Seq cur (L.map g) ↔ Seq cur L
  | _, [] => Iff.rfl
  | cur, a :: L => by
    simp only [List.map_cons, Seq]
    have h1 : nextV cur (g a) = nextV cur a := by simp only [nextV, k.d, k.val]
    have h2 : tellsV cur (g a) = tellsV cur a := by cases cur <;> simp only [tellsV, k.found, k.rval]
    rw [h1, h2, k.d, k.seq]
    refine and_congr_right fun _ => and_congr_left fun _ => ?_
    constructor
    · intro h b hb; rw [← k.bef]; exact h _ (List.mem_map.2 ⟨b, hb, rfl⟩)
    · rintro h _ hb; obtain ⟨b, hb2, rfl⟩ := List.mem_map.1 hb; rw [k.bef]; exact h b hb2
theorem Keep.lin {g : ActR → ActR} (k : Keep g) (xs : List ActR) : Lin (xs.map g) ↔ Lin xs := by
  constructor
  · intro h
    rw [lin_idx] at h ⊢
    obtain ⟨p, q, h1, h2, h3⟩ := h
    rw [List.length_map] at h1
    have e : ∀ i, i ∈ p ++ q → (xs.map g).getD i dAct = g (xs.getD i dAct) := fun i hi => by
      have : i < xs.length := by simpa using h1.mem_iff.1 hi
      simp [List.getD_eq_getElem?_getD, this]
    refine ⟨p, q, h1, ?_, fun i hi => ?_⟩
    · rw [← k.seq, List.map_map]
      have : p.map (fun i => (xs.map g).getD i dAct) = p.map (g ∘ fun i => xs.getD i dAct) := List.map_congr_left fun i hi => e i (List.mem_append_left _ hi)
      rw [← this]; exact h2
    · have := h3 i hi
      rw [e i (List.mem_append_right _ hi), k.sure] at this
      exact this
  · rintro ⟨ys, rest, h1, h2, h3⟩
    refine ⟨ys.map g, rest.map g, by rw [← List.map_append]; exact h1.map g, (k.seq _ _).2 h2, fun r hr => ?_⟩
    obtain ⟨a, ha, rfl⟩ := List.mem_map.1 hr
    rw [k.sure]; exact h3 a ha
/-! a get left out -/
theorem seq_less {g : ActR} (hg : g.d = 2) : ∀ (cur : Option (List Nat)) (y1 y2 : List ActR), Seq cur (y1 ++ g :: y2) → Seq cur (y1 ++ y2)
  | cur, [], y2, h => by
    obtain ⟨_, _, h3⟩ := h
    simpa [nextV, hg] using h3
  | cur, a :: y1, y2, h => by
    obtain ⟨h1, h2, h3⟩ := h
    exact ⟨h1, fun b hb => h2 b (by rcases List.mem_append.1 hb with hb | hb; exact List.mem_append_left _ hb; exact List.mem_append_right _ (List.mem_cons_of_mem _ hb)), seq_less hg _ y1 y2 h3⟩
theorem Lin.less {g : ActR} (hg : g.d = 2) {l1 l2 : List ActR} (h : Lin (l1 ++ g :: l2)) : Lin (l1 ++ l2) := by
  obtain ⟨ys, rest, h1, h2, h3⟩ := h
  have hm : g ∈ ys ++ rest := h1.mem_iff.2 (by simp)
  have hp : (l1 ++ g :: l2).Perm (g :: (l1 ++ l2)) := List.perm_middle
  rcases List.mem_append.1 hm with hy | hy
  · obtain ⟨y1, y2, rfl⟩ := List.append_of_mem hy
    refine ⟨y1 ++ y2, rest, ?_, seq_less hg _ _ _ h2, h3⟩
    have : ((y1 ++ g :: y2) ++ rest).Perm (g :: ((y1 ++ y2) ++ rest)) := by
      rw [List.append_assoc, List.cons_append, List.append_assoc]
      exact List.perm_middle
    exact (this.symm.trans (h1.trans hp)).cons_inv
  · obtain ⟨y1, y2, rfl⟩ := List.append_of_mem hy
    refine ⟨ys, y1 ++ y2, ?_, h2, fun r hr => h3 r (by rcases List.mem_append.1 hr with hr | hr; exact List.mem_append_left _ hr; exact List.mem_append_right _ (List.mem_cons_of_mem _ hr))⟩
    have : (ys ++ (y1 ++ g :: y2)).Perm (g :: (ys ++ (y1 ++ y2))) := by
      rw [← List.append_assoc, ← List.append_assoc]
      exact List.perm_middle
    exact (this.symm.trans (h1.trans hp)).cons_inv
/-! an act's time made longer -/
structure Wide (a a' : ActR) : Prop where
  d : a'.d = a.d
  val : a'.val = a.val
  found : a'.found = a.found
  rval : a'.rval = a.rval
  sure : sureB a' = sureB a
  bef1 : ∀ b, beforeB a b = false → beforeB a' b = false
  bef2 : ∀ b, beforeB b a = false → beforeB b a' = false
theorem seq_wide {a a' : ActR} (w : Wide a a') : ∀ (cur : Option (List Nat)) (y1 y2 : List ActR), Seq cur (y1 ++ a :: y2) → Seq cur (y1 ++ a' :: y2)
  | cur, [], y2, h => by
    obtain ⟨h1, h2, h3⟩ := h
    have e1 : nextV cur a' = nextV cur a := by simp only [nextV, w.d, w.val]
    have e2 : tellsV cur a' = tellsV cur a := by cases cur <;> simp only [tellsV, w.found, w.rval]
    exact ⟨by rw [w.d, e2]; exact h1, fun b hb => w.bef2 b (h2 b hb), by rw [e1]; exact h3⟩
  | cur, c :: y1, y2, h => by
    obtain ⟨h1, h2, h3⟩ := h
    refine ⟨h1, fun b hb => ?_, seq_wide w _ y1 y2 h3⟩
    rcases List.mem_append.1 hb with hb | hb
    · exact h2 b (List.mem_append_left _ hb)
    · rcases List.mem_cons.1 hb with rfl | hb
      · exact w.bef1 c (h2 a (List.mem_append_right _ (List.mem_cons_self ..)))
      · exact h2 b (List.mem_append_right _ (List.mem_cons_of_mem _ hb))
theorem Lin.wide {a a' : ActR} (w : Wide a a') {l1 l2 : List ActR} (h : Lin (l1 ++ a :: l2)) : Lin (l1 ++ a' :: l2) := by
  obtain ⟨ys, rest, h1, h2, h3⟩ := h
  have hm : a ∈ ys ++ rest := h1.mem_iff.2 (by simp)
  have hp : (l1 ++ a :: l2).Perm (a :: (l1 ++ l2)) := List.perm_middle
  have hp' : (l1 ++ a' :: l2).Perm (a' :: (l1 ++ l2)) := List.perm_middle
  rcases List.mem_append.1 hm with hy | hy
  · obtain ⟨y1, y2, rfl⟩ := List.append_of_mem hy
    refine ⟨y1 ++ a' :: y2, rest, ?_, seq_wide w _ _ _ h2, h3⟩
    have e : ∀ c : ActR, ((y1 ++ c :: y2) ++ rest).Perm (c :: ((y1 ++ y2) ++ rest)) := fun c => by
      rw [List.append_assoc, List.cons_append, List.append_assoc]
      exact List.perm_middle
    exact ((e a').trans (((e a).symm.trans (h1.trans hp)).cons_inv.cons a')).trans hp'.symm
  · obtain ⟨y1, y2, rfl⟩ := List.append_of_mem hy
    have e : ∀ c : ActR, (ys ++ (y1 ++ c :: y2)).Perm (c :: (ys ++ (y1 ++ y2))) := fun c => by
      rw [← List.append_assoc, ← List.append_assoc]
      exact List.perm_middle
    refine ⟨ys, y1 ++ a' :: y2, ((e a').trans (((e a).symm.trans (h1.trans hp)).cons_inv.cons a')).trans hp'.symm, h2, fun r hr => ?_⟩
    rcases List.mem_append.1 hr with hr | hr
    · exact h3 r (List.mem_append_left _ hr)
    · rcases List.mem_cons.1 hr with rfl | hr
      · rw [w.sure]; exact h3 a (List.mem_append_right _ (List.mem_cons_self ..))
      · exact h3 r (List.mem_append_right _ (List.mem_cons_of_mem _ hr))
/-! one behind the other -/
theorem sorted_perm_eq {α : Type} {R : α → α → Prop} : ∀ {l1 l2 : List α}, l1.Perm l2 → l1.Pairwise R → l2.Pairwise (fun a b => ¬ R b a) → l1 = l2
  | [], l2, h, _, _ => by rw [List.nil_perm.1 h]
  | a :: l1, [], h, _, _ => by have := h.length_eq; simp at this
  | a :: l1, b :: l2, h, h1, h2 => by
    rw [List.pairwise_cons] at h1 h2
    by_cases e : a = b
    · subst e
      rw [sorted_perm_eq h.cons_inv h1.2 h2.2]
    · exfalso
      have ha : a ∈ l2 := by
        have := h.mem_iff.1 (List.mem_cons_self (a := a) (l := l1))
        rcases List.mem_cons.1 this with k | k
        · exact absurd k e
        · exact k
      have hb : b ∈ l1 := by
        have := h.mem_iff.2 (List.mem_cons_self (a := b) (l := l2))
        rcases List.mem_cons.1 this with k | k
        · exact absurd k.symm e
        · exact k
      exact h2.1 a ha (h1.1 b hb)
theorem Seq.late {cur : Option (List Nat)} : ∀ {L : List ActR}, Seq cur L → L.Pairwise (fun a b => ¬ beforeB b a = true)
  | [], _ => List.Pairwise.nil
  | a :: L, ⟨_, h2, h3⟩ => List.pairwise_cons.2 ⟨fun b hb => by rw [h2 b hb]; decide, h3.late⟩
def curEnd : Option (List Nat) → List ActR → Option (List Nat)
  | cur, [] => cur
  | cur, a :: r => curEnd (nextV cur a) r
theorem curEnd_snoc (cur : Option (List Nat)) (L : List ActR) (a : ActR) : curEnd cur (L ++ [a]) = nextV (curEnd cur L) a := by
  induction L generalizing cur with
  | nil => rfl
  | cons b L ih => exact ih _
theorem seq_snoc {L : List ActR} {a : ActR} : ∀ {cur : Option (List Nat)}, Seq cur (L ++ [a]) ↔ Seq cur L ∧ (∀ b ∈ L, beforeB a b = false) ∧ (a.d = 2 → tellsV (curEnd cur L) a = true) := by
  induction L with
  | nil => intro cur; simp [Seq, curEnd]
  | cons b L ih =>
    intro cur
    simp only [List.cons_append, Seq, curEnd]
    rw [ih]
    constructor
    · rintro ⟨h1, h2, h3, h4, h5⟩
      exact ⟨⟨h1, fun c hc => h2 c (List.mem_append_left _ hc), h3⟩, fun c hc => by rcases List.mem_cons.1 hc with rfl | hc; exact h2 a (by simp); exact h4 c hc, h5⟩
    · rintro ⟨⟨h1, h2, h3⟩, h4, h5⟩
      exact ⟨h1, fun c hc => by rcases List.mem_append.1 hc with hc | hc; exact h2 c hc; rw [List.mem_singleton] at hc; subst hc; exact h4 b (by simp), h3, fun c hc => h4 c (by simp [hc]), h5⟩
theorem lin_serial {xs : List ActR} (hs : ∀ a ∈ xs, sureB a = true) (hp : xs.Pairwise (fun a b => beforeB a b = true)) : Lin xs ↔ Seq none xs := by
  constructor
  · rintro ⟨ys, rest, h1, h2, h3⟩
    have hr : rest = [] := by
      cases rest with
      | nil => rfl
      | cons r rest =>
        have := h3 r (by simp)
        rw [hs r (h1.mem_iff.1 (by simp))] at this
        cases this
    subst hr
    rw [List.append_nil] at h1
    rw [sorted_perm_eq h1.symm hp h2.late]
    exact h2
  · intro h
    exact ⟨xs, [], by rw [List.append_nil], h, fun r hr => nomatch hr⟩
end Go.Proofs.Ytnefcbcioemfiaa
