/-
  place: the numbers from 0 on; symbols dealt in turn, as lists and in memory.
-/
import Derived.Test.YtfjcbgfgiidogaaDoorMCi1
import Derived.Test.YtfjcbgfgiidogaaDoorMChO
namespace Go.Proofs.YtfjcbgfgiidogaaDoor
open Go.RowKit

theorem OwnS.keepT {w w' : World} {B : Nat} {a : Option Addr} {n c : Nat} {ss : List Sy} {row : Option Nat} (h : OwnS w B a n c ss) (hg : w.grownBy w' row) (hr : ∀ k, row = some k → ∃ cs T fr, w.heap[k]? = some (.cells cs T fr) ∧ T ≠ ST3 ∧ T ≠ 5) : OwnS w' B a n c ss := by
  obtain ⟨h1, xs, h2, h3, h4⟩ := h
  have key : ∀ {T : TypeId} {s : Nat} {v : Value} {m : Nat} {ys : List Value}, T = ST3 ∨ T = 5 → w.ownsRow B T s v m ys → v.ownBlock = none ∨ v.ownBlock ≠ row := fun {T s v m ys} hT ho => by
    cases hk : v.ownBlock with
    | none => exact .inl rfl
    | some q =>
      right
      intro e
      obtain ⟨cs, T', fr, hh, k1, k2⟩ := hr q e.symm
      rcases ho.2 with ⟨rfl, _⟩ | ⟨g', cap', cur, rfl, _, hh2, _⟩
      · cases hk
      · simp [Value.ownBlock] at hk
        subst hk
        rw [hh2] at hh
        injection hh with hh
        injection hh with _ ht
        rcases hT with e | e
        · exact k1 (by rw [← ht, e])
        · exact k2 (by rw [← ht, e])
  exact ⟨h1, xs, h2, h3.kept hg (key (.inl rfl) h3), fun i x p a b => by
    obtain ⟨q0, q1, q2, q3, q4, q5⟩ := h4 i x p a b
    exact ⟨q0, q1, q2, q3.kept hg (key (.inr rfl) q3), q4, q5⟩⟩
abbrev YT : TypeId := 37
theorem own_rowY {w : World} {B : Nat} {v : Value} {n : Nat} {xs : List Value} (h : w.ownsRow B YT 1 v n xs) : ∀ k, v.ownBlock = some k → ∃ cs T fr, w.heap[k]? = some (.cells cs T fr) ∧ T ≠ ST3 ∧ T ≠ 5 := fun k hk => by
  rcases h.2 with ⟨rfl, _⟩ | ⟨g, cap, cur, rfl, _, hh, _⟩
  · cases hk
  · simp [Value.ownBlock] at hk
    subst hk
    exact ⟨_, _, _, hh, by decide, by decide⟩
/-- rows of symbols, apart from each other, in a row of the call's own. -/
def OwnY (w : World) (B g n c : Nat) (hs : List HdT) (qs : List (List Sy)) : Prop :=
  qs.length = n ∧ w.ownsRow B YT 1 (.slice (some ⟨g, 0, none⟩) n c) n (hs.map SV) ∧ hs.length = n ∧ (∀ (i : Nat) x q, hs[i]? = some x → qs[i]? = some q → OwnS w B x.1 x.2.1 x.2.2 q) ∧
  ∀ (i j : Nat) x y, hs[i]? = some x → hs[j]? = some y → i ≠ j → (SV x).ownBlock = none ∨ (SV x).ownBlock ≠ (SV y).ownBlock
theorem OwnY.below {w w' : World} {B g n c : Nat} {hs : List HdT} {qs : List (List Sy)} (h : OwnY w B g n c hs qs) (hb : Below w.heap.size w w') : OwnY w' B g n c hs qs := by
  obtain ⟨h1, h2, h3, h4, h5⟩ := h
  exact ⟨h1, h2.kept (grownBy_of_below hb none) (by simp [Value.ownBlock]), h3, fun i x q a b => (h4 i x q a b).below hb, h5⟩
theorem OwnY.made {w : World} {B g n : Nat} (h : w.ownsRow B YT 1 (.slice (some ⟨g, 0, none⟩) n n) n (List.replicate n NilS)) : OwnY w B g n n (List.replicate n (none, 0, 0)) (List.replicate n []) := by
  refine ⟨by simp, by rw [List.map_replicate]; exact h, by simp, fun i x q a b => ?_, fun i j x y a b _ => ?_⟩
  · rw [List.getElem?_replicate] at a b
    by_cases hi : i < n
    · rw [if_pos hi] at a b
      injection a with a
      injection b with b
      subst a b
      exact .nil _ _
    · rw [if_neg hi] at a
      cases a
  · rw [List.getElem?_replicate] at a
    by_cases hi : i < n
    · rw [if_pos hi] at a
      injection a with a
      subst a
      exact .inl rfl
    · rw [if_neg hi] at a
      cases a
theorem OwnY.push {w w' : World} {B g n c i g1 cap : Nat} {hs : List HdT} {qs : List (List Sy)} {x y : HdT} {ps : List Sy} {xs : List SH} {z e : Int} {l : List Nat} (h : OwnY w B g n c hs qs) (hx : hs[i]? = some x) (hq : qs[i]? = some ps)
    (h2 : xs.length = x.2.1) (h1 : ps.length = x.2.1) (h3 : w.ownsRow B ST3 3 (.slice x.1 x.2.1 x.2.2) x.2.1 (scells xs))
    (h4 : ∀ (i : Nat) x p, xs[i]? = some x → ps[i]? = some p → x.1 = p.1 ∧ x.2.1 = p.2.1 ∧ x.2.2.2.1 = p.2.2.length ∧ w.ownsRow B 5 1 (SV x.2.2) p.2.2.length (p.2.2.map bv) ∧ Bytes p.2.2 ∧ p.2.2.length ≤ 140737488355328)
    (hy : w.ownsRow B 5 1 (SV y) l.length (l.map bv)) (hyl : y.2.1 = l.length) (hl : Bytes l ∧ l.length ≤ 140737488355328)
    (hE : w'.ownsRow B ST3 3 (.slice (some ⟨g1, 0, none⟩) (x.2.1 + 1) cap) (x.2.1 + 1) (scells xs ++ [.int .i64 z, .int .i64 e, SV y])) (hg : w.grownBy w' (Value.slice x.1 x.2.1 x.2.2).ownBlock) (hlie : (Value.slice x.1 x.2.1 x.2.2).ownBlock = some g1 ∨ g1 = w.heap.size) :
    OwnY (w'.setCell ⟨g, i, none⟩ (.slice (some ⟨g1, 0, none⟩) (x.2.1 + 1) cap)) B g n c (hs.set i (some ⟨g1, 0, none⟩, x.2.1 + 1, cap)) (qs.set i (ps ++ [(z, e, l)])) := by
  obtain ⟨k0, k1, k2, k3, k5⟩ := h
  have hnew := sy_append h2 h1 h3 h4 hy hyl hl hE hg
  have k1' := k1.kept hg (own_ne k1 h3 (by decide))
  have kset := own_set' k1' i (.slice (some ⟨g1, 0, none⟩) (x.2.1 + 1) cap)
  have hmap : (hs.map SV).set i (.slice (some ⟨g1, 0, none⟩) (x.2.1 + 1) cap) = (hs.set i (some ⟨g1, 0, none⟩, x.2.1 + 1, cap)).map SV := by rw [List.map_set]; rfl
  rw [hmap] at kset
  have hgs := grown_set4 w' g i (.slice (some ⟨g1, 0, none⟩) (x.2.1 + 1) cap)
  have hrow : ∀ k, (some g : Option Nat) = some k → ∃ cs T fr, w'.heap[k]? = some (.cells cs T fr) ∧ T ≠ ST3 ∧ T ≠ 5 := fun k hk => own_rowY k1' k (by injection hk with hk; subst hk; rfl)
  have hlt : ∀ (j : Nat) (y : HdT) (qj : List Sy), hs[j]? = some y → qs[j]? = some qj → ∀ q, (SV y).ownBlock = some q → q < w.heap.size := fun j y qj a b q hq' => by
    obtain ⟨-, _, -, ho, -⟩ := k3 j y qj a b
    exact (ho.lt q hq').2
  have keep : ∀ (j : Nat) (y : HdT) (qj : List Sy), i ≠ j → hs[j]? = some y → qs[j]? = some qj → OwnS w' B y.1 y.2.1 y.2.2 qj := fun j y qj hne a b => by
    obtain ⟨m1, ys, m2, m3, m4⟩ := k3 j y qj a b
    refine ⟨m1, ys, m2, m3.kept hg ?_, fun r u p a' b' => ?_⟩
    · have := k5 j i y x a hx (Ne.symm hne)
      exact this
    · obtain ⟨q0, q1, q2, q3, q4, q5⟩ := m4 r u p a' b'
      exact ⟨q0, q1, q2, q3.kept hg (own_ne q3 h3 (by decide)), q4, q5⟩
  have hxb : ∀ q, (SV x).ownBlock = some q → q < w.heap.size := hlt i x ps hx hq
  refine ⟨by rw [List.length_set]; exact k0, kset, by rw [List.length_set]; exact k2, fun j y m a b => ?_, fun j1 j2 y1 y2 a b hne => ?_⟩
  · rw [List.getElem?_set] at a b
    by_cases ei : i = j
    · rw [if_pos ei] at a b
      split at a
      · split at b
        · injection a with a
          injection b with b
          subst a b
          exact hnew.keepT hgs hrow
        · cases b
      · cases a
    · rw [if_neg ei] at a b
      exact (keep j y m ei a b).keepT hgs hrow
  · rw [List.getElem?_set] at a b
    by_cases e1 : i = j1
    · rw [if_pos e1] at a
      rw [if_neg (by omega)] at b
      split at a
      · injection a with a
        subst a
        right
        intro e
        have hb2 : (SV y2).ownBlock = some g1 := e.symm.trans rfl
        obtain ⟨q2, hq2⟩ : ∃ q, qs[j2]? = some q := ⟨_, List.getElem?_eq_getElem (by have := (List.getElem?_eq_some_iff.1 b).1; omega)⟩
        rcases hlie with h | h
        · rcases k5 j2 i y2 x b hx (by omega) with h' | h'
          · rw [hb2] at h'; cases h'
          · exact h' (hb2.trans h.symm)
        · have := hlt j2 y2 q2 b hq2 g1 hb2
          omega
      · cases a
    · rw [if_neg e1] at a
      by_cases e2 : i = j2
      · rw [if_pos e2] at b
        split at b
        · injection b with b
          subst b
          obtain ⟨q1, hq1⟩ : ∃ q, qs[j1]? = some q := ⟨_, List.getElem?_eq_getElem (by have := (List.getElem?_eq_some_iff.1 a).1; omega)⟩
          cases hb1 : (SV y1).ownBlock with
          | none => exact .inl rfl
          | some q =>
            right
            intro e
            have hq : q = g1 := by simpa [SV, Value.ownBlock] using e
            subst hq
            rcases hlie with h | h
            · rcases k5 j1 i y1 x a hx (by omega) with h' | h'
              · rw [hb1] at h'; cases h'
              · exact h' (hb1.trans h.symm)
            · have := hlt j1 y1 q1 a hq1 q hb1
              omega
        · cases b
      · rw [if_neg e2] at b
        exact k5 j1 j2 y1 y2 a b hne
/-! the lists -/
theorem turn_filter (N m : Nat) (hm : m < N) : ∀ q, ((List.range (q * N)).filter fun e => decide (e % N = m)) = (List.range q).map fun j => m + N * j
  | 0 => by simp
  | q + 1 => by
    have h1 : List.range ((q + 1) * N) = List.range (q * N) ++ (List.range N).map (fun x => q * N + x) := by
      rw [Nat.add_mul, Nat.one_mul, List.range_add]
    rw [h1, List.filter_append, turn_filter N m hm q, List.range_succ, List.map_append]
    congr 1
    rw [List.filter_map]
    have h2 : (List.range N).filter ((fun e => decide (e % N = m)) ∘ fun x => q * N + x) = [m] := by
      have : (List.range N).filter ((fun e => decide (e % N = m)) ∘ fun x => q * N + x) = (List.range N).filter (fun x => decide (x = m)) := by
        apply List.filter_congr
        intro x hx
        have hx := List.mem_range.1 hx
        have hx2 : (q * N + x) % N = x := by rw [Nat.add_comm, Nat.add_mul_mod_self_right, Nat.mod_eq_of_lt hx]
        simp only [Function.comp, hx2]
      rw [this]
      clear this h1
      induction N with
      | zero => omega
      | succ N ih =>
        rw [List.range_succ, List.filter_append]
        by_cases e : m = N
        · subst e
          have : (List.range m).filter (fun x => decide (x = m)) = [] := by
            rw [List.filter_eq_nil_iff]
            intro x hx
            have := List.mem_range.1 hx
            simp; omega
          rw [this]; simp
        · rw [ih (by omega)]
          simp
          omega
    rw [h2]
    simp [Nat.mul_comm, Nat.add_comm]
/-- of the first e symbols of a block, those of node m. -/
def dturn (v : List Nat) (T N i m e : Nat) : List Sy := ((List.range e).filter fun x => decide (x % N = m)).map fun (x : Nat) => gen v T i (x : Int)
theorem dturn_succ (v : List Nat) (T N i m e : Nat) : dturn v T N i m (e + 1) = dturn v T N i m e ++ (if e % N = m then [gen v T i (e : Int)] else []) := by
  unfold dturn
  rw [List.range_succ, List.filter_append, List.map_append]
  congr 1
  by_cases h : e % N = m
  · rw [if_pos h]; simp [h]
  · rw [if_neg h]; simp [h]
/-- a node's share of a block. -/
def shareL (v : List Nat) (T N i m q : Nat) : List Sy := (List.range q).map fun j => gen v T i (((m + N * j : Nat) : Nat) : Int)
theorem dturn_end {v : List Nat} {T N i m q : Nat} (hm : m < N) : dturn v T N i m (q * N) = shareL v T N i m q := by
  unfold dturn shareL
  rw [turn_filter N m hm q, List.map_map]
  rfl
/-- what node m has of the first i blocks. -/
def dealTo (v : List Nat) (T N : Nat) (sh : Nat → Nat) (m : Nat) : Nat → List Sy
  | 0 => []
  | i + 1 => dealTo v T N sh m i ++ shareL v T N i m (sh i)
def dealQ (v : List Nat) (T N : Nat) (sh : Nat → Nat) (i e : Nat) : List (List Sy) := (List.range N).map fun m => dealTo v T N sh m i ++ dturn v T N i m e
theorem dealQ_at {v : List Nat} {T N : Nat} {sh : Nat → Nat} {i e m : Nat} (h : m < N) : (dealQ v T N sh i e)[m]? = some (dealTo v T N sh m i ++ dturn v T N i m e) := by
  unfold dealQ; rw [List.getElem?_map, List.getElem?_range h]; rfl
theorem dealQ_step {v : List Nat} {T N : Nat} {sh : Nat → Nat} {i e : Nat} (hN : 0 < N) : (dealQ v T N sh i e).set (e % N) ((dealTo v T N sh (e % N) i ++ dturn v T N i (e % N) e) ++ [gen v T i (e : Int)]) = dealQ v T N sh i (e + 1) := by
  have hm : e % N < N := Nat.mod_lt _ hN
  apply List.ext_getElem?
  intro m
  rw [List.getElem?_set]
  by_cases h : m < N
  · rw [dealQ_at h, dealQ_at h, dturn_succ]
    by_cases e1 : e % N = m
    · subst e1
      rw [if_pos rfl, if_pos (by unfold dealQ; simpa using hm), if_pos rfl, List.append_assoc]
    · rw [if_neg e1, if_neg e1, List.append_nil]
  · rw [if_neg (by omega), List.getElem?_eq_none (by unfold dealQ; simp; omega), List.getElem?_eq_none (by unfold dealQ; simp; omega)]
theorem dealQ_end {v : List Nat} {T N : Nat} {sh : Nat → Nat} {i : Nat} : dealQ v T N sh i (sh i * N) = dealQ v T N sh (i + 1) 0 := by
  apply List.ext_getElem?
  intro m
  by_cases h : m < N
  · rw [dealQ_at h, dealQ_at h, dturn_end h]
    simp [dealTo, dturn]
  · rw [List.getElem?_eq_none (by unfold dealQ; simp; omega), List.getElem?_eq_none (by unfold dealQ; simp; omega)]
theorem dealQ_start (v : List Nat) (T N : Nat) (sh : Nat → Nat) : dealQ v T N sh 0 0 = List.replicate N [] := by
  apply List.ext_getElem?
  intro m
  rw [List.getElem?_replicate]
  by_cases h : m < N
  · rw [dealQ_at h, if_pos h]; rfl
  · rw [List.getElem?_eq_none (by unfold dealQ; simp; omega), if_neg h]
theorem dealQ_length (v : List Nat) (T N : Nat) (sh : Nat → Nat) (i e : Nat) : (dealQ v T N sh i e).length = N := by simp [dealQ]
end Go.Proofs.YtfjcbgfgiidogaaDoor
