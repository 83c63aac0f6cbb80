/-
  tally: how a tally lies in memory, and what it is turned to by each answer.
-/
import Derived.Test.YtehaijdbmnljnaaUseI
namespace Go.Proofs.Ytehaijdbmnljnaa
open Go.RowKit

/-- what is counted: how many of the first N have said x. -/
def cnt (said : List Int) (N : Nat) (x : Int) : Nat := (said.take N).count x
/-- one answer. -/
def step1 (N : Nat) (x : Int) (said : List Int) (node : Int) : List Int := if 0 ≤ node ∧ node < N ∧ said.getD node.toNat 0 = 0 then said.set node.toNat x else said
def steps (N : Nat) (x : Int) (said : List Int) (l : List Int) : List Int := l.foldl (step1 N x) said
theorem steps_snoc (N : Nat) (x : Int) (said l : List Int) (a : Int) : steps N x said (l ++ [a]) = step1 N x (steps N x said l) a := by simp [steps]
theorem take_snoc (l : List Int) (k : Nat) (h : k < l.length) : l.take (k + 1) = l.take k ++ [l.getD k 0] := by
  rw [List.take_add_one]; simp [List.getElem?_eq_getElem h, List.getD_eq_getElem?_getD]
theorem step1_length (N : Nat) (x : Int) (said : List Int) (a : Int) : (step1 N x said a).length = said.length := by
  unfold step1; split <;> simp
theorem steps_length (N : Nat) (x : Int) : ∀ (l said : List Int), (steps N x said l).length = said.length
  | [], _ => rfl
  | a :: l, said => by
    show (steps N x (step1 N x said a) l).length = _
    rw [steps_length N x l, step1_length]

theorem cnt_set {said : List Int} {N i : Nat} (hi : i < N) (hN : N ≤ said.length) (x y : Int) (hx : x ≠ 0) (h0 : said.getD i 0 = 0) :
    cnt (said.set i x) N y = if y = 0 then cnt said N 0 - 1 else if y = x then cnt said N y + 1 else cnt said N y := by
  unfold cnt
  have hs : (said.set i x).take N = (said.take N).set i x := by rw [List.take_set]
  have hl : i < (said.take N).length := by simp; omega
  have he : (said.take N)[i] = 0 := by
    rw [List.getElem_take]
    simpa [List.getD_eq_getElem?_getD, List.getElem?_eq_getElem (show i < said.length by omega)] using h0
  rw [hs, List.count_set hl, he]
  by_cases hy : y = 0
  · subst hy; simp [hx]
  · by_cases hyx : y = x
    · subst hyx; simp [hx, Ne.symm hx]
    · simp [hy, hyx, Ne.symm hy, Ne.symm hyx]
theorem cnt_pos {said : List Int} {N i : Nat} (hi : i < N) (hN : N ≤ said.length) (h0 : said.getD i 0 = 0) : 1 ≤ cnt said N 0 := by
  unfold cnt
  rw [Nat.one_le_iff_ne_zero, Ne, List.count_eq_zero]
  intro h
  apply h
  have he : (said.take N)[i]'(by simp; omega) = 0 := by
    rw [List.getElem_take]
    simpa [List.getD_eq_getElem?_getD, List.getElem?_eq_getElem (show i < said.length by omega)] using h0
  exact he ▸ List.getElem_mem _
theorem cnt_le (said : List Int) (N : Nat) (x : Int) : cnt said N x ≤ N := by
  unfold cnt
  exact Nat.le_trans List.count_le_length (by simp; omega)

/-- block b is a tally. -/
structure TallyV (w : World) (b : Nat) (need : Int) (said : List Int) (N : Nat) (c0 c1 c2 : Int) : Prop where
  ex : ∃ cur : Array Value, w.heap[b]? = some (.cells cur 47 (0, 0)) ∧ cur.size = 13 ∧ cur[0]? = some (.int .i64 need) ∧ (∀ i, i < 8 → cur[1 + i]? = some (.int .i64 (said.getD i 0))) ∧ cur[9]? = some (.int .i64 N) ∧
    cur[10]? = some (.int .i64 c0) ∧ cur[11]? = some (.int .i64 c1) ∧ cur[12]? = some (.int .i64 c2)
structure TallyI (w : World) (b : Nat) (need : Int) (said : List Int) (N : Nat) : Prop where
  v : TallyV w b need said N (cnt said N 0) (cnt said N 1) (cnt said N 2)
  len : said.length = 8
  le : N ≤ 8
section
variable {w w' : World} {b N : Nat} {need c0 c1 c2 : Int} {said : List Int}
theorem TallyV.cells (h : TallyV w b need said N c0 c1 c2) : w.cell? ⟨b, 0, none⟩ = some (.int .i64 need) ∧ (∀ i, i < 8 → w.cell? ⟨b, 1 + i, none⟩ = some (.int .i64 (said.getD i 0))) ∧ w.cell? ⟨b, 9, none⟩ = some (.int .i64 N) ∧
    w.cell? ⟨b, 10, none⟩ = some (.int .i64 c0) ∧ w.cell? ⟨b, 11, none⟩ = some (.int .i64 c1) ∧ w.cell? ⟨b, 12, none⟩ = some (.int .i64 c2) ∧ ∀ j, w.frozen? ⟨b, j, none⟩ = false := by
  obtain ⟨cur, hg, _, h0, h1, h2, h3, h4, h5⟩ := h.ex
  exact ⟨(cell_of_row _ _ _ _ _ _ hg).trans h0, fun i hi => (cell_of_row _ _ _ _ _ _ hg).trans (h1 i hi), (cell_of_row _ _ _ _ _ _ hg).trans h2, (cell_of_row _ _ _ _ _ _ hg).trans h3, (cell_of_row _ _ _ _ _ _ hg).trans h4, (cell_of_row _ _ _ _ _ _ hg).trans h5, fun j => frozen_of_row _ _ _ _ _ hg⟩
theorem TallyV.of_heap (h : TallyV w b need said N c0 c1 c2) (hw : w'.heap[b]? = w.heap[b]?) : TallyV w' b need said N c0 c1 c2 := by
  obtain ⟨cur, hg, r⟩ := h.ex
  exact ⟨cur, hw.trans hg, r⟩
theorem TallyV.lt (h : TallyV w b need said N c0 c1 c2) : b < w.heap.size := by
  obtain ⟨cur, hg, _⟩ := h.ex
  exact (Array.getElem?_eq_some_iff.1 hg).1
theorem TallyI.of_heap (h : TallyI w b need said N) (hw : w'.heap[b]? = w.heap[b]?) : TallyI w' b need said N := ⟨h.v.of_heap hw, h.len, h.le⟩
theorem TallyI.below (h : TallyI w b need said N) (hb : Below w.heap.size w w') : TallyI w' b need said N := h.of_heap (hb.block b h.v.lt)
theorem TallyI.other (h : TallyI w b need said N) {b' : Nat} (hg : w.grownBy w' (some b')) (hne : b ≠ b') : TallyI w' b need said N := h.of_heap (hg.block b h.v.lt (by simpa using hne))
theorem TallyV.setSaid (h : TallyV w b need said N c0 c1 c2) {i : Nat} (hi : i < 8) (hl : said.length = 8) (x : Int) : TallyV (w.setCell ⟨b, 1 + i, none⟩ (.int .i64 x)) b need (said.set i x) N c0 c1 c2 := by
  obtain ⟨cur, hg, hs, h0, h1, h2, h3, h4, h5⟩ := h.ex
  refine ⟨_, heap_setCell_same w b (1 + i) cur _ _ hg, by simp [hs], ?_, fun j hj => ?_, ?_, ?_, ?_, ?_⟩
  · rw [Array.getElem?_setIfInBounds, if_neg (by omega)]; exact h0
  · by_cases e : j = i
    · subst e; rw [Array.getElem?_setIfInBounds, if_pos rfl, if_pos (by omega)]; simp [List.getD_eq_getElem?_getD, hl, hj]
    · rw [Array.getElem?_setIfInBounds, if_neg (by omega), h1 j hj]
      simp [List.getD_eq_getElem?_getD, Ne.symm e]
  · rw [Array.getElem?_setIfInBounds, if_neg (by omega)]; exact h2
  · rw [Array.getElem?_setIfInBounds, if_neg (by omega)]; exact h3
  · rw [Array.getElem?_setIfInBounds, if_neg (by omega)]; exact h4
  · rw [Array.getElem?_setIfInBounds, if_neg (by omega)]; exact h5
theorem TallyV.setCount (h : TallyV w b need said N c0 c1 c2) {j : Nat} (hj : j < 3) (x : Int) : TallyV (w.setCell ⟨b, 10 + j, none⟩ (.int .i64 x)) b need said N (if j = 0 then x else c0) (if j = 1 then x else c1) (if j = 2 then x else c2) := by
  obtain ⟨cur, hg, hs, h0, h1, h2, h3, h4, h5⟩ := h.ex
  refine ⟨_, heap_setCell_same w b (10 + j) cur _ _ hg, by simp [hs], ?_, fun i hi => ?_, ?_, ?_, ?_, ?_⟩
  · rw [Array.getElem?_setIfInBounds, if_neg (by omega)]; exact h0
  · rw [Array.getElem?_setIfInBounds, if_neg (by omega)]; exact h1 i hi
  · rw [Array.getElem?_setIfInBounds, if_neg (by omega)]; exact h2
  · split
    · rename_i e; subst e; simp [hs]
    · rw [Array.getElem?_setIfInBounds, if_neg (by omega)]; exact h3
  · split
    · rename_i e; subst e; simp [hs]
    · rw [Array.getElem?_setIfInBounds, if_neg (by omega)]; exact h4
  · split
    · rename_i e; subst e; simp [hs]
    · rw [Array.getElem?_setIfInBounds, if_neg (by omega)]; exact h5
theorem TallyV.drew (h : TallyV w b need said N c0 c1 c2) : TallyV w.drew b need said N c0 c1 c2 := h.of_heap rfl
end

theorem grownBy_setCell (w : World) (a : Addr) (u : Value) : w.grownBy (w.setCell a u) (some a.block) :=
  ⟨rfl, rfl, rfl, by simp, fun k _ hk => heap_setCell_other w a k u (fun e => hk (by rw [e]))⟩
theorem grownBy_drew {w w' : World} {r : Option Nat} (h : w.grownBy w' r) : w.grownBy w'.drew r := ⟨h.os, h.tape, h.output, h.size, h.block⟩
theorem grownBy_drewN {w w' : World} {r : Option Nat} (h : w.grownBy w' r) : ∀ n, w.grownBy (w'.drewN n) r
  | 0 => h
  | n + 1 => grownBy_drew (grownBy_drewN h n)
theorem IntsV.grown {w w' : World} {x : Option Addr × Nat × Nat} {l : List Int} {b : Nat} (h : IntsV w x l) (hg : w.grownBy w' (some b)) (hne : ∀ a, x.1 = some a → a.block ≠ b) : IntsV w' x l := ⟨h.row.kept' fun hl _ ha => hg.block _ (h.row.lt hl ha) (by have := hne _ ha; simpa using this), h.small, h.cap, h.nil⟩
end Go.Proofs.Ytehaijdbmnljnaa
