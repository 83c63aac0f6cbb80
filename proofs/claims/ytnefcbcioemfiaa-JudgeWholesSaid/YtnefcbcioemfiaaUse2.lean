/-
  The plain helpers of the references: bytes with marks behind them; copies and comparisons of lists of bytes.
-/
import Derived.Test.YtnefcbcioemfiaaUse
namespace Go.Proofs.Ytnefcbcioemfiaa
open Go.RowKit

theorem Try.info39 : (Try.prog.info? 39).map (fun i => (i.zero, i.size, i.bytes)) = some (some (.slice none 0 0), 1, 24) := by kernel_rfl

theorem grow_step {w wr w1 : World} {e : TypeId} {size : Nat} {v : Value} {n : Nat} {xs : List Value} (hb : Below w.heap.size w wr) (o : Obj) (hown : wr.ownsRow w.heap.size e size v n xs) (hg : (wr.alloc o).grownBy w1 v.ownBlock) : Below w.heap.size w w1 :=
  below_grown (hb.alloc hb.size o) hg (ownBlock_ge hown)

def marks (k : Nat) : List Nat := (List.range k).map (201 + ·)
theorem marks_step (k : Nat) : marks (k + 1) = marks k ++ [201 + k] := by simp [marks, List.range_succ]
theorem marks_length (k : Nat) : (marks k).length = k := by simp [marks]
def spareB (l : List Nat) : List Nat := l ++ marks 8
theorem spareB_length (l : List Nat) : (spareB l).length = l.length + 8 := by simp [spareB, marks_length]
theorem spareB_bytes {l : List Nat} (h : Bytes l) : Bytes (spareB l) := by
  intro x hx
  simp only [spareB, List.mem_append] at hx
  rcases hx with hx | hx
  · exact h x hx
  · simp [marks] at hx; obtain ⟨y, hy, rfl⟩ := hx; omega

def OwnsRows (w : World) (base : Nat) (T : TypeId) (hs : List (Option Addr × Nat × Nat)) (ls : List (List Nat)) : Prop :=
  hs.length = ls.length ∧ ∀ (i : Nat) x l, hs[i]? = some x → ls[i]? = some l → x.2.1 = l.length ∧ w.ownsRow base T 1 (SV x) l.length (l.map bv)
theorem own_ne {w : World} {b b' : Nat} {e e' : TypeId} {s s' : Nat} {v v' : Value} {n n' : Nat} {xs xs' : List Value} (h : w.ownsRow b e s v n xs) (h' : w.ownsRow b' e' s' v' n' xs') (hne : e ≠ e') : v.ownBlock = none ∨ v.ownBlock ≠ v'.ownBlock := by
  rcases h.2 with ⟨rfl, _⟩ | ⟨g, cap, cur, rfl, _, hg, _⟩
  · exact .inl rfl
  · right
    rcases h'.2 with ⟨rfl, _⟩ | ⟨g', cap', cur', rfl, _, hg', _⟩
    · simp [Value.ownBlock]
    · intro e
      simp [Value.ownBlock] at e
      subst e
      rw [hg] at hg'
      simp at hg'
      exact hne hg'.2
theorem OwnsRows.kept {w w' : World} {base : Nat} {T : TypeId} {hs : List (Option Addr × Nat × Nat)} {ls : List (List Nat)} {row : Option Nat} (h : OwnsRows w base T hs ls) (hg : w.grownBy w' row)
    (hne : ∀ (i : Nat) x l, hs[i]? = some x → ls[i]? = some l → (SV x).ownBlock = none ∨ (SV x).ownBlock ≠ row) : OwnsRows w' base T hs ls :=
  ⟨h.1, fun i x l h1 h2 => ⟨(h.2 i x l h1 h2).1, (h.2 i x l h1 h2).2.kept hg (hne i x l h1 h2)⟩⟩
theorem OwnsRows.below {w w' : World} {base : Nat} {T : TypeId} {hs : List (Option Addr × Nat × Nat)} {ls : List (List Nat)} (h : OwnsRows w base T hs ls) (hb : Below w.heap.size w w') : OwnsRows w' base T hs ls :=
  h.kept (grownBy_of_below hb none) (fun i x l _ _ => by cases e : (SV x).ownBlock with | none => exact .inl rfl | some g => exact .inr (by simp))
theorem OwnsRows.snoc {w : World} {base : Nat} {T : TypeId} {hs : List (Option Addr × Nat × Nat)} {ls : List (List Nat)} (h : OwnsRows w base T hs ls) {x : Option Addr × Nat × Nat} {l : List Nat} (hx : x.2.1 = l.length) (ho : w.ownsRow base T 1 (SV x) l.length (l.map bv)) : OwnsRows w base T (hs ++ [x]) (ls ++ [l]) := by
  refine ⟨by simp [h.1], fun i y m h1 h2 => ?_⟩
  by_cases hi : i < hs.length
  · rw [List.getElem?_append_left hi] at h1
    rw [List.getElem?_append_left (by rw [← h.1]; exact hi)] at h2
    exact h.2 i y m h1 h2
  · rw [List.getElem?_append_right (by omega)] at h1
    rw [List.getElem?_append_right (by rw [← h.1]; omega)] at h2
    rw [← h.1] at h2
    have hi0 : i - hs.length = 0 := by
      have := (List.getElem?_eq_some_iff.1 h1).1
      simp at this
      omega
    rw [hi0] at h1 h2
    simp at h1 h2
    subst h1 h2
    exact ⟨hx, ho⟩
theorem OwnsRows.rowsV {w : World} {base : Nat} {T : TypeId} {hs : List (Option Addr × Nat × Nat)} {ls : List (List Nat)} (h : OwnsRows w base T hs ls) (hb : ∀ l ∈ ls, Bytes l ∧ l.length ≤ 140737488355328) : RowsV w hs ls := by
  refine ⟨h.1, fun i x l h1 h2 => ?_⟩
  obtain ⟨e, ho⟩ := h.2 i x l h1 h2
  obtain ⟨ad, n, c⟩ := x
  simp only at e
  subst e
  have hm : l ∈ ls := List.mem_of_getElem? h2
  exact bytesV_of_owns ho (hb l hm).1 (hb l hm).2
theorem SV_one (hs : List (Option Addr × Nat × Nat)) : ∀ u ∈ hs.map SV, u.oneCell' = true := by
  intro u hu
  simp only [List.mem_map] at hu
  obtain ⟨x, _, rfl⟩ := hu
  rfl
/-- What a call answers that makes a list of lists of bytes of its own. -/
def GivesRows (T E : TypeId) (w0 : World) (ls : List (List Nat)) (e : Ending) (w' : World) : Prop :=
  ∃ ad cap hs, e = .returned (.slice ad ls.length cap) ∧ w'.ownsRow w0.heap.size T 1 (.slice ad ls.length cap) ls.length (hs.map SV) ∧ OwnsRows w' w0.heap.size E hs ls ∧ Below w0.heap.size w0 w'

theorem RowsV.mem {w : World} {hs : List (Option Addr × Nat × Nat)} {ls : List (List Nat)} (h : RowsV w hs ls) : ∀ l ∈ ls, Bytes l ∧ l.length ≤ 140737488355328 := by
  intro l hl
  obtain ⟨i, hi, rfl⟩ := List.mem_iff_getElem.1 hl
  have hi' : i < hs.length := by rw [h.1]; exact hi
  have := h.2 i hs[i] ls[i] (List.getElem?_eq_getElem hi') (List.getElem?_eq_getElem hi)
  exact ⟨this.bytes, by have := this.length; have := this.symm; have := ‹BytesV w hs[i] ls[i]›.small; omega⟩
theorem take_step {α : Type} (ls : List α) (k : Nat) (x : α) (h : ls[k]? = some x) : ls.take (k + 1) = ls.take k ++ [x] := by
  have hk := (List.getElem?_eq_some_iff.1 h).1
  rw [List.take_succ_eq_append_getElem hk, (List.getElem?_eq_some_iff.1 h).2]

theorem BytesV.drewN {w : World} {x : Option Addr × Nat × Nat} {l : List Nat} (h : BytesV w x l) (m : Nat) : BytesV (w.drewN m) x l := h.below (below_drewN (Below.refl _ _) _)

end Go.Proofs.Ytnefcbcioemfiaa
