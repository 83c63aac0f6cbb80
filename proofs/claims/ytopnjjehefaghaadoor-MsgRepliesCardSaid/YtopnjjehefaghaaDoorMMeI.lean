/-
  meta: Later.
-/
import Derived.Test.YtopnjjehefaghaaDoorMMeH
namespace Go.Proofs.YtopnjjehefaghaaDoor
open Go.RowKit

/-- a slice of tags. -/
structure TagsV (w : World) (ad : Option Addr) (n c : Nat) (L : Nat → Int × Int) : Prop where
  small : n ≤ maxLen
  cap : n ≤ c
  capm : c ≤ maxLen
  row : 0 < n → ∃ b o, ad = some ⟨b, o, none⟩ ∧ b < w.heap.size ∧ ∀ i, i < n → w.cell? ⟨b, o + i * 2, none⟩ = some (.int .i64 (L i).1) ∧ w.cell? ⟨b, o + i * 2 + 1, none⟩ = some (.int .i64 (L i).2)
theorem TagsV.below {w w' : World} {ad : Option Addr} {n c : Nat} {L : Nat → Int × Int} (h : TagsV w ad n c L) (hb : Below w.heap.size w w') : TagsV w' ad n c L :=
  ⟨h.small, h.cap, h.capm, fun h0 => by
    obtain ⟨b, o, e, hlt, hc⟩ := h.row h0
    refine ⟨b, o, e, Nat.lt_of_lt_of_le hlt hb.size, fun i hi => ?_⟩
    obtain ⟨c1, c2⟩ := hc i hi
    exact ⟨(hb.cell hlt).trans c1, (hb.cell hlt).trans c2⟩⟩
/-- the latest of the first k. -/
def latest (L : Nat → Int × Int) : Nat → Int × Int
  | 0 => (0, 0)
  | k + 1 => if k = 0 ∨ lt (latest L k) (L k) then L k else latest L k

theorem cells2M {w : World} {b : Nat} {v0 v1 : Value} {T : TypeId} (h : w.heap[b]? = some (.cells #[v0, v1] T (0, 0))) : w.cell? ⟨b, 0, none⟩ = some v0 ∧ w.cell? ⟨b, 1, none⟩ = some v1 ∧ ∀ j, w.frozen? ⟨b, j, none⟩ = false :=
  ⟨cell_of_row _ _ 0 _ _ _ h, cell_of_row _ _ 1 _ _ _ h, fun _ => frozen_of_row _ _ _ _ _ h⟩
def set2 (w : World) (g : Nat) (v0 v1 : Value) : World := (w.setCell ⟨g, 0, none⟩ v0).setCell ⟨g, 1, none⟩ v1
theorem set2_same {w : World} {g : Nat} {T : TypeId} {z0 z1 : Value} (v0 v1 : Value) (h : w.heap[g]? = some (.cells #[z0, z1] T (0, 0))) : (set2 w g v0 v1).heap[g]? = some (.cells #[v0, v1] T (0, 0)) :=
  heap_setCell_same _ _ 1 _ _ _ (heap_setCell_same _ _ 0 _ _ _ h)
theorem set2_other {w : World} {g k : Nat} (v0 v1 : Value) (h : k ≠ g) : (set2 w g v0 v1).heap[k]? = w.heap[k]? :=
  (heap_setCell_other _ ⟨g, 1, none⟩ k _ h).trans (heap_setCell_other _ ⟨g, 0, none⟩ k _ h)
theorem set2_below {B : Nat} {a w : World} (h : Below B a w) {g : Nat} (hg : B ≤ g) (v0 v1 : Value) : Below B a (set2 w g v0 v1) :=
  (h.setCell (p := ⟨g, 0, none⟩) hg v0).setCell (p := ⟨g, 1, none⟩) hg v1

theorem set2_size (w : World) (g : Nat) (v0 v1 : Value) : (set2 w g v0 v1).heap.size = w.heap.size := by simp [set2, World.setCell]

end Go.Proofs.YtopnjjehefaghaaDoor
