/-
  rillref08: a disk as a value in memory; draw.
-/
import Derived.Laws.ResultCell
import Derived.Laws.Tables
import Derived.Test.YtdidalcflkphnaaMDjK
namespace Go.Proofs.Ytdidalcflkphnaa
open Go.RowKit

abbrev RT : TypeId := 32
/-- the reference's disk: its power, the headers of its slices, its bools. -/
structure RefH where
  pow : Int
  sa : HdT
  laid : Bool
  ba : HdT
  mo : HdT
  st : HdT
  no : HdT
  fr : HdT
  op : Bool
def RefH.cells (h : RefH) : Array Value := #[.int .i64 h.pow, .slice h.sa.1 h.sa.2.1 h.sa.2.2, .bool h.laid, .slice h.ba.1 h.ba.2.1 h.ba.2.2, .slice h.mo.1 h.mo.2.1 h.mo.2.2, .slice h.st.1 h.st.2.1 h.st.2.2, .slice h.no.1 h.no.2.1 h.no.2.2, .slice h.fr.1 h.fr.2.1 h.fr.2.2, .bool h.op]
def RefH.v (h : RefH) : Value := .agg h.cells
def zH : RefH := ⟨0, (none, 0, 0), false, (none, 0, 0), (none, 0, 0), (none, 0, 0), (none, 0, 0), (none, 0, 0), false⟩
theorem RefH.one (h : RefH) : h.cells.all (·.oneCell') = true := by simp [RefH.cells, Value.oneCell']
theorem RefH.size (h : RefH) : h.cells.size = 9 := rfl
theorem loadVar_ref (w : World) (g : Nat) (h : RefH) (hg : w.heap[g]? = some (.cells h.cells RT (0, 0))) : (loadVar RT ⟨g, 0, none⟩).run Try.prog w = .ok h.v w :=
  run_loadVar_row w g RT RT h.cells (0, 0) _ hg Try.underlying32 rfl (by kernel_rfl)
theorem cells9D {w : World} {b : Nat} {h : RefH} (k : w.heap[b]? = some (.cells h.cells RT (0, 0))) :
    (w.cell? ⟨b, 0, none⟩ = some (.int .i64 h.pow) ∧ w.cell? ⟨b, 1, none⟩ = some (.slice h.sa.1 h.sa.2.1 h.sa.2.2) ∧ w.cell? ⟨b, 2, none⟩ = some (.bool h.laid) ∧ w.cell? ⟨b, 3, none⟩ = some (.slice h.ba.1 h.ba.2.1 h.ba.2.2) ∧ w.cell? ⟨b, 4, none⟩ = some (.slice h.mo.1 h.mo.2.1 h.mo.2.2) ∧
    w.cell? ⟨b, 5, none⟩ = some (.slice h.st.1 h.st.2.1 h.st.2.2) ∧ w.cell? ⟨b, 6, none⟩ = some (.slice h.no.1 h.no.2.1 h.no.2.2) ∧ w.cell? ⟨b, 7, none⟩ = some (.slice h.fr.1 h.fr.2.1 h.fr.2.2) ∧ w.cell? ⟨b, 8, none⟩ = some (.bool h.op)) ∧ ∀ j, w.frozen? ⟨b, j, none⟩ = false :=
  ⟨⟨cell_of_row _ _ 0 _ _ _ k, cell_of_row _ _ 1 _ _ _ k, cell_of_row _ _ 2 _ _ _ k, cell_of_row _ _ 3 _ _ _ k, cell_of_row _ _ 4 _ _ _ k, cell_of_row _ _ 5 _ _ _ k, cell_of_row _ _ 6 _ _ _ k, cell_of_row _ _ 7 _ _ _ k, cell_of_row _ _ 8 _ _ _ k⟩, fun _ => frozen_of_row _ _ _ _ _ k⟩
/-- two boxes of the call's own: the receiver's, and the result's. -/
structure Boxes (w0 w : World) (h q : RefH) : Prop where
  a : w.heap[w0.heap.size]? = some (.cells h.cells RT (0, 0))
  b : w.heap[w0.heap.size + 1]? = some (.cells q.cells RT (0, 0))
  bel : Below w0.heap.size w0 w
theorem Boxes.sz {w0 w : World} {h q : RefH} (k : Boxes w0 w h q) : w0.heap.size + 2 ≤ w.heap.size := (Array.getElem?_eq_some_iff.1 k.b).1
theorem Boxes.new (w : World) (h : RefH) : Boxes w ((w.alloc (.cells h.cells RT)).alloc (.cells zH.cells RT)) h zH := by
  have z := alloc_sz' w (.cells h.cells RT)
  refine ⟨(heap_alloc_old _ _ (by omega)).trans (heap_alloc_self w _), ?_, (below_alloc w _).alloc (by omega) _⟩
  have := heap_alloc_self (w.alloc (.cells h.cells RT)) (.cells zH.cells RT)
  rw [z] at this
  exact this
theorem Boxes.below {w0 w w' : World} {h q : RefH} (k : Boxes w0 w h q) (hb : Below w.heap.size w w') : Boxes w0 w' h q :=
  ⟨(hb.block _ (Array.getElem?_eq_some_iff.1 k.a).1).trans k.a, (hb.block _ (Array.getElem?_eq_some_iff.1 k.b).1).trans k.b, k.bel.trans (hb.mono k.bel.size)⟩
theorem setRow_same {w : World} {g : Nat} {old cs : Array Value} {T : TypeId} (h : w.heap[g]? = some (.cells old T (0, 0))) : (w.setRow g cs).heap[g]? = some (.cells cs T (0, 0)) := setRow_heap _ _ _ _ _ _ h
theorem Boxes.setA {w0 w : World} {h q h' : RefH} (k : Boxes w0 w h q) : Boxes w0 (w.setRow w0.heap.size h'.cells) h' q :=
  ⟨setRow_same k.a, (setRow_other _ _ _ _ (by omega)).trans k.b, ⟨k.bel.os, k.bel.tape, k.bel.output, by simpa using k.bel.size, fun b hb => (setRow_other _ _ _ _ (by omega)).trans (k.bel.block b hb)⟩⟩
theorem Boxes.setB {w0 w : World} {h q q' : RefH} (k : Boxes w0 w h q) : Boxes w0 (w.setRow (w0.heap.size + 1) q'.cells) h q' :=
  ⟨(setRow_other _ _ _ _ (by omega)).trans k.a, setRow_same k.b, ⟨k.bel.os, k.bel.tape, k.bel.output, by simpa using k.bel.size, fun b hb => (setRow_other _ _ _ _ (by omega)).trans (k.bel.block b hb)⟩⟩
theorem Boxes.cell {w0 w : World} {h q h' : RefH} (k : Boxes w0 w h q) (i : Nat) (v : Value) (e : h'.cells = h.cells.setIfInBounds i v) : Boxes w0 (w.setCell ⟨w0.heap.size, i, none⟩ v) h' q :=
  ⟨by rw [e]; exact heap_setCell_same _ _ i _ _ _ k.a, (heap_setCell_other _ ⟨w0.heap.size, i, none⟩ _ _ (by show w0.heap.size + 1 ≠ w0.heap.size; omega)).trans k.b, k.bel.setCell (p := ⟨w0.heap.size, i, none⟩) (Nat.le_refl _) v⟩
def BX (w0 : World) : Nat → Prop := fun b => b = w0.heap.size ∨ b = w0.heap.size + 1
theorem chF_setRow {w : World} {F : Nat → Prop} {g : Nat} (hg : F g) (cs : Array Value) : ChF F w (w.setRow g cs) := ⟨rfl, rfl, rfl, by simp, fun b _ hn => setRow_other _ _ _ _ (fun e => hn (by rw [e]; exact hg))⟩
/-- the result's box is stored to. -/
theorem wpList_store_B {w0 w : World} {h q : RefH} (k : Boxes w0 w h q) {ops : Array Oper} {rest : List Oper} {o : Oper} {a : Act} {Q : Exit → Act → World → Prop} (hgd : o.guard = none) (x y : Operand) (ho : o.op = .store RT x y) (q' : RefH)
    (hx : a.eval x = .pointer (some ⟨w0.heap.size + 1, 0, none⟩)) (hy : a.eval y = .agg q'.cells) (H : ∀ w', Boxes w0 w' h q' → ChF (BX w0) w w' → wpList Try.prog ops Q rest (a.put o.dst undef) w') : wpList Try.prog ops Q (o :: rest) a w :=
  wpList_store_row hgd RT x y ho _ _ hx hy RT _ k.b (by kernel_rfl) rfl q'.one (H _ k.setB (chF_setRow (.inr rfl) _))
theorem wpList_store_A {w0 w : World} {h q : RefH} (k : Boxes w0 w h q) {ops : Array Oper} {rest : List Oper} {o : Oper} {a : Act} {Q : Exit → Act → World → Prop} (hgd : o.guard = none) (x y : Operand) (ho : o.op = .store RT x y) (h' : RefH)
    (hx : a.eval x = .pointer (some ⟨w0.heap.size, 0, none⟩)) (hy : a.eval y = .agg h'.cells) (H : ∀ w', Boxes w0 w' h' q → ChF (BX w0) w w' → wpList Try.prog ops Q rest (a.put o.dst undef) w') : wpList Try.prog ops Q (o :: rest) a w :=
  wpList_store_row hgd RT x y ho _ _ hx hy RT _ k.a (by kernel_rfl) rfl h'.one (H _ k.setA (chF_setRow (.inl rfl) _))
theorem results_ref {fn : Func} {p u : Tmp} (hf : fn.results = #[.cell p RT, .tmp u]) {w0 w : World} {h q : RefH} (k : Boxes w0 w h q) (tmps : Array Value) (hp : tmps.getD p undef = .pointer (some ⟨w0.heap.size + 1, 0, none⟩)) : (results fn tmps).run Try.prog w = .ok (.tuple #[q.v, tmps.getD u undef]) w := by
  rw [results_cell_tmp hf, hp]
  simp only [asAddr, Sem.run_pure, Result.andThen_ok]
  rw [loadVar_ref w _ q k.b]
  rfl
end Go.Proofs.Ytdidalcflkphnaa
