/-
  A range over a function whose rounds all go on (with whatever variables), for texts that are walked in plain words. Nothing of a program in sight.
-/
import Derived.WalkKit
import Derived.Shelf.Abstract
import Derived.RangeFuncBox
import Derived.RangeFuncCalls
import Derived.RangeFuncLeaves
import Derived.RangeFuncRecord
import Derived.OwnWalkIn
import Derived.TacticsInMore
import Derived.LoopNIn
import Derived.LoopIn
import Derived.Test.YtopnjjehefaghaaDoorMBase
namespace Go.Proofs.YtopnjjehefaghaaDoor
open Go.RowKit Go.Shelf
attribute [local go_sem] Oper.semAt_some

/-- all blocks but some stay as they are. -/
structure KeepR (X : Nat → Prop) (w w' : World) : Prop where
  os : w'.os = w.os
  tape : w'.tape = w.tape
  output : w'.output = w.output
  size : w.heap.size ≤ w'.heap.size
  block : ∀ k, k < w.heap.size → ¬ X k → w'.heap[k]? = w.heap[k]?
theorem KeepR.refl (X : Nat → Prop) (w : World) : KeepR X w w := ⟨rfl, rfl, rfl, Nat.le_refl _, fun _ _ _ => rfl⟩
theorem KeepR.trans {X : Nat → Prop} {a b c : World} (h : KeepR X a b) (k : KeepR X b c) : KeepR X a c :=
  ⟨k.os.trans h.os, k.tape.trans h.tape, k.output.trans h.output, Nat.le_trans h.size k.size, fun i hi hn => (k.block i (Nat.lt_of_lt_of_le hi h.size) hn).trans (h.block i hi hn)⟩
theorem KeepR.of_below {X : Nat → Prop} {w w' : World} (h : Below w.heap.size w w') : KeepR X w w' := ⟨h.os, h.tape, h.output, h.size, fun k hk _ => h.block k hk⟩
theorem KeepR.cell {X : Nat → Prop} {w w' : World} (h : KeepR X w w') {g off : Nat} {v : Value} (hc : w.cell? ⟨g, off, none⟩ = some v) (hn : ¬ X g) : w'.cell? ⟨g, off, none⟩ = some v :=
  (World.cell?_of_block (a := ⟨g, off, none⟩) (h.block g (World.block_lt_of_cell? w _ hc) hn)).trans hc
theorem BytesV.keptR {w w' : World} {x : Option Addr × Nat × Nat} {l : List Nat} (h : BytesV w x l) (hk : 0 < x.2.1 → ∀ a, x.1 = some a → w'.heap[a.block]? = w.heap[a.block]?) : BytesV w' x l := ⟨h.row.kept' hk, h.bytes, h.small, h.cap, h.nil⟩
theorem below_putObjR {B : Nat} {w w' : World} (h : Below B w w') {l : Nat} (hl : B ≤ l) (o : Obj) : Below B w (w'.putObj l o) :=
  ⟨h.os, h.tape, h.output, by simpa using h.size, fun k hk => (World.putObj_heap_other (by omega)).trans (h.block k hk)⟩
/-- a range over a function whose rounds end as they should. -/
theorem rangeFunc_startR {P : Program} {g : Operand} {ps : Array Tmp} {assign body : Code} {Q : Exit → Act → World → Prop} {a : Act} {w : World} {gf : FuncId} {lb : Array Value} (hg : a.eval g = .func (.func gf) #[] lb) (eg : ∀ args w, (callFunc gf args).run P w = .ok (.enter gf args) w)
    (h : ∀ (fn : FuncId) (rec : LoopState → Option Code → Loop),
      (∀ W (vs : Array Value), vs.size = ps.size → W.heap[w.heap.size + 1]? = some (.loop (rec .ready none)) → (Instr.yield (w.heap.size + 1) vs).run P W = .ok (.round (w.heap.size + 1) fn ((ps.zip vs).foldl (fun t x => t.setIfInBounds x.1 x.2) a.tmps) assign body) W) →
      (∀ W, W.heap[w.heap.size + 1]? = some (.loop (rec .ready none)) → (Instr.beginRound (w.heap.size + 1)).run P W = .ok () (W.putObj (w.heap.size + 1) (.loop (rec .busy none)))) →
      (∀ W, W.heap[w.heap.size + 1]? = some (.loop (rec .busy none)) → (Instr.endRound (w.heap.size + 1) none).run P W = .ok (.bool true) (W.putObj (w.heap.size + 1) (.loop (rec .ready none)))) →
      (∀ W, W.heap[w.heap.size + 1]? = some (.loop (rec .ready none)) → (Instr.endLoop (w.heap.size + 1)).run P W = .ok none (W.putObj (w.heap.size + 1) (.loop (rec .exhausted none)))) →
      Calls P gf (#[.func (.yield (w.heap.size + 1)) #[] #[]] ++ lb) ((w.alloc (.deferred (some []))).alloc (.loop (rec .ready none)))
        (rangePost Fence.wide 1 P (w.heap.size + 1) Q { a with defers := { target := .collected w.heap.size, args := #[] } :: a.defers })) :
    (Code.rangeFunc g ps assign body).wp P Q a w := by
  refine (wpIn_wide (n := 1)).1 (wpIn_rangeFunc ?_)
  intro fn _
  obtain ⟨rec, hrec⟩ : ∃ rec : LoopState → Option Code → Loop, rec = fun st pe => { state := st, pending := pe, fn, tmps := a.tmps, params := ps, assign, body, defers := w.heap.size } := ⟨_, rfl⟩
  have H := h fn rec
  have he : (Instr.enterLoop fn a.tmps ps assign body none).run P w = .ok (w.heap.size + 1, [{ target := .collected w.heap.size, args := #[] }]) ((w.alloc (.deferred (some []))).alloc (.loop (rec .ready none))) := by
    rw [hrec]; exact run_enterLoop_outer _ _ _ _ _
  obtain ⟨W1, hW1⟩ : ∃ W1, (w.alloc (.deferred (some []))).alloc (.loop (rec .ready none)) = W1 := ⟨_, rfl⟩
  rw [hW1] at he H
  refine ⟨w.heap.size + 1, [{ target := .collected w.heap.size, args := #[] }], W1, { target := .fn (.func gf) lb, args := #[.func (.yield (w.heap.size + 1)) #[] #[]] }, W1, gf, #[.func (.yield (w.heap.size + 1)) #[] #[]] ++ lb, W1, he, ?_, ?_, ?_, ?_, ?_⟩
  rotate_left 4
  · refine callsIn_wide.2 ?_
    refine H ?_ ?_ ?_ ?_
    · intro W vs hsz hW
      have := run_yield (P := P) (args := vs) hW (by rw [hrec]; exact hsz)
      rw [hrec] at this
      exact this
    · intro W hW
      have := run_beginRound (P := P) hW (by rw [hrec])
      rw [hrec] at this ⊢
      exact this
    · intro W hW
      have := run_endRound (P := P) none hW
      rw [hrec] at this ⊢
      exact this
    · intro W hW
      have := run_endLoop (P := P) hW (by rw [hrec]; simp)
      rw [hrec] at this ⊢
      exact this
  · simp only [resolve, hg]
    simp [go_sem]
  · exact fun _ _ => trivial
  · simp [invoke, go_sem, eg]
  · exact fun _ => Nat.le_refl _
end Go.Proofs.YtopnjjehefaghaaDoor
