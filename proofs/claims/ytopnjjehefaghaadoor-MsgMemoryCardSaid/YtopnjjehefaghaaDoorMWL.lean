/-
  A region that isn't drawn, walked operation by operation behind one name (WL), so that no step of a walk looks into what is still to come. Nothing of a program in sight.
-/
import Derived.StillTailTactics
import Derived.Deep.RegionHeld3
import Derived.WalkKit
namespace Go.Proofs.YtopnjjehefaghaaDoor
open Go

theorem wpList_skip {P : Program} {ops : Array Oper} {rest : List Oper} {o : Oper} {a : Act} {w : World} {Q : Exit → Act → World → Prop} (h0 : Region.wanted o (yielded ops a.tmps) = false) (h : wpList P ops Q rest (a.put o.dst undef) w) : wpList P ops Q (o :: rest) a w :=
  wpList_step fun K hK => by rw [h0, if_neg (by decide)]; exact hK _ _ h
section
variable {P : Program} {ops : Array Oper} {rest : List Oper} {o : Oper} {a : Act} {w : World} {Q : Exit → Act → World → Prop} {v : Value}
/-- a region's list in its order, as one thing: nothing looks into it unasked (a goal that is a plain wpList is unfolded, over all that guards leave out, at each step of a walk). -/
structure WL (P : Program) (ops : Array Oper) (Q : Exit → Act → World → Prop) (l : List Oper) (a : Act) (w : World) : Prop where
  go : wpList P ops Q l a w
theorem WL.start {id : Nat} {l : List Oper} (h : WL P l.toArray Q l a w) : (Code.region id l.toArray false).wp P Q a w := wp_region_lit h.go
theorem WL.take (hw : Region.wanted o (yielded ops a.tmps) = true) (hv : (execOp a.eval o).run P w = .ok (.value v) w) (h : WL P ops Q rest (a.put o.dst v) w) : WL P ops Q (o :: rest) a w :=
  ⟨wpList_step fun K hK => by rw [if_pos hw]; simp only [Oper.wp, hv, Oper.upon]; exact hK _ _ h.go⟩
theorem WL.skip (h0 : Region.wanted o (yielded ops a.tmps) = false) (h : WL P ops Q rest (a.put o.dst undef) w) : WL P ops Q (o :: rest) a w :=
  ⟨wpList_skip h0 h.go⟩
theorem WL.call (hw : Region.wanted o (yielded ops a.tmps) = true) (h : ∀ K : Act → World → Prop, Shut (∀ a w, WL P ops Q rest a w → K a w) → o.wp P a w K Q) : WL P ops Q (o :: rest) a w :=
  ⟨wpList_step fun K hK => by rw [if_pos hw]; exact h K (fun a w g => hK a w g.go)⟩
theorem WL.done (h : Q .normal a w) : WL P ops Q [] a w := ⟨h⟩
end
end Go.Proofs.YtopnjjehefaghaaDoor
