/-
  meta: the writer's numbers.
-/
import Derived.Deep.AppendLies
import Derived.Deep.RegionLaw
import Derived.Test.YtopnjjehefaghaaDoorMMeC
namespace Go.Proofs.YtopnjjehefaghaaDoor
open Go.RowKit

theorem Tryd.infoU8 : (Tryd.prog.info? 5).map (fun i => (i.zero, i.size, i.bytes)) = some (some (.int .u8 0), 1, 1) := by kernel_rfl
theorem info_partsM {P : Program} {e : TypeId} {z : Option Value} {s b : Nat} (h : (P.info? e).map (fun i => (i.zero, i.size, i.bytes)) = some (z, s, b)) : ∃ i, P.info? e = some i ∧ i.zero = z ∧ i.size = s ∧ i.bytes = b := by
  obtain ⟨i, hi, he⟩ := Option.map_eq_some_iff.1 h
  simp only [Prod.mk.injEq] at he
  exact ⟨i, hi, he.1, he.2.1, he.2.2⟩


theorem ne_ownM {w : World} {base : Nat} {e : TypeId} {size : Nat} {v : Value} {n : Nat} {xs : List Value} (h : w.ownsRow base e size v n xs) {g : Nat} (hg : g < base) : some g ≠ v.ownBlock := by
  intro e
  have := ownBlock_ge h g e.symm
  omega
theorem grownBy_setCellM (w : World) (a : Addr) (u : Value) : w.grownBy (w.setCell a u) (some a.block) :=
  ⟨rfl, rfl, rfl, by simp, fun k _ hk => heap_setCell_other w a k u (fun e => hk (by rw [e]))⟩

theorem drop_drew {w w' : World} {r : Option Nat} (h : w.drew.grownBy w' r) : w.grownBy w' r := ⟨h.os, h.tape, h.output, h.size, h.block⟩
theorem after_app {wr w4 : World} {o : Obj} {v : Value} {base b n : Nat} {T : TypeId} {xs : List Value} {cs : Array Value} {T2 : TypeId} (hg : (wr.alloc o).grownBy w4 v.ownBlock) (hown : wr.ownsRow base T 1 v n xs) (hb : b < base) (hh : wr.heap[b]? = some (.cells cs T2 (0, 0))) :
    wr.grownBy w4 v.ownBlock ∧ w4.heap[b]? = some (.cells cs T2 (0, 0)) ∧ w4.cell? ⟨b, 0, none⟩ = cs[0]? ∧ w4.frozen? ⟨b, 0, none⟩ = false := by
  have hg5 := grownBy_trans (World.grownBy_alloc wr o v.ownBlock) hg
  have hh4 := (hg5.block b (Array.getElem?_eq_some_iff.1 hh).1 (ne_ownM hown hb)).trans hh
  exact ⟨hg5, hh4, cell_of_row _ _ _ _ _ _ hh4, frozen_of_row _ _ _ _ _ hh4⟩
theorem lies_of {v : Value} {g2 : Nat} {wr : World} {o : Obj} (h : v.ownBlock = some g2 ∨ g2 = (wr.alloc o).drew.heap.size) : v.ownBlock = some g2 ∨ wr.heap.size ≤ g2 :=
  h.imp id (fun e => by rw [e]; show wr.heap.size ≤ (wr.alloc o).heap.size; simp)

end Go.Proofs.YtopnjjehefaghaaDoor
