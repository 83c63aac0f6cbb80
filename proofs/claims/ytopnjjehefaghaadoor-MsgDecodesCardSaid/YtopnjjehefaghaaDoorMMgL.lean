/-
  msg's reference: a message's bytes.
-/
import Derived.Test.YtopnjjehefaghaaDoorMMgK
namespace Go.Proofs.YtopnjjehefaghaaDoor
open Go.RowKit

/-- what the reference's writer works on: its row, what came in, the message's box. -/
structure RW3 (wm W : World) (B g : Nat) (cs : Array Value) (a : Option Addr) (c : Nat) (l : List Nat) : Prop where
  own : OwB W B a c l
  bel : Below wm.heap.size wm W
  hh : W.heap[g]? = some (.cells cs MMT (0, 0))
  le : wm.heap.size ≤ B
theorem RW3.below {wm W W' : World} {B g : Nat} {cs : Array Value} {a : Option Addr} {c : Nat} {l : List Nat} (h : RW3 wm W B g cs a c l) (hb : Below W.heap.size W W') : RW3 wm W' B g cs a c l :=
  ⟨World.ownsRow.kept h.own (grownBy_of_below hb none) (by cases e : (Value.slice a l.length c).ownBlock with | none => exact .inl rfl | some g => exact .inr (by simp)), h.bel.trans (hb.mono h.bel.size), (hb.block _ (Array.getElem?_eq_some_iff.1 h.hh).1).trans h.hh, h.le⟩
theorem RW3.go {wm W W' : World} {B g : Nat} {cs : Array Value} {a a' : Option Addr} {c c' : Nat} {l l' : List Nat} (h : RW3 wm W B g cs a c l) (hk : KA W W' (ob a)) (ho : OwB W' B a' c' l') : RW3 wm W' B g cs a' c' l' :=
  ⟨ho, ⟨hk.os.trans h.bel.os, hk.tape.trans h.bel.tape, hk.output.trans h.bel.output, Nat.le_trans h.bel.size hk.size, fun q hq => (hk.block q (Nat.lt_of_lt_of_le hq h.bel.size) (fun e => by have := h.own.ge e.symm; have := h.le; omega)).trans (h.bel.block q hq)⟩, hk.box h.own h.hh (by decide), h.le⟩
theorem RW3.size {wm W : World} {B g : Nat} {cs : Array Value} {a : Option Addr} {c : Nat} {l : List Nat} (h : RW3 wm W B g cs a c l) (h2 : g = wm.heap.size) : wm.heap.size < W.heap.size := by
  have := (Array.getElem?_eq_some_iff.1 h.hh).1
  omega
/-- a text of what came in isn't in the row. -/
theorem low_ne {wm W : World} {B : Nat} {a : Option Addr} {c : Nat} {l : List Nat} (ho : OwB W B a c l) (hle : wm.heap.size ≤ B) {x : Option Addr × Nat × Nat} {m : List Nat} (hx : BytesV wm x m) : 0 < x.2.1 → ∀ b, x.1 = some b → some b.block ≠ ob a := fun h0 b hb e => by
  have h1 := hx.row.lt h0 hb
  have h2 := ho.ge e.symm
  omega
end Go.Proofs.YtopnjjehefaghaaDoor
