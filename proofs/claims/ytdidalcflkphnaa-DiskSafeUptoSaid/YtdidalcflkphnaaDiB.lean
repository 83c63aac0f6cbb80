/-
  disk: a disk in memory, its blocks told by a footprint.
-/
import Derived.Test.YtdidalcflkphnaaDiA
namespace Go.Proofs.Ytdidalcflkphnaa
open Go.RowKit

abbrev HdT := Option Addr × Nat × Nat
abbrev DT : TypeId := 72
abbrev KT : TypeId := 80
/-- nothing of the elder blocks is changed but in the footprint. -/
structure ChF (F : Nat → Prop) (w w' : World) : Prop where
  os : w'.os = w.os
  tape : w'.tape = w.tape
  output : w'.output = w.output
  size : w.heap.size ≤ w'.heap.size
  block : ∀ b, b < w.heap.size → ¬ F b → w'.heap[b]? = w.heap[b]?
theorem ChF.refl (F : Nat → Prop) (w : World) : ChF F w w := ⟨rfl, rfl, rfl, Nat.le_refl _, fun _ _ _ => rfl⟩
theorem ChF.trans {F F' : Nat → Prop} {a b c : World} (h : ChF F a b) (k : ChF F' b c) (hF : ∀ x, F' x → F x ∨ a.heap.size ≤ x) : ChF F a c :=
  ⟨k.os.trans h.os, k.tape.trans h.tape, k.output.trans h.output, Nat.le_trans h.size k.size, fun x hx hn => (k.block x (Nat.lt_of_lt_of_le hx h.size) (fun e => by rcases hF x e with q | q; exact hn q; omega)).trans (h.block x hx hn)⟩
theorem ChF.of_below {F : Nat → Prop} {w w' : World} (h : Below w.heap.size w w') : ChF F w w' := ⟨h.os, h.tape, h.output, h.size, fun b hb _ => h.block b hb⟩
theorem ChF.below {F : Nat → Prop} {w w' : World} (h : ChF F w w') {B : Nat} (hB : ∀ b, F b → B ≤ b) (hs : B ≤ w.heap.size) : Below B w w' := ⟨h.os, h.tape, h.output, h.size, fun b hb => h.block b (by omega) (fun e => by have := hB b e; omega)⟩
theorem ChF.of_grown {F : Nat → Prop} {w w' : World} {r : Option Nat} (h : w.grownBy w' r) (hr : ∀ k, r = some k → F k) : ChF F w w' := ⟨h.os, h.tape, h.output, h.size, fun b hb hn => h.block b hb (fun e => hn (hr b e.symm))⟩
theorem ChF.set {F : Nat → Prop} {w w' : World} (h : ChF F w w') {g i : Nat} {v : Value} (hg : F g ∨ w.heap.size ≤ g) : ChF F w (w'.setCell ⟨g, i, none⟩ v) :=
  ⟨h.os, h.tape, h.output, by simpa [World.setCell] using h.size, fun b hb hn => (heap_setCell_other _ ⟨g, i, none⟩ b _ (fun e => by subst e; rcases hg with q | q; exact hn q; omega)).trans (h.block b hb hn)⟩
/-- what is apart from the footprint is as it was. -/
theorem own_ChF {F : Nat → Prop} {w w' : World} {B n s : Nat} {T : TypeId} {v : Value} {xs : List Value} (h : w.ownsRow B T s v n xs) (hc : ChF F w w') (hn : ∀ b, v.ownBlock = some b → ¬ F b) : w'.ownsRow B T s v n xs := by
  refine ⟨h.1, ?_⟩
  rcases h.2 with e | ⟨g, cap, cur, rfl, hg, hh, rest⟩
  · exact .inl e
  · exact .inr ⟨g, cap, cur, rfl, hg, (hc.block g (Array.getElem?_eq_some_iff.1 hh).1 (hn g rfl)).trans hh, rest⟩
/-- bytes that are read, all in a block of the footprint. -/
structure ByF (w : World) (F : Nat → Prop) (x : HdT) (l : List Nat) : Prop where
  own : w.ownsRow 0 5 1 (SV x) l.length (l.map bv)
  len : x.2.1 = l.length
  bytes : Bytes l
  small : l.length ≤ 1000000000
  inF : ∀ b, (SV x).ownBlock = some b → F b
theorem ByF.nil (w : World) (F : Nat → Prop) : ByF w F (none, 0, 0) [] := ⟨⟨rfl, .inl ⟨rfl, rfl⟩⟩, rfl, fun x h => by (cases h), by simp, fun b h => by simp [SV, Value.ownBlock] at h⟩
theorem ByF.bytesV {w : World} {F : Nat → Prop} {x : HdT} {l : List Nat} (h : ByF w F x l) : BytesV w (x.1, l.length, x.2.2) l := by
  obtain ⟨h1, h2, h3, h4, -⟩ := h
  obtain ⟨x1, x2, x3⟩ := x
  simp only at h2
  subst h2
  exact bytesV_of_owns h1 h3 (by omega)
theorem ByF.keep {w w' : World} {F G : Nat → Prop} {x : HdT} {l : List Nat} (h : ByF w F x l) (hc : ChF G w w') (hn : ∀ b, (SV x).ownBlock = some b → ¬ G b) : ByF w' F x l := ⟨own_ChF h.own hc hn, h.len, h.bytes, h.small, h.inF⟩
theorem ByF.mono {w : World} {F F' : Nat → Prop} {x : HdT} {l : List Nat} (h : ByF w F x l) (hF : ∀ b, F b → F' b) : ByF w F' x l := ⟨h.own, h.len, h.bytes, h.small, fun b hb => hF b (h.inF b hb)⟩
end Go.Proofs.Ytdidalcflkphnaa
