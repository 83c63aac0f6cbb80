/-
  rilllaw08: a disk and the reference's with the same value; what a call of both leaves.
-/
import Derived.Test.YtdidalcflkphnaaMDjJ
import Derived.Test.YtdidalcflkphnaaMDjX
import Derived.Test.YtdidalcflkphnaaMDjZ
import Derived.Test.YtdidalcflkphnaaMDkD
namespace Go.Proofs.Ytdidalcflkphnaa
open Go.RowKit

structure Sz (d : DV) (m : Nat) : Prop where
  pw : d.pow ≤ 9223372036854775807
  s1 : 1 ≤ d.sl.length
  s2 : d.sl.length ≤ 512
  rd : d.read.length ≤ m
  sf : d.safe.length ≤ m
theorem spendV_le {p : Int} (h : p ≤ 9223372036854775807) : (spendV p).1 ≤ 9223372036854775807 := by
  unfold spendV
  split
  · simp
  · split
    · simp only; omega
    · exact h
theorem Sz.mono {d : DV} {m n : Nat} (h : Sz d m) (hm : m ≤ n) : Sz d n := ⟨h.pw, h.s1, h.s2, Nat.le_trans h.rd hm, Nat.le_trans h.sf hm⟩
theorem Sz.app {d : DV} {m : Nat} {l : List Nat} (h : Sz d m) (hl : l.length ≤ 5000) : Sz (appV d l).1 (m + 5000) := by
  unfold appV
  split
  · exact h.mono (by omega)
  · exact ⟨spendV_le h.pw, h.s1, h.s2, by have := h.rd; simp; omega, by have := h.sf; simp only; omega⟩
theorem Sz.lay {d : DV} {m : Nat} {l : List Nat} (h : Sz d m) (hl : l.length ≤ 5000) : Sz (layV d l).1 (m + 5000) := by
  unfold layV
  split
  · exact h.mono (by omega)
  · exact ⟨spendV_le h.pw, h.s1, h.s2, by simp only; omega, by have := h.sf; simp only; omega⟩
theorem Sz.sync {d : DV} {m : Nat} (h : Sz d m) : Sz (syncV d).1 (m + 5000) := by
  unfold syncV
  split
  · exact h.mono (by omega)
  · exact ⟨spendV_le h.pw, h.s1, h.s2, by have := h.rd; simp only; omega, by have := h.rd; simp only; omega⟩
theorem Sz.write {d : DV} {m : Nat} {i : Int} {l : List Nat} (h : Sz d m) : Sz (writeV d i l).1 (m + 5000) := by
  unfold writeV
  split
  · split
    · exact h.mono (by omega)
    · split
      · exact h.mono (by omega)
      · exact ⟨spendV_le h.pw, by simpa using h.s1, by simpa using h.s2, by have := h.rd; simp only; omega, by have := h.sf; simp only; omega⟩
  · exact h.mono (by omega)
theorem Sz.slots {d : DV} {m : Nat} (h : Sz d m) : Sz (slotsV d).1 (m + 5000) := by
  unfold slotsV
  split
  · exact h.mono (by omega)
  · exact ⟨spendV_le h.pw, by simpa using h.s1, by simpa using h.s2, by have := h.rd; simp only; omega, by have := h.sf; simp only; omega⟩
theorem Sz.rot {d : DV} {m : Nat} {i bit : Int} (h : Sz d m) : Sz (rotV d i bit).1 (m + 5000) := by
  unfold rotV
  split
  · simp only
    split
    · exact h.mono (by omega)
    · exact ⟨h.pw, by simpa using h.s1, by simpa using h.s2, by have := h.rd; simp only; omega, by have := h.sf; simp only; omega⟩
  · exact h.mono (by omega)
theorem Sz.left {d : DV} {m : Nat} {keep : Int} {reset : Bool} {fs : List Int} {p : Int} (h : Sz d m) (hp : p ≤ 9223372036854775807) : Sz (leftV d keep reset fs p) (m + 5000) := by
  have q := logS_len d.safe d.read d.base d.laid keep reset
  have q1 := h.rd
  have q2 := h.sf
  exact ⟨hp, by show 1 ≤ (leftTo _ _ _).length; rw [leftTo_length]; exact h.s1, by show (leftTo _ _ _).length ≤ 512; rw [leftTo_length]; exact h.s2, by show (logS _ _ _ _ _ _).length ≤ _; omega, by show (logS _ _ _ _ _ _).length ≤ _; omega⟩
/-- a disk and the reference's, with one value. -/
structure Pr (w0 w : World) (F : Nat → Prop) (g : Nat) (R : Nat → Prop) (h : RefH) (d : DV) (m : Nat) : Prop where
  a : DL w0.heap.size w F g d
  b : RefD w R h d
  ap : ∀ q, R q → ¬ F q
  lo : ∀ q, R q → w0.heap.size ≤ q
  bel : Below w0.heap.size w0 w
  sz : Sz d m
theorem Pr.below {w0 w w' : World} {F R : Nat → Prop} {g m : Nat} {h : RefH} {d : DV} (k : Pr w0 w F g R h d m) (hb : Below w.heap.size w w') : Pr w0 w' F g R h d m := ⟨k.a.below hb, k.b.below hb, k.ap, k.lo, k.bel.trans (hb.mono k.bel.size), k.sz⟩
theorem Pr.chF {w0 w w' : World} {F R G : Nat → Prop} {g m : Nat} {h : RefH} {d : DV} (k : Pr w0 w F g R h d m) (hc : ChF G w w') (h1 : ∀ q, F q → ¬ G q) (h2 : ∀ q, R q → ¬ G q) (h3 : ∀ q, G q → w0.heap.size ≤ q) : Pr w0 w' F g R h d m :=
  ⟨k.a.chF hc h1, k.b.keep hc h2, k.ap, k.lo, k.bel.trans (hc.below h3 k.bel.size), k.sz⟩
theorem Pr.bytes {w0 w : World} {F R : Nat → Prop} {g m : Nat} {h : RefH} {d : DV} (k : Pr w0 w F g R h d m) : Bytes d.read := by
  obtain ⟨sa, rd, -, -, -, -, -, h, -⟩ := k.a.m.logs
  exact h.bytes
theorem Pr.ref {w0 w w2 : World} {F R : Nat → Prop} {g m : Nat} {h : RefH} {d : DV} (k : Pr w0 w F g R h d m) (hc : ChF F w w2) : RefD w2 R h d := k.b.keep hc k.ap
/-- both did a call. -/
theorem Pr.step {w0 w w2 w3 : World} {F R F2 : Nat → Prop} {g g2 m m2 : Nat} {h h3 : RefH} {d d2 : DV} (k : Pr w0 w F g R h d m) (D2 : DL w0.heap.size w2 F2 g2 d2) (hF2 : ∀ q, F2 q → F q ∨ w.heap.size ≤ q) (hc2 : ChF F w w2) (R3 : RefD w3 (Gr R w2 w3) h3 d2) (b3 : Below w2.heap.size w2 w3) (sz : Sz d2 m2) :
    Pr w0 w3 F2 g2 (Gr R w2 w3) h3 d2 m2 := by
  have s := hc2.size
  refine ⟨D2.below b3, R3, fun q hq hF => ?_, fun q hq => ?_, (k.bel.trans (hc2.below k.a.lo k.bel.size)).trans (b3.mono (Nat.le_trans k.bel.size s)), sz⟩
  · rcases hq with hq | hq
    · rcases hF2 q hF with p | p
      · exact k.ap q hq p
      · have := k.b.lt q hq; omega
    · have := D2.hi q hF; omega
  · rcases hq with hq | hq
    · exact k.lo q hq
    · have := k.bel.size; omega
/-- step's boxes: the reference's disk, the call, the result. -/
structure StB (w0 w : World) (h : RefH) (o : Array Value) : Prop where
  a : w.heap[w0.heap.size]? = some (.cells h.cells RT (0, 0))
  f : w.heap[w0.heap.size + 1]? = some (.cells o OT (0, 0))
  r : w.heap[w0.heap.size + 2]? = some (.cells zH.cells RT (0, 0))
theorem StB.new (w : World) (h : RefH) (o : Array Value) : StB w (((w.alloc (.cells h.cells RT)).alloc (.cells o OT)).alloc (.cells zH.cells RT)) h o := by
  have z := alloc_sz' w (.cells h.cells RT)
  have z2 := alloc_sz' (w.alloc (.cells h.cells RT)) (.cells o OT)
  refine ⟨(heap_alloc_old _ _ (by omega)).trans ((heap_alloc_old _ _ (by omega)).trans (heap_alloc_self w _)), ?_, ?_⟩
  · have := heap_alloc_self (w.alloc (.cells h.cells RT)) (.cells o OT)
    rw [z] at this
    exact (heap_alloc_old _ _ (by omega)).trans this
  · have := heap_alloc_self ((w.alloc (.cells h.cells RT)).alloc (.cells o OT)) (.cells zH.cells RT)
    rw [z2, z] at this
    exact this
theorem StB.sz {w0 w : World} {h : RefH} {o : Array Value} (k : StB w0 w h o) : w0.heap.size + 3 ≤ w.heap.size := (Array.getElem?_eq_some_iff.1 k.r).1
theorem StB.keep {w0 w w' : World} {h : RefH} {o : Array Value} (k : StB w0 w h o) {G : Nat → Prop} (hc : ChF G w w') (hG : ∀ b, G b → b < w0.heap.size ∨ w0.heap.size + 3 ≤ b) : StB w0 w' h o :=
  have s := k.sz
  ⟨(hc.block _ (by omega) (fun e => by have := hG _ e; omega)).trans k.a, (hc.block _ (by omega) (fun e => by have := hG _ e; omega)).trans k.f, (hc.block _ (by omega) (fun e => by have := hG _ e; omega)).trans k.r⟩
theorem StB.below {w0 w w' : World} {h : RefH} {o : Array Value} (k : StB w0 w h o) (hb : Below w.heap.size w w') : StB w0 w' h o := k.keep (G := fun _ => False) (.of_below hb) (fun _ e => e.elim)
theorem StB.setA {w0 w : World} {h h' : RefH} {o : Array Value} (k : StB w0 w h o) : StB w0 (w.setRow w0.heap.size h'.cells) h' o :=
  ⟨setRow_same k.a, (setRow_other _ _ _ _ (by omega)).trans k.f, (setRow_other _ _ _ _ (by omega)).trans k.r⟩
/-- what step's choice leaves. -/
structure PostS (w0 wS wA wx : World) (F R F' : Nat → Prop) (g' : Nat) (R' : Nat → Prop) (h' : RefH) (o : Array Value) (x : HdT) (l : List Nat) (d' : DV) (m : Nat) : Prop where
  p : Pr w0 wx F' g' R' h' d' m
  bx : StB wS wx h' o
  ob : wx.ownsRow (wS.heap.size + 3) 5 1 (SV x) l.length (l.map bv)
  hx : ∀ q, (SV x).ownBlock = some q → q < wA.heap.size
  hF : ∀ q, F' q → F q ∨ wA.heap.size ≤ q
  hR : ∀ q, R' q → R q ∨ wA.heap.size ≤ q
  ch : ChF F wS wx
theorem PostS.of {w0 wS wA w2 w3 : World} {F R F2 : Nat → Prop} {g g2 m m2 : Nat} {h h3 : RefH} {d d2 : DV} {o : Array Value} {x : HdT} {l : List Nat} (k : Pr w0 wA F g R h d m) (bx : StB wS wA h o) (ob : wA.ownsRow (wS.heap.size + 3) 5 1 (SV x) l.length (l.map bv))
    (hFS : ∀ q, F q → q < wS.heap.size) (hRS : ∀ q, R q → q < wS.heap.size) (hS : w0.heap.size ≤ wS.heap.size) (ch : ChF F wS wA) (D2 : DL w0.heap.size w2 F2 g2 d2) (hF2 : ∀ q, F2 q → F q ∨ wA.heap.size ≤ q) (hc2 : ChF F wA w2) (R3 : RefD w3 (Gr R w2 w3) h3 d2) (b3 : Below w2.heap.size w2 w3) (sz : Sz d2 m2) :
    PostS w0 wS wA (w3.setRow wS.heap.size h3.cells) F R F2 g2 (Gr R w2 w3) h3 o x l d2 m2 := by
  have s0 := bx.sz
  have s1 := hc2.size
  have P3 := k.step D2 hF2 hc2 R3 b3 sz
  have cR : ChF (fun b => b = wS.heap.size) w3 (w3.setRow wS.heap.size h3.cells) := chF_setRow (F := fun b => b = wS.heap.size) rfl _
  have b2 := bx.keep hc2 (fun b e => .inl (hFS b e))
  refine ⟨P3.chF cR (fun q hq e => ?_) (fun q hq e => ?_) (fun q e => by omega), (b2.below b3).setA, ?_, fun q hq => (ob.lt q hq).2, hF2, fun q hq => ?_, ?_⟩
  · rcases hF2 q hq with p | p
    · have := hFS q p; omega
    · omega
  · rcases hq with p | p
    · have := hRS q p; omega
    · omega
  · exact own_ChF (own_ChF (own_ChF ob hc2 (fun q hq e => by have := (ob.lt q hq).1; have := hFS q e; omega)) (ChF.of_below (F := fun _ => False) b3) (fun _ _ e => e)) cR (fun q hq e => by have := (ob.lt q hq).1; omega)
  · rcases hq with p | p
    · exact .inl p
    · exact .inr (by omega)
  · exact ((ch.trans hc2 (fun q hq => .inl hq)).trans (ChF.of_below (F := F) b3) (fun q hq => .inl hq)).trans cR (fun q e => .inr (by omega))
def stepV (d : DV) (what nn mm : Int) (l : List Nat) (keep : Int) (reset : Bool) (fs : List Int) : DV × Int :=
  if what = 1 then appV d l else if what = 2 then layV d l else if what = 3 then syncV d else if what = 4 then writeV d nn l else if what = 5 then slotsV d else if what = 6 then rotV d nn mm else if what = 7 then (leftV d keep reset fs mm, 0) else (d, 0)
end Go.Proofs.Ytdidalcflkphnaa
