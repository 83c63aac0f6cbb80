/-
  meta: places in memory; is a record right?
-/
import Derived.Test.YtopnjjehefaghaaDoorMBase
import Derived.Test.YtopnjjehefaghaaDoorMMeM
namespace Go.Proofs.YtopnjjehefaghaaDoor
open Go.RowKit

/-- a place: its numbers, its digest and where that lies. -/
structure PlR where
  b : Int
  e : Int
  s : Int
  x : Option Addr × Nat × Nat
  l : List Nat
structure PlAt (w : World) (b o : Nat) (p : PlR) : Prop where
  c0 : w.cell? ⟨b, o, none⟩ = some (.int .i64 p.b)
  c1 : w.cell? ⟨b, o + 1, none⟩ = some (.int .i64 p.e)
  c2 : w.cell? ⟨b, o + 2, none⟩ = some (.int .i64 p.s)
  c3 : w.cell? ⟨b, o + 3, none⟩ = some (.slice p.x.1 p.x.2.1 p.x.2.2)
  by_ : BytesV w (p.x.1, p.x.2.1, p.x.2.2) p.l
theorem PlAt.below {w w' : World} {b o : Nat} {p : PlR} (h : PlAt w b o p) (hlt : b < w.heap.size) (hb : Below w.heap.size w w') : PlAt w' b o p :=
  ⟨(hb.cell (p := ⟨b, o, none⟩) hlt).trans h.c0, (hb.cell (p := ⟨b, o + 1, none⟩) hlt).trans h.c1, (hb.cell (p := ⟨b, o + 2, none⟩) hlt).trans h.c2, (hb.cell (p := ⟨b, o + 3, none⟩) hlt).trans h.c3, h.by_.below hb⟩
structure PlacesV (w : World) (ad : Option Addr) (n c : Nat) (P : Nat → PlR) : Prop where
  small : n ≤ maxLen
  cap : n ≤ c
  nil : ad = none → c = 0
  row : 0 < n → ∃ b o, ad = some ⟨b, o, none⟩ ∧ b < w.heap.size ∧ ∀ i, i < n → PlAt w b (o + i * 4) (P i)
theorem PlacesV.below {w w' : World} {ad : Option Addr} {n c : Nat} {P : Nat → PlR} (h : PlacesV w ad n c P) (hb : Below w.heap.size w w') : PlacesV w' ad n c P :=
  ⟨h.small, h.cap, h.nil, fun h0 => by
    obtain ⟨b, o, e, hlt, hc⟩ := h.row h0
    exact ⟨b, o, e, Nat.lt_of_lt_of_le hlt hb.size, fun i hi => (hc i hi).below hlt hb⟩⟩
def wrongB (S U : Int) (p : PlR) : Bool := !(belowB p.b 1024 && (belowB p.e 16777216 && (belowB p.s S && decide ((p.x.2.1 : Int) = U))))
/-- is one of the first n wrong? -/
def someWrong (S U : Int) (P : Nat → PlR) (n : Nat) : Bool := (List.range n).any fun i => wrongB S U (P i)
theorem someWrong_false {S U : Int} {P : Nat → PlR} {n : Nat} : someWrong S U P n = false ↔ ∀ i, i < n → wrongB S U (P i) = false := by
  unfold someWrong
  rw [List.any_eq_false]
  constructor
  · intro h i hi; have := h i (by simpa using hi); simpa using this
  · intro h i hi; have := h i (by simpa using hi); simp [this]
def FoundM (t : Bool) (w : World) (e : Ending) (w' : World) : Prop := Below w.heap.size w w' ∧ ((t = true ∧ ∃ k : Nat, e = .returned (.int .i64 (k : Int)) ∧ k ≤ 140737488355328) ∨ (t = false ∧ e = .returned (.int .i64 (-1))))
end Go.Proofs.YtopnjjehefaghaaDoor
