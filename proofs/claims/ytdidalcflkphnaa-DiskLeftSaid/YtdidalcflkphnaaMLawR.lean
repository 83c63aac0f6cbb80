/-
  A slice of slices of bytes that came in: its length is at most its capacity.
-/
import Derived.Test.YtdidalcflkphnaaMBase
namespace Go.Proofs.Ytdidalcflkphnaa
open Go.ChangeShapes Go.WideShapes Go.ChangeAt Go.RowKit

theorem rowsCap {H : Type} {enc : TypeId × Value → H} {P : Program} {W : World} {base : Nat} {r : Reach} {t e q : TypeId} {v : Value} {d : DataW H} {p : List MemPlace} (ht : P.underlying t = some (.slice e)) (he : P.underlying e = some (.slice q)) (hq : P.underlying q = some (.int .u8))
    (ce : P.cellsOf e = 1) (cq : P.cellsOf q = 1) (hok : Value.okWide P W r base t v) (h : DataW.Trod enc P W 0 (fun _ => true) true t v d p) {ad : Option Addr} {n c : Nat} (hv : v = .slice ad n c) : n ≤ c := by
  subst hv
  obtain ⟨fuel, hf⟩ := h
  rcases Deep.open_int_rows ht he hq ce cq hf with ⟨hcs, _⟩ | ⟨x, len, cap, A, L, C, Z, hcs, _, hl, hm, hx, hcell⟩
  · simp [Value.cells] at hcs
    obtain ⟨_, rfl, rfl⟩ := hcs
    exact Nat.le_refl _
  · simp [Value.cells] at hcs
    obtain ⟨_, rfl, rfl⟩ := hcs
    exact hl
end Go.Proofs.Ytdidalcflkphnaa
