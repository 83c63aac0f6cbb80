/-
  How a slice of ints that came in is read.
-/
import Derived.Test.YtnefcbcioemfiaaLaw
import Derived.Test.YtnefcbcioemfiaaUseI
namespace Go.Proofs.Ytnefcbcioemfiaa
open Go.ChangeShapes Go.WideShapes Go.ChangeAt Go.RowKit
section
variable {H : Type} {enc : TypeId × Value → H}

theorem intsV_of_cells {w : World} {x : Addr} {len cap : Nat} {zs : List Int} (hl : len ≤ cap) (hz : zs.length = cap) (hcell : ∀ i, i < cap → w.cell? (x.add i) = some (.int .i64 (zs.getD i 0))) (hs : cap ≤ 140737488355328) :
    IntsV w (some x, len, cap) (zs.take len) := by
  refine ⟨⟨by simp; omega, fun h0 => ?_⟩, by simp only; omega, hl, fun h => by cases h⟩
  have hx := addr_plain (hcell 0 (by simp only at h0; omega))
  refine ⟨x.block, x.off, by rw [← hx], fun i hi => ?_⟩
  simp only at hi
  have hc := hcell i (by omega)
  rw [hx, addr_add] at hc
  rw [hc, List.getElem?_map, List.getElem?_take, if_pos hi]
  simp [iv, List.getD_eq_getElem?_getD, List.getElem?_eq_getElem (show i < zs.length by omega)]
theorem intsV_nil (w : World) : IntsV w (none, 0, 0) [] := ⟨⟨rfl, fun h => absurd h (by simp)⟩, by simp, by simp, fun _ => rfl⟩

theorem openInts {P : Program} {W : World} {base : Nat} {r : Reach} {t e : TypeId} {v : Value} {d : DataW H} {p : List MemPlace} (ht : P.underlying t = some (.slice e)) (he : P.underlying e = some (.int .i64)) (hc : P.cellsOf e = 1) (hby : P.bytesOf e = 8)
    (hok : Value.okWide P W r base t v) (h : DataW.Trod enc P W 0 (fun _ => true) true t v d p) (hw : ∀ n ∈ d.weights P t, n ≤ reachBytes) :
    ∃ ad n c l, v = .slice ad n c ∧ IntsV W (ad, n, c) l ∧ n * 8 ≤ 140737488351232 ∧ ∀ z ∈ l, (Lit.int .i64 z).wf = true := by
  obtain ⟨a0, len0, cap0, rfl⟩ := okWide_slice ht hok
  obtain ⟨fuel, hf⟩ := h
  rcases open_ints ht he hc hf with ⟨hcs, _⟩ | ⟨x, l, c, zs, hcs, _, hl, hm, hz, hx, hcell, hwz⟩
  · simp [Value.cells] at hcs
    obtain ⟨rfl, rfl, rfl⟩ := hcs
    exact ⟨none, 0, 0, [], rfl, intsV_nil _, by omega, fun z hz => by cases hz⟩
  · simp [Value.cells] at hcs
    obtain ⟨rfl, rfl, rfl⟩ := hcs
    simp only [Prod.mk.injEq] at hx
    simp only [if_true] at hz
    have hcap : cap0 * 8 ≤ 140737488351232 := by
      have := hw (((lits (H := H) .i64 (zs.take len0)).length + (lits (H := H) .i64 (zs.drop len0)).length) * 8) (by rw [hx.1]; simp [DataW.weights, ht, hby, lits])
      simp [lits, reachBytes] at this
      omega
    exact ⟨_, _, _, _, rfl, intsV_of_cells hl hz (fun i hi => hcell i (by omega)) (by omega), by omega, fun z hz => hwz z (List.mem_of_mem_take hz)⟩
end
end Go.Proofs.Ytnefcbcioemfiaa
