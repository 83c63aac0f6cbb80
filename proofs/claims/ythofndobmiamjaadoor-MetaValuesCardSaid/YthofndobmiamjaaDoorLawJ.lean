/-
  A struct of two one-cell fields, by value, opened; a slice of such of two ints.
-/
import Derived.Test.YthofndobmiamjaaDoorRows
import Derived.Test.YthofndobmiamjaaDoorMeI
import Derived.Test.YthofndobmiamjaaDoorLaw
import Derived.Lib.SmallJoins
import Derived.Deep.SlicePairs
namespace Go.Proofs.YthofndobmiamjaaDoor
open Go.ChangeShapes Go.WideShapes Go.ChangeAt Go.RowKit Go.Joins Go.Deep Go.WideElems Go.Maps

theorem cell_ltJ {w : World} {a : Addr} {v : Value} (h : w.cell? a = some v) : a.block < w.heap.size := World.block_lt_of_cell? w a h
theorem array2 {α : Type} {cs : Array α} (h : cs.size = 2) : ∃ c0 c1, cs = #[c0, c1] := by
  obtain ⟨l⟩ := cs
  match l, h with
  | [c0, c1], _ => exact ⟨c0, c1, rfl⟩
section
variable {H : Type} {enc : TypeId × Value → H}
theorem openTag {P : Program} {w : World} {base : Nat} {r : Reach} {t : TypeId} {f0 f1 : Field} {v : Value} {d : DataW H} {p : List MemPlace} (hs : P.underlying t = some (.struct #[f0, f1])) (hone : oneCellFields P #[f0, f1] = true) (hC : P.cellsOf t = 2)
    (u0 : P.underlying f0.type = some (.int .i64)) (u1 : P.underlying f1.type = some (.int .i64)) (hv : Value.okWide P w r base t v) (h : DataW.Trod enc P w 0 (fun _ => true) true t v d p) :
    ∃ a b : Int, v = .agg #[.int .i64 a, .int .i64 b] ∧ (Lit.int .i64 a).wf = true ∧ (Lit.int .i64 b).wf = true := by
  obtain ⟨cs, rfl, hsz⟩ := okWide_struct hs hv
  obtain ⟨c0, c1, rfl⟩ := array2 (hsz.trans hC)
  obtain ⟨fuel, hf⟩ := h
  obtain ⟨xs, n, _, hx, hl, hlen, hf⟩ := DataW.trod_struct hs hf
  match xs, hlen with
  | [y0, y1], _ =>
    have h0 := hf 0 f0 rfl
    obtain ⟨o0, k0⟩ := hone_of hone 0 f0 rfl
    have h1 := hf 1 f1 rfl
    obtain ⟨o1, k1⟩ := hone_of hone 1 f1 rfl
    have g0 : DataW.trod enc P w 0 (fun _ => true) true n f0.type [c0] = some y0 := by simpa [Value.cells, o0, k0] using h0
    have g1 : DataW.trod enc P w 0 (fun _ => true) true n f1.type [c1] = some y1 := by simpa [Value.cells, o1, k1] using h1
    obtain ⟨a, hc, _, w0⟩ := DataW.trod_int u0 g0
    obtain ⟨b, hc', _, w1⟩ := DataW.trod_int u1 g1
    rw [(List.cons.inj hc).1, (List.cons.inj hc').1]
    exact ⟨a, b, rfl, w0, w1⟩
theorem openTags {P : Program} {W : World} {base : Nat} {r : Reach} {t e : TypeId} {f0 f1 : Field} {v : Value} {d : DataW H} {p : List MemPlace} (ht : P.underlying t = some (.slice e)) (he : P.underlying e = some (.struct #[f0, f1]))
    (ce : P.cellsOf e = 2) (o0 : f0.offset = 0) (o1 : f1.offset = 1) (k0 : P.cellsOf f0.type = 1) (k1 : P.cellsOf f1.type = 1) (u0 : P.underlying f0.type = some (.int .i64)) (u1 : P.underlying f1.type = some (.int .i64))
    (hok : Value.okWide P W r base t v) (h : DataW.Trod enc P W 0 (fun _ => true) true t v d p) :
    ∃ ad n c L, v = .slice ad n c ∧ TagsV W ad n c L ∧ (ad = none → c = 0) ∧ ∀ i, i < n → (Lit.int .i64 (L i).1).wf = true ∧ (Lit.int .i64 (L i).2).wf = true := by
  obtain ⟨a0, len0, cap0, rfl⟩ := okWide_slice ht hok
  obtain ⟨fuel, hf⟩ := h
  rcases open_slice_pairs ht he ce o0 o1 k0 k1 hf with ⟨hcs, _⟩ | ⟨x, l, c, m, n, V0, V1, D0, D1, P0, P1, hcs, _, hl, hm, hmm, hx, hcell⟩
  · simp [Value.cells] at hcs
    obtain ⟨rfl, rfl, rfl⟩ := hcs
    exact ⟨none, 0, 0, fun _ => (0, 0), rfl, ⟨by unfold maxLen; omega, Nat.le_refl _, by unfold maxLen; omega, fun h => absurd h (by omega)⟩, fun _ => rfl, fun i h => absurd h (by omega)⟩
  · simp [Value.cells] at hcs
    obtain ⟨rfl, rfl, rfl⟩ := hcs
    simp only [if_true] at hmm
    subst hmm
    have each : ∀ i, ∃ g : Int × Int, i < m → V0 i = .int .i64 g.1 ∧ V1 i = .int .i64 g.2 ∧ (Lit.int .i64 g.1).wf = true ∧ (Lit.int .i64 g.2).wf = true := by
      intro i
      by_cases hi : i < m
      · obtain ⟨c0, c1, t0, t1⟩ := hcell i hi
        obtain ⟨y, hy, _, w0⟩ := DataW.trod_int u0 t0
        obtain ⟨z, hz, _, w1⟩ := DataW.trod_int u1 t1
        exact ⟨(y, z), fun _ => ⟨(List.cons.inj hy).1, (List.cons.inj hz).1, w0, w1⟩⟩
      · exact ⟨(0, 0), fun h => absurd h hi⟩
    obtain ⟨g, hg⟩ := Classical.axiomOfChoice each
    refine ⟨some x, _, _, g, rfl, ⟨by omega, hl, hm, fun h0 => ?_⟩, fun e => (by cases e), fun i hi => (hg i (by omega)).2.2⟩
    have hx0 := addr_plain (hcell 0 (by omega)).1
    have hx1 : x = ⟨x.block, x.off, none⟩ := by simpa using hx0
    refine ⟨x.block, x.off, by rw [← hx1], ?_, fun i hi => ?_⟩
    · have hc := (hcell 0 (by omega)).1
      rw [hx1, addr_add] at hc
      exact cell_ltJ (a := ⟨x.block, x.off + 0 * 2, none⟩) hc
    · obtain ⟨c0, c1, _, _⟩ := hcell i (by omega)
      obtain ⟨e0, e1, _⟩ := hg i (by omega)
      rw [hx1, addr_add, e0] at c0
      rw [hx1, addr_add, e1] at c1
      exact ⟨by simpa using c0, by simpa [Nat.add_assoc] using c1⟩
end
end Go.Proofs.YthofndobmiamjaaDoor
