/-
  How a slice of pieces (an int, a slice of bytes) that came in is read.
-/
import Derived.Deep.Slices
import Derived.Deep.Matrix
import Derived.Test.YtfjcbgfgiidogaaDoorMBase
import Derived.Test.YtfjcbgfgiidogaaDoorMRq5
namespace Go.Proofs.YtfjcbgfgiidogaaDoor
open Go.ChangeShapes Go.WideShapes Go.ChangeAt Go.RowKit Go.Deep

section
variable {H : Type} {enc : TypeId × Value → H}
theorem bytes_cells {P : Program} {W : World} {t e : TypeId} {v : Value} {y : DataW H × List MemPlace} {n : Nat} (ht : P.underlying t = some (.slice e)) (he : P.underlying e = some (.int .u8)) (hc : P.cellsOf e = 1) (hby : P.bytesOf e = 1)
    (hf : DataW.trod enc P W 0 (fun _ => true) true n t [v] = some y) (hw : ∀ n ∈ y.1.weights P t, n ≤ reachBytes) :
    ∃ ad n c l, v = .slice ad n c ∧ BytesV W (ad, n, c) l := by
  rcases open_ints ht he hc hf with ⟨hcs, _⟩ | ⟨x, l, c, zs, hcs, _, hl, hm, hz, hx, hcell, hwz⟩
  · exact ⟨none, 0, 0, [], (List.cons.inj hcs).1, bytesV_nil _⟩
  · simp only [if_true] at hz
    subst hx
    have hcap : c ≤ 140737488351232 := by
      have := hw ((lits (H := H) .u8 (zs.take l)).length + (lits (H := H) .u8 (zs.drop l)).length) (by simp [DataW.weights, ht, hby, lits])
      simp [lits, reachBytes] at this
      omega
    exact ⟨_, _, _, _, (List.cons.inj hcs).1, bytesV_of_cells hl hz (fun i hi => hcell i (by omega)) hwz (by omega)⟩

theorem openPieces {P : Program} {W : World} {base : Nat} {r : Reach} {t e q : TypeId} {f0 f1 : Field} {v : Value} {d : DataW H} {p : List MemPlace} (ht : P.underlying t = some (.slice e)) (he : P.underlying e = some (.struct #[f0, f1]))
    (ce : P.cellsOf e = 2) (o0 : f0.offset = 0) (o1 : f1.offset = 1) (k0 : P.cellsOf f0.type = 1) (k1 : P.cellsOf f1.type = 1)
    (u0 : P.underlying f0.type = some (.int .i64)) (u1 : P.underlying f1.type = some (.slice q)) (uq : P.underlying q = some (.int .u8)) (cq : P.cellsOf q = 1) (bq : P.bytesOf q = 1)
    (hok : Value.okWide P W r base t v) (h : DataW.Trod enc P W 0 (fun _ => true) true t v d p) (hw : ∀ n ∈ d.weights P t, n ≤ reachBytes) :
    ∃ ad n c ps, v = .slice ad n c ∧ PiV W ad n ps ∧ n ≤ maxLen := by
  obtain ⟨a0, len0, cap0, rfl⟩ := okWide_slice ht hok
  obtain ⟨fuel, hf⟩ := h
  rcases open_slice ht hf with ⟨hcs, _⟩ | ⟨a, len, cap, m, n, D, Pl, hcs, hb, hl, hm, hmm, hxx, hx⟩
  · simp [Value.cells] at hcs
    obtain ⟨rfl, rfl, rfl⟩ := hcs
    exact ⟨none, 0, 0, [], rfl, PiV.nil _ _, by unfold maxLen; omega⟩
  · simp [Value.cells] at hcs
    obtain ⟨rfl, rfl, rfl⟩ := hcs
    simp only [if_true] at hmm
    subst hmm
    simp only [Prod.mk.injEq] at hxx
    have each : ∀ i, ∃ g : Int × (Option Addr × Nat × Nat) × List Nat, i < len0 → W.cell? (a.add (i * 2)) = some (.int .i64 g.1) ∧ W.cell? (a.add (i * 2 + 1)) = some (.slice g.2.1.1 g.2.1.2.1 g.2.1.2.2) ∧ BytesV W g.2.1 g.2.2 := by
      intro i
      by_cases hi : i < len0
      · obtain ⟨cs', h1, h2⟩ := hx i (by omega)
        rw [ce] at h1
        obtain ⟨_, hlen, hcell⟩ := World.cells?_some h1
        obtain ⟨xs, k, hk, hxy, _, hxl, hf⟩ := DataW.trod_struct he h2
        match xs, hxl, cs', hlen with
        | [y0, y1], _, [v0, v1], _ =>
          have g0 := hf 0 f0 rfl
          have g1 := hf 1 f1 rfl
          simp [o0, o1, k0, k1] at g0 g1
          have e0 := hcell 0 (by omega)
          have e1 := hcell 1 (by omega)
          rw [add_add] at e0 e1
          simp only [Prod.mk.injEq] at hxy
          obtain ⟨z0, hz0, _, _⟩ := DataW.trod_int u0 g0
          obtain ⟨b1, b2, b3, l, hv2, hBV⟩ := bytes_cells u1 uq cq bq g1 (fun x hx => by
            refine hw x ?_
            rw [hxx.1]
            simp only [DataW.weights, ht, List.mem_cons, List.mem_append]
            right; left
            refine weightsAll_mem (d := D i) (List.mem_map.2 ⟨i, by simpa using hi, rfl⟩) _ ?_
            rw [hxy.1]
            simp only [DataW.weights, he]
            simp [DataW.weightsEach, hx])
          obtain ⟨rfl⟩ := (List.cons.inj hz0).1
          subst hv2
          exact ⟨⟨z0, (b1, b2, b3), l⟩, fun _ => ⟨by simpa using e0, by simpa using e1, hBV⟩⟩
      · exact ⟨⟨0, (none, 0, 0), []⟩, fun h => absurd h hi⟩
    obtain ⟨g, hg⟩ := Classical.axiomOfChoice each
    refine ⟨some a, _, _, (List.range len0).map fun i => ((g i).1, (g i).2.2), rfl, ⟨by simp, (List.range len0).map fun i => ((g i).1, (g i).2.1), by simp, fun h0 => ?_, fun i x p hx hp => ?_⟩, by omega⟩
    · have hx0 := addr_plain (hg 0 (by omega)).1
      have hx1 : a = ⟨a.block, a.off, none⟩ := by simpa using hx0
      refine ⟨a.block, a.off, by rw [← hx1], fun i x hx => ?_⟩
      have hi : i < len0 := by have := (List.getElem?_eq_some_iff.1 hx).1; simpa using this
      rw [List.getElem?_map, List.getElem?_range hi] at hx
      obtain rfl := Option.some.inj hx
      obtain ⟨c0, c1, -⟩ := hg i hi
      rw [hx1, addr_add] at c0 c1
      exact ⟨c0, c1⟩
    · have hi : i < len0 := by have := (List.getElem?_eq_some_iff.1 hx).1; simpa using this
      rw [List.getElem?_map, List.getElem?_range hi] at hx hp
      obtain rfl := Option.some.inj hx
      obtain rfl := Option.some.inj hp
      exact ⟨rfl, (hg i hi).2.2⟩
end
end Go.Proofs.YtfjcbgfgiidogaaDoor
