/-
  How a slice of triples of two ints and a slice of bytes that came in is read.
-/
import Derived.Test.YtbkbkhinpeoflaaLaw
import Derived.Deep.Slices
import Derived.Deep.Matrix
namespace Go.Proofs.Ytbkbkhinpeoflaa
open Go.ChangeShapes Go.WideShapes Go.ChangeAt Go.RowKit Go.Deep

/-- A slice of steps: at place i what (K), which (N), the slice of bytes (Hd) and the bytes themselves (L). -/
structure OpsV (w : World) (ad : Option Addr) (n c : Nat) (K N : Nat → Int) (Hd : Nat → Option Addr × Nat × Nat) (L : Nat → List Nat) : Prop where
  small : n ≤ maxLen
  cap : n ≤ c
  capm : c ≤ maxLen
  row : 0 < n → ∃ b o, ad = some ⟨b, o, none⟩ ∧ b < w.heap.size ∧ ∀ i, i < n → w.cell? ⟨b, o + i * 3, none⟩ = some (.int .i64 (K i)) ∧ w.cell? ⟨b, o + i * 3 + 1, none⟩ = some (.int .i64 (N i)) ∧ w.cell? ⟨b, o + i * 3 + 2, none⟩ = some (.slice (Hd i).1 (Hd i).2.1 (Hd i).2.2) ∧ BytesV w (Hd i) (L i) ∧ (Lit.int .i64 (N i)).wf = true
theorem OpsV.below {w w' : World} {ad : Option Addr} {n c : Nat} {K N : Nat → Int} {Hd : Nat → Option Addr × Nat × Nat} {L : Nat → List Nat} (h : OpsV w ad n c K N Hd L) (hb : Below w.heap.size w w') : OpsV w' ad n c K N Hd L :=
  ⟨h.small, h.cap, h.capm, fun h0 => by
    obtain ⟨b, o, e, hlt, hc⟩ := h.row h0
    refine ⟨b, o, e, Nat.lt_of_lt_of_le hlt hb.size, fun i hi => ?_⟩
    obtain ⟨c1, c2, c3, c4, c5⟩ := hc i hi
    exact ⟨(hb.cell hlt).trans c1, (hb.cell hlt).trans c2, (hb.cell hlt).trans c3, c4.below hb, c5⟩⟩
theorem OpsV.cut {w : World} {ad : Option Addr} {n c : Nat} {K N : Nat → Int} {Hd : Nat → Option Addr × Nat × Nat} {L : Nat → List Nat} (h : OpsV w ad n c K N Hd L) {m : Nat} (hm : m ≤ n) : OpsV w ad m c K N Hd L :=
  ⟨Nat.le_trans hm h.small, Nat.le_trans hm h.cap, h.capm, fun h0 => by
    obtain ⟨b, o, e, hlt, hc⟩ := h.row (by omega)
    exact ⟨b, o, e, hlt, fun i hi => hc i (by omega)⟩⟩

theorem cell_lt3 {w : World} {a : Addr} {v : Value} (h : w.cell? a = some v) : a.block < w.heap.size := by
  unfold World.cell? at h
  by_cases hlt : a.block < w.heap.size
  · exact hlt
  · rw [Array.getElem?_eq_none (by omega)] at h
    simp at h

section
variable {H : Type} {enc : TypeId × Value → H}
theorem bytes_cells {P : Program} {W : World} {t e : TypeId} {v : Value} {y : DataW H × List MemPlace} {n : Nat} (ht : P.underlying t = some (.slice e)) (he : P.underlying e = some (.int .u8)) (hc : P.cellsOf e = 1) (hby : P.bytesOf e = 1)
    (hf : DataW.trod enc P W 0 (fun _ => true) true n t [v] = some y) (hw : ∀ n ∈ y.1.weights P t, n ≤ reachBytes) :
    ∃ ad n c l, v = .slice ad n c ∧ BytesV W (ad, n, c) l := by
  rcases open_ints ht he hc hf with ⟨hcs, _⟩ | ⟨x, l, c, zs, hcs, _, hl, hm, hz, hx, hcell, hwz⟩
  · exact ⟨none, 0, 0, [], (List.cons.inj hcs).1, bytesV_nil _⟩
  · simp only [if_true] at hz
    subst hx
    have hcap : c ≤ 140737488351232 := by
      have := hw ((lits (H := H) .u8 (zs.take l)).length + (lits (H := H) .u8 (zs.drop l)).length) (by simp [DataW.weights, ht, hby, lits])
      simp [lits, reachBytes] at this
      omega
    exact ⟨_, _, _, _, (List.cons.inj hcs).1, bytesV_of_cells hl hz (fun i hi => hcell i (by omega)) hwz (by omega)⟩

theorem openOps {P : Program} {W : World} {base : Nat} {r : Reach} {t e q : TypeId} {f0 f1 f2 : Field} {v : Value} {d : DataW H} {p : List MemPlace} (ht : P.underlying t = some (.slice e)) (he : P.underlying e = some (.struct #[f0, f1, f2]))
    (ce : P.cellsOf e = 3) (o0 : f0.offset = 0) (o1 : f1.offset = 1) (o2 : f2.offset = 2) (k0 : P.cellsOf f0.type = 1) (k1 : P.cellsOf f1.type = 1) (k2 : P.cellsOf f2.type = 1)
    (u0 : P.underlying f0.type = some (.int .i64)) (u1 : P.underlying f1.type = some (.int .i64)) (u2 : P.underlying f2.type = some (.slice q)) (uq : P.underlying q = some (.int .u8)) (cq : P.cellsOf q = 1) (bq : P.bytesOf q = 1)
    (hok : Value.okWide P W r base t v) (h : DataW.Trod enc P W 0 (fun _ => true) true t v d p) (hw : ∀ n ∈ d.weights P t, n ≤ reachBytes) :
    ∃ ad n c K N Hd L, v = .slice ad n c ∧ OpsV W ad n c K N Hd L := by
  obtain ⟨a0, len0, cap0, rfl⟩ := okWide_slice ht hok
  obtain ⟨fuel, hf⟩ := h
  rcases open_slice ht hf with ⟨hcs, _⟩ | ⟨a, len, cap, m, n, D, Pl, hcs, hb, hl, hm, hmm, hxx, hx⟩
  · simp [Value.cells] at hcs
    obtain ⟨rfl, rfl, rfl⟩ := hcs
    exact ⟨none, 0, 0, fun _ => 0, fun _ => 0, fun _ => (none, 0, 0), fun _ => [], rfl, by unfold maxLen; omega, Nat.le_refl _, by unfold maxLen; omega, fun h => absurd h (by omega)⟩
  · simp [Value.cells] at hcs
    obtain ⟨rfl, rfl, rfl⟩ := hcs
    simp only [if_true] at hmm
    subst hmm
    simp only [Prod.mk.injEq] at hxx
    have each : ∀ i, ∃ g : Int × Int × (Option Addr × Nat × Nat) × List Nat, i < len0 → W.cell? (a.add (i * 3)) = some (.int .i64 g.1) ∧ W.cell? (a.add (i * 3 + 1)) = some (.int .i64 g.2.1) ∧ W.cell? (a.add (i * 3 + 2)) = some (.slice g.2.2.1.1 g.2.2.1.2.1 g.2.2.1.2.2) ∧ BytesV W g.2.2.1 g.2.2.2 ∧ (Lit.int .i64 g.2.1).wf = true := by
      intro i
      by_cases hi : i < len0
      · obtain ⟨cs', h1, h2⟩ := hx i (by omega)
        rw [ce] at h1
        obtain ⟨_, hlen, hcell⟩ := World.cells?_some h1
        obtain ⟨xs, k, hk, hxy, _, hxl, hf⟩ := DataW.trod_struct he h2
        match xs, hxl, cs', hlen with
        | [y0, y1, y2], _, [v0, v1, v2], _ =>
          have g0 := hf 0 f0 rfl
          have g1 := hf 1 f1 rfl
          have g2 := hf 2 f2 rfl
          simp [o0, o1, o2, k0, k1, k2] at g0 g1 g2
          have e0 := hcell 0 (by omega)
          have e1 := hcell 1 (by omega)
          have e2 := hcell 2 (by omega)
          rw [add_add] at e0 e1 e2
          simp only [Prod.mk.injEq] at hxy
          obtain ⟨z0, hz0, _, _⟩ := DataW.trod_int u0 g0
          obtain ⟨z1, hz1, _, wf1⟩ := DataW.trod_int u1 g1
          obtain ⟨b1, b2, b3, l, hv2, hBV⟩ := bytes_cells u2 uq cq bq g2 (fun x hx => by
            refine hw x ?_
            rw [hxx.1]
            simp only [DataW.weights, ht, List.mem_cons, List.mem_append]
            right; left
            refine weightsAll_mem (d := D i) (List.mem_map.2 ⟨i, by simpa using hi, rfl⟩) _ ?_
            rw [hxy.1]
            simp only [DataW.weights, he]
            simp [DataW.weightsEach, hx])
          obtain ⟨rfl⟩ := (List.cons.inj hz0).1
          obtain ⟨rfl⟩ := (List.cons.inj hz1).1
          subst hv2
          exact ⟨⟨z0, z1, (b1, b2, b3), l⟩, fun _ => ⟨by simpa using e0, by simpa using e1, by simpa using e2, hBV, wf1⟩⟩
      · exact ⟨⟨0, 0, (none, 0, 0), []⟩, fun h => absurd h hi⟩
    obtain ⟨g, hg⟩ := Classical.axiomOfChoice each
    refine ⟨some a, _, _, fun i => (g i).1, fun i => (g i).2.1, fun i => (g i).2.2.1, fun i => (g i).2.2.2, rfl, by omega, hl, hm, fun h0 => ?_⟩
    have hx0 := addr_plain (hg 0 (by omega)).1
    have hx1 : a = ⟨a.block, a.off, none⟩ := by simpa using hx0
    refine ⟨a.block, a.off, by rw [← hx1], ?_, fun i hi => ?_⟩
    · have hc := (hg 0 (by omega)).1
      rw [hx1, addr_add] at hc
      exact cell_lt3 (a := ⟨a.block, a.off + 0 * 3, none⟩) hc
    · obtain ⟨c0, c1, c2, c3, c4⟩ := hg i hi
      rw [hx1, addr_add] at c0 c1 c2
      exact ⟨c0, c1, c2, c3, c4⟩
end
end Go.Proofs.Ytbkbkhinpeoflaa
