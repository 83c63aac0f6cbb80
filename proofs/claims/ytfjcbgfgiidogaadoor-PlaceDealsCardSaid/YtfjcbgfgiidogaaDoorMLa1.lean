/-
  La1: LawP LawQ
-/
import Derived.Deep.Slices
import Derived.Deep.Matrix
import Derived.Deep.SlicePairs
import Derived.Test.YtfjcbgfgiidogaaDoorMBase
import Derived.Test.YtfjcbgfgiidogaaDoorMRq5
import Derived.Test.YtfjcbgfgiidogaaDoorMCh2
namespace Go.Proofs.YtfjcbgfgiidogaaDoor
open Go.ChangeShapes Go.WideShapes Go.ChangeAt Go.RowKit Go.Deep

section
variable {H : Type} {enc : TypeId × Value → H}
theorem bytes_cells {P : Program} {W : World} {t e : TypeId} {v : Value} {y : DataW H × List MemPlace} {n : Nat} (ht : P.underlying t = some (.slice e)) (he : P.underlying e = some (.int .u8)) (hc : P.cellsOf e = 1) (hby : P.bytesOf e = 1)
    (hf : DataW.trod enc P W 0 (fun _ => true) true n t [v] = some y) (hw : ∀ n ∈ y.1.weights P t, n ≤ reachBytes) :
    ∃ ad n c l, v = .slice ad n c ∧ BytesV W (ad, n, c) l := by
  rcases open_ints ht he hc hf with ⟨hcs, _⟩ | ⟨x, l, c, zs, hcs, _, hl, hm, hz, hx, hcell, hwz⟩
  · exact ⟨none, 0, 0, [], (List.cons.inj hcs).1, bytesV_nil _⟩
  · simp only [if_true] at hz
    subst hx
    have hcap : c ≤ 140737488351232 := by
      have := hw ((lits (H := H) .u8 (zs.take l)).length + (lits (H := H) .u8 (zs.drop l)).length) (by simp [DataW.weights, ht, hby, lits])
      simp [lits, reachBytes] at this
      omega
    exact ⟨_, _, _, _, (List.cons.inj hcs).1, bytesV_of_cells hl hz (fun i hi => hcell i (by omega)) hwz (by omega)⟩

theorem openPieces {P : Program} {W : World} {base : Nat} {r : Reach} {t e q : TypeId} {f0 f1 : Field} {v : Value} {d : DataW H} {p : List MemPlace} (ht : P.underlying t = some (.slice e)) (he : P.underlying e = some (.struct #[f0, f1]))
    (ce : P.cellsOf e = 2) (o0 : f0.offset = 0) (o1 : f1.offset = 1) (k0 : P.cellsOf f0.type = 1) (k1 : P.cellsOf f1.type = 1)
    (u0 : P.underlying f0.type = some (.int .i64)) (u1 : P.underlying f1.type = some (.slice q)) (uq : P.underlying q = some (.int .u8)) (cq : P.cellsOf q = 1) (bq : P.bytesOf q = 1)
    (hok : Value.okWide P W r base t v) (h : DataW.Trod enc P W 0 (fun _ => true) true t v d p) (hw : ∀ n ∈ d.weights P t, n ≤ reachBytes) :
    ∃ ad n c ps, v = .slice ad n c ∧ PiV W ad n ps ∧ n ≤ maxLen := by
  obtain ⟨a0, len0, cap0, rfl⟩ := okWide_slice ht hok
  obtain ⟨fuel, hf⟩ := h
  rcases open_slice ht hf with ⟨hcs, _⟩ | ⟨a, len, cap, m, n, D, Pl, hcs, hb, hl, hm, hmm, hxx, hx⟩
  · simp [Value.cells] at hcs
    obtain ⟨rfl, rfl, rfl⟩ := hcs
    exact ⟨none, 0, 0, [], rfl, PiV.nil _ _, by unfold maxLen; omega⟩
  · simp [Value.cells] at hcs
    obtain ⟨rfl, rfl, rfl⟩ := hcs
    simp only [if_true] at hmm
    subst hmm
    simp only [Prod.mk.injEq] at hxx
    have each : ∀ i, ∃ g : Int × (Option Addr × Nat × Nat) × List Nat, i < len0 → W.cell? (a.add (i * 2)) = some (.int .i64 g.1) ∧ W.cell? (a.add (i * 2 + 1)) = some (.slice g.2.1.1 g.2.1.2.1 g.2.1.2.2) ∧ BytesV W g.2.1 g.2.2 := by
      intro i
      by_cases hi : i < len0
      · obtain ⟨cs', h1, h2⟩ := hx i (by omega)
        rw [ce] at h1
        obtain ⟨_, hlen, hcell⟩ := World.cells?_some h1
        obtain ⟨xs, k, hk, hxy, _, hxl, hf⟩ := DataW.trod_struct he h2
        match xs, hxl, cs', hlen with
        | [y0, y1], _, [v0, v1], _ =>
          have g0 := hf 0 f0 rfl
          have g1 := hf 1 f1 rfl
          simp [o0, o1, k0, k1] at g0 g1
          have e0 := hcell 0 (by omega)
          have e1 := hcell 1 (by omega)
          rw [add_add] at e0 e1
          simp only [Prod.mk.injEq] at hxy
          obtain ⟨z0, hz0, _, _⟩ := DataW.trod_int u0 g0
          obtain ⟨b1, b2, b3, l, hv2, hBV⟩ := bytes_cells u1 uq cq bq g1 (fun x hx => by
            refine hw x ?_
            rw [hxx.1]
            simp only [DataW.weights, ht, List.mem_cons, List.mem_append]
            right; left
            refine weightsAll_mem (d := D i) (List.mem_map.2 ⟨i, by simpa using hi, rfl⟩) _ ?_
            rw [hxy.1]
            simp only [DataW.weights, he]
            simp [DataW.weightsEach, hx])
          obtain ⟨rfl⟩ := (List.cons.inj hz0).1
          subst hv2
          exact ⟨⟨z0, (b1, b2, b3), l⟩, fun _ => ⟨by simpa using e0, by simpa using e1, hBV⟩⟩
      · exact ⟨⟨0, (none, 0, 0), []⟩, fun h => absurd h hi⟩
    obtain ⟨g, hg⟩ := Classical.axiomOfChoice each
    refine ⟨some a, _, _, (List.range len0).map fun i => ((g i).1, (g i).2.2), rfl, ⟨by simp, (List.range len0).map fun i => ((g i).1, (g i).2.1), by simp, fun h0 => ?_, fun i x p hx hp => ?_⟩, by omega⟩
    · have hx0 := addr_plain (hg 0 (by omega)).1
      have hx1 : a = ⟨a.block, a.off, none⟩ := by simpa using hx0
      refine ⟨a.block, a.off, by rw [← hx1], fun i x hx => ?_⟩
      have hi : i < len0 := by have := (List.getElem?_eq_some_iff.1 hx).1; simpa using this
      rw [List.getElem?_map, List.getElem?_range hi] at hx
      obtain rfl := Option.some.inj hx
      obtain ⟨c0, c1, -⟩ := hg i hi
      rw [hx1, addr_add] at c0 c1
      exact ⟨c0, c1⟩
    · have hi : i < len0 := by have := (List.getElem?_eq_some_iff.1 hx).1; simpa using this
      rw [List.getElem?_map, List.getElem?_range hi] at hx hp
      obtain rfl := Option.some.inj hx
      obtain rfl := Option.some.inj hp
      exact ⟨rfl, (hg i hi).2.2⟩
end
end Go.Proofs.YtfjcbgfgiidogaaDoor
namespace Go.Proofs.YtfjcbgfgiidogaaDoor
open Go.ChangeShapes Go.WideShapes Go.ChangeAt Go.RowKit Go.Deep

/-- A slice of takes: at place i the block (Y), the slice of numbers (Hd) and the numbers themselves (L). -/
structure TakesV (w : World) (ad : Option Addr) (n c : Nat) (Y : Nat → Int) (Hd : Nat → Option Addr × Nat × Nat) (L : Nat → List Int) : Prop where
  small : n ≤ maxLen
  cap : n ≤ c
  capm : c ≤ maxLen
  row : 0 < n → ∃ b o, ad = some ⟨b, o, none⟩ ∧ b < w.heap.size ∧ ∀ i, i < n → w.cell? ⟨b, o + i * 2, none⟩ = some (.int .i64 (Y i)) ∧ w.cell? ⟨b, o + i * 2 + 1, none⟩ = some (.slice (Hd i).1 (Hd i).2.1 (Hd i).2.2) ∧ ((Hd i).2.1 ≤ 100 → IntsV w (Hd i) (L i))
theorem TakesV.below {w w' : World} {ad : Option Addr} {n c : Nat} {Y : Nat → Int} {Hd : Nat → Option Addr × Nat × Nat} {L : Nat → List Int} (h : TakesV w ad n c Y Hd L) (hb : Below w.heap.size w w') : TakesV w' ad n c Y Hd L :=
  ⟨h.small, h.cap, h.capm, fun h0 => by
    obtain ⟨b, o, e, hlt, hc⟩ := h.row h0
    refine ⟨b, o, e, Nat.lt_of_lt_of_le hlt hb.size, fun i hi => ?_⟩
    obtain ⟨c1, c2, c3⟩ := hc i hi
    exact ⟨(hb.cell hlt).trans c1, (hb.cell hlt).trans c2, fun h => (c3 h).below hb⟩⟩
theorem TakesV.cut {w : World} {ad : Option Addr} {n c : Nat} {Y : Nat → Int} {Hd : Nat → Option Addr × Nat × Nat} {L : Nat → List Int} (h : TakesV w ad n c Y Hd L) {m : Nat} (hm : m ≤ n) : TakesV w ad m c Y Hd L :=
  ⟨Nat.le_trans hm h.small, Nat.le_trans hm h.cap, h.capm, fun h0 => by
    obtain ⟨b, o, e, hlt, hc⟩ := h.row (by omega)
    exact ⟨b, o, e, hlt, fun i hi => hc i (by omega)⟩⟩

theorem cell_ltQ {w : World} {a : Addr} {v : Value} (h : w.cell? a = some v) : a.block < w.heap.size := by
  unfold World.cell? at h
  by_cases hlt : a.block < w.heap.size
  · exact hlt
  · rw [Array.getElem?_eq_none (by omega)] at h
    simp at h
section
variable {H : Type} {enc : TypeId × Value → H}
theorem openTakes {P : Program} {W : World} {base : Nat} {r : Reach} {t e z : TypeId} {f0 f1 : Field} {v : Value} {d : DataW H} {p : List MemPlace} (ht : P.underlying t = some (.slice e)) (he : P.underlying e = some (.struct #[f0, f1]))
    (ce : P.cellsOf e = 2) (o0 : f0.offset = 0) (o1 : f1.offset = 1) (k0 : P.cellsOf f0.type = 1) (k1 : P.cellsOf f1.type = 1) (u0 : P.underlying f0.type = some (.int .i64)) (u1 : P.underlying f1.type = some (.slice z)) (uz : P.underlying z = some (.int .i64)) (cz : P.cellsOf z = 1)
    (hok : Value.okWide P W r base t v) (h : DataW.Trod enc P W 0 (fun _ => true) true t v d p) :
    ∃ ad n c Y Hd L, v = .slice ad n c ∧ TakesV W ad n c Y Hd L := by
  obtain ⟨a0, len0, cap0, rfl⟩ := okWide_slice ht hok
  obtain ⟨fuel, hf⟩ := h
  rcases open_slice_pairs ht he ce o0 o1 k0 k1 hf with ⟨hcs, _⟩ | ⟨x, l, c, m, n, V0, V1, D0, D1, P0, P1, hcs, _, hl, hm, hmm, hx, hcell⟩
  · simp [Value.cells] at hcs
    obtain ⟨rfl, rfl, rfl⟩ := hcs
    exact ⟨none, 0, 0, fun _ => 0, fun _ => (none, 0, 0), fun _ => [], rfl, by unfold maxLen; omega, Nat.le_refl _, by unfold maxLen; omega, fun h => absurd h (by omega)⟩
  · simp [Value.cells] at hcs
    obtain ⟨rfl, rfl, rfl⟩ := hcs
    simp only [if_true] at hmm
    subst hmm
    have each : ∀ i, ∃ g : Int × (Option Addr × Nat × Nat) × List Int, i < m → V0 i = .int .i64 g.1 ∧ V1 i = .slice g.2.1.1 g.2.1.2.1 g.2.1.2.2 ∧ (g.2.1.2.1 ≤ 100 → IntsV W g.2.1 g.2.2) := by
      intro i
      by_cases hi : i < m
      · obtain ⟨c0, c1, t0, t1⟩ := hcell i hi
        obtain ⟨y, hy, _⟩ := DataW.trod_int u0 t0
        rcases open_ints u1 uz cz t1 with ⟨hcs, _⟩ | ⟨x1, l1, cc1, zs, hcs, _, hl1, hm1, hz, hx1, hcell1, hwz⟩
        · refine ⟨⟨y, (none, 0, 0), []⟩, fun _ => ⟨(List.cons.inj hy).1, (List.cons.inj hcs).1, fun _ => intsV_nil _⟩⟩
        · simp only [if_true] at hz
          refine ⟨⟨y, (some x1, l1, cc1), zs.take l1⟩, fun _ => ⟨(List.cons.inj hy).1, (List.cons.inj hcs).1, fun h100 => ?_⟩⟩
          simp only at h100
          refine ⟨⟨by simp; omega, fun h0 => ?_⟩, by simp only; omega, hl1, fun h => by cases h⟩
          simp only at h0
          have hx2 := addr_plain (hcell1 0 (by omega))
          refine ⟨x1.block, x1.off, by rw [← hx2], fun i hi => ?_⟩
          simp only at hi
          have hc := hcell1 i (by omega)
          rw [hx2, addr_add] at hc
          rw [hc, List.getElem?_map, List.getElem?_take, if_pos hi]
          simp [iv, List.getD_eq_getElem?_getD, List.getElem?_eq_getElem (show i < zs.length by omega)]
      · exact ⟨⟨0, (none, 0, 0), []⟩, fun h => absurd h hi⟩
    obtain ⟨g, hg⟩ := Classical.axiomOfChoice each
    refine ⟨some x, _, _, fun i => (g i).1, fun i => (g i).2.1, fun i => (g i).2.2, rfl, by omega, hl, hm, fun h0 => ?_⟩
    have hx0 := addr_plain (hcell 0 (by omega)).1
    have hx1 : x = ⟨x.block, x.off, none⟩ := by simpa using hx0
    refine ⟨x.block, x.off, by rw [← hx1], ?_, fun i hi => ?_⟩
    · have hc := (hcell 0 (by omega)).1
      rw [hx1, addr_add] at hc
      exact cell_ltQ (a := ⟨x.block, x.off + 0 * 2, none⟩) hc
    · obtain ⟨c0, c1, _, _⟩ := hcell i (by omega)
      obtain ⟨e0, e1, e2⟩ := hg i (by omega)
      rw [hx1, addr_add, e0] at c0
      rw [hx1, addr_add, e1] at c1
      exact ⟨c0, c1, e2⟩

theorem openSyms {P : Program} {W : World} {base : Nat} {r : Reach} {t e q : TypeId} {f0 f1 f2 : Field} {v : Value} {d : DataW H} {p : List MemPlace} (ht : P.underlying t = some (.slice e)) (he : P.underlying e = some (.struct #[f0, f1, f2]))
    (ce : P.cellsOf e = 3) (o0 : f0.offset = 0) (o1 : f1.offset = 1) (o2 : f2.offset = 2) (k0 : P.cellsOf f0.type = 1) (k1 : P.cellsOf f1.type = 1) (k2 : P.cellsOf f2.type = 1)
    (u0 : P.underlying f0.type = some (.int .i64)) (u1 : P.underlying f1.type = some (.int .i64)) (u2 : P.underlying f2.type = some (.slice q)) (uq : P.underlying q = some (.int .u8)) (cq : P.cellsOf q = 1) (bq : P.bytesOf q = 1)
    (hok : Value.okWide P W r base t v) (h : DataW.Trod enc P W 0 (fun _ => true) true t v d p) (hw : ∀ n ∈ d.weights P t, n ≤ reachBytes) :
    ∃ ad n c ps, v = .slice ad n c ∧ SyV W ad n ps ∧ n ≤ maxLen := by
  obtain ⟨a0, len0, cap0, rfl⟩ := okWide_slice ht hok
  obtain ⟨fuel, hf⟩ := h
  rcases open_slice ht hf with ⟨hcs, _⟩ | ⟨a, len, cap, m, n, D, Pl, hcs, hb, hl, hm, hmm, hxx, hx⟩
  · simp [Value.cells] at hcs
    obtain ⟨rfl, rfl, rfl⟩ := hcs
    exact ⟨none, 0, 0, [], rfl, SyV.nil _ _, by unfold maxLen; omega⟩
  · simp [Value.cells] at hcs
    obtain ⟨rfl, rfl, rfl⟩ := hcs
    simp only [if_true] at hmm
    subst hmm
    simp only [Prod.mk.injEq] at hxx
    have each : ∀ i, ∃ g : (Int × Int) × (Option Addr × Nat × Nat) × List Nat, i < len0 → W.cell? (a.add (i * 3)) = some (.int .i64 g.1.1) ∧ W.cell? (a.add (i * 3 + 1)) = some (.int .i64 g.1.2) ∧ W.cell? (a.add (i * 3 + 2)) = some (.slice g.2.1.1 g.2.1.2.1 g.2.1.2.2) ∧ BytesV W g.2.1 g.2.2 := by
      intro i
      by_cases hi : i < len0
      · obtain ⟨cs', h1, h2⟩ := hx i (by omega)
        rw [ce] at h1
        obtain ⟨_, hlen, hcell⟩ := World.cells?_some h1
        obtain ⟨xs, k, hk, hxy, _, hxl, hf⟩ := DataW.trod_struct he h2
        match xs, hxl, cs', hlen with
        | [y0, y1, y2], _, [v0, v1, v2], _ =>
          have g0 := hf 0 f0 rfl
          have g1 := hf 1 f1 rfl
          have g2 := hf 2 f2 rfl
          simp [o0, o1, o2, k0, k1, k2] at g0 g1 g2
          have e0 := hcell 0 (by omega)
          have e1 := hcell 1 (by omega)
          have e2 := hcell 2 (by omega)
          rw [add_add] at e0 e1 e2
          simp only [Prod.mk.injEq] at hxy
          obtain ⟨z0, hz0, _, _⟩ := DataW.trod_int u0 g0
          obtain ⟨z1, hz1, _, _⟩ := DataW.trod_int u1 g1
          obtain ⟨b1, b2, b3, l, hv2, hBV⟩ := bytes_cells u2 uq cq bq g2 (fun x hx => by
            refine hw x ?_
            rw [hxx.1]
            simp only [DataW.weights, ht, List.mem_cons, List.mem_append]
            right; left
            refine weightsAll_mem (d := D i) (List.mem_map.2 ⟨i, by simpa using hi, rfl⟩) _ ?_
            rw [hxy.1]
            simp only [DataW.weights, he]
            simp [DataW.weightsEach, hx])
          obtain ⟨rfl⟩ := (List.cons.inj hz0).1
          obtain ⟨rfl⟩ := (List.cons.inj hz1).1
          subst hv2
          exact ⟨⟨(z0, z1), (b1, b2, b3), l⟩, fun _ => ⟨by simpa using e0, by simpa using e1, by simpa using e2, hBV⟩⟩
      · exact ⟨⟨(0, 0), (none, 0, 0), []⟩, fun h => absurd h hi⟩
    obtain ⟨g, hg⟩ := Classical.axiomOfChoice each
    refine ⟨some a, _, _, (List.range len0).map fun i => ((g i).1.1, (g i).1.2, (g i).2.2), rfl, ⟨by simp, (List.range len0).map fun i => ((g i).1.1, (g i).1.2, (g i).2.1), by simp, fun h0 => ?_, fun i x p hx hp => ?_⟩, by omega⟩
    · have hx0 := addr_plain (hg 0 (by omega)).1
      have hx1 : a = ⟨a.block, a.off, none⟩ := by simpa using hx0
      refine ⟨a.block, a.off, by rw [← hx1], fun i x hx => ?_⟩
      have hi : i < len0 := by have := (List.getElem?_eq_some_iff.1 hx).1; simpa using this
      rw [List.getElem?_map, List.getElem?_range hi] at hx
      obtain rfl := Option.some.inj hx
      obtain ⟨c0, c1, c2, -⟩ := hg i hi
      rw [hx1, addr_add] at c0 c1 c2
      exact ⟨c0, c1, c2⟩
    · have hi : i < len0 := by have := (List.getElem?_eq_some_iff.1 hx).1; simpa using this
      rw [List.getElem?_map, List.getElem?_range hi] at hx hp
      obtain rfl := Option.some.inj hx
      obtain rfl := Option.some.inj hp
      exact ⟨rfl, rfl, (hg i hi).2.2.2⟩
end
end Go.Proofs.YtfjcbgfgiidogaaDoor
