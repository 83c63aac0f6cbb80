/-
  How a slice of pairs of a bool and a slice of ints that came in is read.
-/
import Derived.Test.YtehaijdbmnljnaaLawI
import Derived.Deep.SlicePairs
namespace Go.Proofs.Ytehaijdbmnljnaa
open Go.ChangeShapes Go.WideShapes Go.ChangeAt Go.RowKit Go.Deep

/-- A slice of answers: at place i, yes or no (Y), the slice of nodes (Hd) and the nodes themselves (L). -/
structure SaysV (w : World) (ad : Option Addr) (n c : Nat) (Y : Nat → Bool) (Hd : Nat → Option Addr × Nat × Nat) (L : Nat → List Int) : Prop where
  small : n ≤ maxLen
  cap : n ≤ c
  capm : c ≤ maxLen
  row : 0 < n → ∃ b o, ad = some ⟨b, o, none⟩ ∧ b < w.heap.size ∧ ∀ i, i < n → w.cell? ⟨b, o + i * 2, none⟩ = some (.bool (Y i)) ∧ w.cell? ⟨b, o + i * 2 + 1, none⟩ = some (.slice (Hd i).1 (Hd i).2.1 (Hd i).2.2) ∧ ((Hd i).2.1 ≤ 100 → IntsV w (Hd i) (L i))
theorem SaysV.below {w w' : World} {ad : Option Addr} {n c : Nat} {Y : Nat → Bool} {Hd : Nat → Option Addr × Nat × Nat} {L : Nat → List Int} (h : SaysV w ad n c Y Hd L) (hb : Below w.heap.size w w') : SaysV w' ad n c Y Hd L :=
  ⟨h.small, h.cap, h.capm, fun h0 => by
    obtain ⟨b, o, e, hlt, hc⟩ := h.row h0
    refine ⟨b, o, e, Nat.lt_of_lt_of_le hlt hb.size, fun i hi => ?_⟩
    obtain ⟨c1, c2, c3⟩ := hc i hi
    exact ⟨(hb.cell hlt).trans c1, (hb.cell hlt).trans c2, fun h => (c3 h).below hb⟩⟩
theorem SaysV.cut {w : World} {ad : Option Addr} {n c : Nat} {Y : Nat → Bool} {Hd : Nat → Option Addr × Nat × Nat} {L : Nat → List Int} (h : SaysV w ad n c Y Hd L) {m : Nat} (hm : m ≤ n) : SaysV w ad m c Y Hd L :=
  ⟨Nat.le_trans hm h.small, Nat.le_trans hm h.cap, h.capm, fun h0 => by
    obtain ⟨b, o, e, hlt, hc⟩ := h.row (by omega)
    exact ⟨b, o, e, hlt, fun i hi => hc i (by omega)⟩⟩

theorem cell_lt {w : World} {a : Addr} {v : Value} (h : w.cell? a = some v) : a.block < w.heap.size := by
  unfold World.cell? at h
  by_cases hlt : a.block < w.heap.size
  · exact hlt
  · rw [Array.getElem?_eq_none (by omega)] at h
    simp at h

section
variable {H : Type} {enc : TypeId × Value → H}
theorem openSays {P : Program} {W : World} {base : Nat} {r : Reach} {t e z : TypeId} {f0 f1 : Field} {v : Value} {d : DataW H} {p : List MemPlace} (ht : P.underlying t = some (.slice e)) (he : P.underlying e = some (.struct #[f0, f1]))
    (ce : P.cellsOf e = 2) (o0 : f0.offset = 0) (o1 : f1.offset = 1) (k0 : P.cellsOf f0.type = 1) (k1 : P.cellsOf f1.type = 1) (u0 : P.underlying f0.type = some .bool) (u1 : P.underlying f1.type = some (.slice z)) (uz : P.underlying z = some (.int .i64)) (cz : P.cellsOf z = 1)
    (hok : Value.okWide P W r base t v) (h : DataW.Trod enc P W 0 (fun _ => true) true t v d p) :
    ∃ ad n c Y Hd L, v = .slice ad n c ∧ SaysV W ad n c Y Hd L := by
  obtain ⟨a0, len0, cap0, rfl⟩ := okWide_slice ht hok
  obtain ⟨fuel, hf⟩ := h
  rcases open_slice_pairs ht he ce o0 o1 k0 k1 hf with ⟨hcs, _⟩ | ⟨x, l, c, m, n, V0, V1, D0, D1, P0, P1, hcs, _, hl, hm, hmm, hx, hcell⟩
  · simp [Value.cells] at hcs
    obtain ⟨rfl, rfl, rfl⟩ := hcs
    exact ⟨none, 0, 0, fun _ => false, fun _ => (none, 0, 0), fun _ => [], rfl, by unfold maxLen; omega, Nat.le_refl _, by unfold maxLen; omega, fun h => absurd h (by omega)⟩
  · simp [Value.cells] at hcs
    obtain ⟨rfl, rfl, rfl⟩ := hcs
    simp only [if_true] at hmm
    subst hmm
    have each : ∀ i, ∃ g : Bool × (Option Addr × Nat × Nat) × List Int, i < m → V0 i = .bool g.1 ∧ V1 i = .slice g.2.1.1 g.2.1.2.1 g.2.1.2.2 ∧ (g.2.1.2.1 ≤ 100 → IntsV W g.2.1 g.2.2) := by
      intro i
      by_cases hi : i < m
      · obtain ⟨c0, c1, t0, t1⟩ := hcell i hi
        obtain ⟨y, hy, _⟩ := DataW.trod_bool u0 t0
        rcases open_ints u1 uz cz t1 with ⟨hcs, _⟩ | ⟨x1, l1, cc1, zs, hcs, _, hl1, hm1, hz, hx1, hcell1, hwz⟩
        · refine ⟨⟨y, (none, 0, 0), []⟩, fun _ => ⟨(List.cons.inj hy).1, (List.cons.inj hcs).1, fun _ => intsV_nil _⟩⟩
        · simp only [if_true] at hz
          refine ⟨⟨y, (some x1, l1, cc1), zs.take l1⟩, fun _ => ⟨(List.cons.inj hy).1, (List.cons.inj hcs).1, fun h100 => ?_⟩⟩
          simp only at h100
          refine ⟨⟨by simp; omega, fun h0 => ?_⟩, by simp only; omega, hl1, fun h => by cases h⟩
          simp only at h0
          have hx2 := addr_plain (hcell1 0 (by omega))
          refine ⟨x1.block, x1.off, by rw [← hx2], fun i hi => ?_⟩
          simp only at hi
          have hc := hcell1 i (by omega)
          rw [hx2, addr_add] at hc
          rw [hc, List.getElem?_map, List.getElem?_take, if_pos hi]
          simp [iv, List.getD_eq_getElem?_getD, List.getElem?_eq_getElem (show i < zs.length by omega)]
      · exact ⟨⟨false, (none, 0, 0), []⟩, fun h => absurd h hi⟩
    obtain ⟨g, hg⟩ := Classical.axiomOfChoice each
    refine ⟨some x, _, _, fun i => (g i).1, fun i => (g i).2.1, fun i => (g i).2.2, rfl, by omega, hl, hm, fun h0 => ?_⟩
    have hx0 := addr_plain (hcell 0 (by omega)).1
    have hx1 : x = ⟨x.block, x.off, none⟩ := by simpa using hx0
    refine ⟨x.block, x.off, by rw [← hx1], ?_, fun i hi => ?_⟩
    · have hc := (hcell 0 (by omega)).1
      rw [hx1, addr_add] at hc
      exact cell_lt (a := ⟨x.block, x.off + 0 * 2, none⟩) hc
    · obtain ⟨c0, c1, _, _⟩ := hcell i (by omega)
      obtain ⟨e0, e1, e2⟩ := hg i (by omega)
      rw [hx1, addr_add, e0] at c0
      rw [hx1, addr_add, e1] at c1
      exact ⟨c0, c1, e2⟩
end
end Go.Proofs.Ytehaijdbmnljnaa
