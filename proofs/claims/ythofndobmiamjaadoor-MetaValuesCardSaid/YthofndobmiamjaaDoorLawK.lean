/-
  How a record (an int, a string, a meta, places) that came in is read.
-/
import Derived.Test.YthofndobmiamjaaDoorRows
import Derived.Test.YthofndobmiamjaaDoorMeN
import Derived.Test.YthofndobmiamjaaDoorLaw
import Derived.Deep.Slices
import Derived.Deep.Matrix
namespace Go.Proofs.YthofndobmiamjaaDoor
open Go.ChangeShapes Go.WideShapes Go.ChangeAt Go.RowKit Go.Deep

theorem array9K {α : Type} {cs : Array α} (h : cs.size = 9) : ∃ c0 c1 c2 c3 c4 c5 c6 c7 c8, cs = #[c0, c1, c2, c3, c4, c5, c6, c7, c8] := by
  obtain ⟨l⟩ := cs
  match l, h with
  | [c0, c1, c2, c3, c4, c5, c6, c7, c8], _ => exact ⟨c0, c1, c2, c3, c4, c5, c6, c7, c8, rfl⟩
theorem cell_ltK {w : World} {a : Addr} {v : Value} (h : w.cell? a = some v) : a.block < w.heap.size := World.block_lt_of_cell? w a h
section
variable {H : Type} {enc : TypeId × Value → H}
theorem bytes_cellsK {P : Program} {W : World} {t e : TypeId} {v : Value} {y : DataW H × List MemPlace} {n : Nat} (ht : P.underlying t = some (.slice e)) (he : P.underlying e = some (.int .u8)) (hc : P.cellsOf e = 1) (hby : P.bytesOf e = 1)
    (hf : DataW.trod enc P W 0 (fun _ => true) true n t [v] = some y) (hw : ∀ n ∈ y.1.weights P t, n ≤ reachBytes) :
    ∃ ad n c l, v = .slice ad n c ∧ BytesV W (ad, n, c) l := by
  rcases open_ints ht he hc hf with ⟨hcs, _⟩ | ⟨x, l, c, zs, hcs, _, hl, hm, hz, hx, hcell, hwz⟩
  · exact ⟨none, 0, 0, [], (List.cons.inj hcs).1, bytesV_nil _⟩
  · simp only [if_true] at hz
    subst hx
    have hcap : c ≤ 140737488351232 := by
      have := hw ((lits (H := H) .u8 (zs.take l)).length + (lits (H := H) .u8 (zs.drop l)).length) (by simp [DataW.weights, ht, hby, lits])
      simp [lits, reachBytes] at this
      omega
    exact ⟨_, _, _, _, (List.cons.inj hcs).1, bytesV_of_cells hl hz (fun i hi => hcell i (by omega)) hwz (by omega)⟩

theorem placesCells {P : Program} {W : World} {t e q : TypeId} {f0 f1 f2 f3 : Field} {v : Value} {y : DataW H × List MemPlace} {fuel : Nat} (ht : P.underlying t = some (.slice e)) (he : P.underlying e = some (.struct #[f0, f1, f2, f3]))
    (ce : P.cellsOf e = 4) (o0 : f0.offset = 0) (o1 : f1.offset = 1) (o2 : f2.offset = 2) (o3 : f3.offset = 3) (k0 : P.cellsOf f0.type = 1) (k1 : P.cellsOf f1.type = 1) (k2 : P.cellsOf f2.type = 1) (k3 : P.cellsOf f3.type = 1)
    (u0 : P.underlying f0.type = some (.int .i64)) (u1 : P.underlying f1.type = some (.int .i64)) (u2 : P.underlying f2.type = some (.int .i64)) (u3 : P.underlying f3.type = some (.slice q)) (uq : P.underlying q = some (.int .u8)) (cq : P.cellsOf q = 1) (bq : P.bytesOf q = 1)
    (hf : DataW.trod enc P W 0 (fun _ => true) true fuel t [v] = some y) (hw : ∀ n ∈ y.1.weights P t, n ≤ reachBytes) :
    ∃ ad n c Q, v = .slice ad n c ∧ PlacesV W ad n c Q := by
  rcases open_slice ht hf with ⟨hcs, _⟩ | ⟨a, len, cap, m, n, D, Pl, hcs, hb, hl, hm, hmm, hxx, hx⟩
  · exact ⟨none, 0, 0, fun _ => ⟨0, 0, 0, (none, 0, 0), []⟩, (List.cons.inj hcs).1, ⟨by unfold maxLen; omega, Nat.le_refl _, fun _ => rfl, fun h => absurd h (by omega)⟩⟩
  · obtain rfl := (List.cons.inj hcs).1
    simp only [if_true] at hmm
    subst hmm
    subst hxx
    have each : ∀ i, ∃ g : PlR, i < len → W.cell? (a.add (i * 4)) = some (.int .i64 g.b) ∧ W.cell? (a.add (i * 4 + 1)) = some (.int .i64 g.e) ∧ W.cell? (a.add (i * 4 + 2)) = some (.int .i64 g.s) ∧ W.cell? (a.add (i * 4 + 3)) = some (.slice g.x.1 g.x.2.1 g.x.2.2) ∧ BytesV W (g.x.1, g.x.2.1, g.x.2.2) g.l := by
      intro i
      by_cases hi : i < len
      · obtain ⟨cs', h1, h2⟩ := hx i (by omega)
        rw [ce] at h1
        obtain ⟨_, hlen, hcell⟩ := World.cells?_some h1
        obtain ⟨xs, k, hk, hxy, _, hxl, hf⟩ := DataW.trod_struct he h2
        match xs, hxl, cs', hlen with
        | [y0, y1, y2, y3], _, [v0, v1, v2, v3], _ =>
          have g0 := hf 0 f0 rfl
          have g1 := hf 1 f1 rfl
          have g2 := hf 2 f2 rfl
          have g3 := hf 3 f3 rfl
          simp [o0, o1, o2, o3, k0, k1, k2, k3] at g0 g1 g2 g3
          have e0 := hcell 0 (by omega)
          have e1 := hcell 1 (by omega)
          have e2 := hcell 2 (by omega)
          have e3 := hcell 3 (by omega)
          rw [add_add] at e0 e1 e2 e3
          simp only [Prod.mk.injEq] at hxy
          obtain ⟨z0, hz0, _, _⟩ := DataW.trod_int u0 g0
          obtain ⟨z1, hz1, _, _⟩ := DataW.trod_int u1 g1
          obtain ⟨z2, hz2, _, _⟩ := DataW.trod_int u2 g2
          obtain ⟨b1, b2, b3, l, hv2, hBV⟩ := bytes_cellsK u3 uq cq bq g3 (fun x hx => by
            refine hw x ?_
            simp only [DataW.weights, ht, List.mem_cons, List.mem_append]
            right; left
            refine weightsAll_mem (d := D i) (List.mem_map.2 ⟨i, by simpa using hi, rfl⟩) _ ?_
            rw [hxy.1]
            simp only [DataW.weights, he]
            simp [DataW.weightsEach, hx])
          obtain ⟨rfl⟩ := (List.cons.inj hz0).1
          obtain ⟨rfl⟩ := (List.cons.inj hz1).1
          obtain ⟨rfl⟩ := (List.cons.inj hz2).1
          subst hv2
          exact ⟨⟨z0, z1, z2, (b1, b2, b3), l⟩, fun _ => ⟨by simpa using e0, by simpa using e1, by simpa using e2, by simpa using e3, hBV⟩⟩
      · exact ⟨⟨0, 0, 0, (none, 0, 0), []⟩, fun h => absurd h hi⟩
    obtain ⟨g, hg⟩ := Classical.axiomOfChoice each
    refine ⟨some a, _, _, g, rfl, ⟨by omega, by omega, (fun e => by cases e), fun h0 => ?_⟩⟩
    have hx0 := addr_plain (hg 0 (by omega)).1
    have hx1 : a = ⟨a.block, a.off, none⟩ := by simpa using hx0
    refine ⟨a.block, a.off, by rw [← hx1], ?_, fun i hi => ?_⟩
    · have c0 := (hg 0 (by omega)).1
      rw [hx1, addr_add] at c0
      exact cell_ltK (a := ⟨a.block, a.off + 0 * 4, none⟩) c0
    · obtain ⟨c0, c1, c2, c3, hB⟩ := hg i hi
      rw [hx1, addr_add] at c0 c1 c2 c3
      exact ⟨c0, by simpa [Nat.add_assoc] using c1, by simpa [Nat.add_assoc] using c2, by simpa [Nat.add_assoc] using c3, hB⟩
theorem openRecord {P : Program} {W : World} {base : Nat} {r : Reach} {t tm tt tp e q : TypeId} {r0 r1 r2 r3 m0 m1 m2 m3 m4 g0 g1 f0 f1 f2 f3 : Field} {v : Value} {d : DataW H} {p : List MemPlace}
    (ut : P.underlying t = some (.struct #[r0, r1, r2, r3])) (ct : P.cellsOf t = 9) (ro : (r0.offset, r1.offset, r2.offset, r3.offset) = (0, 1, 2, 8)) (rc : (P.cellsOf r0.type, P.cellsOf r1.type, P.cellsOf tm, P.cellsOf tp) = (1, 1, 6, 1)) (et2 : r2.type = tm) (et3 : r3.type = tp)
    (ur0 : P.underlying r0.type = some (.int .i64)) (ur1 : P.underlying r1.type = some .string)
    (um : P.underlying tm = some (.struct #[m0, m1, m2, m3, m4])) (mo : (m0.offset, m1.offset, m2.offset, m3.offset, m4.offset) = (0, 2, 3, 4, 5)) (mc : (P.cellsOf tt, P.cellsOf m1.type, P.cellsOf m2.type, P.cellsOf m3.type, P.cellsOf m4.type) = (2, 1, 1, 1, 1)) (emt : m0.type = tt)
    (um1 : P.underlying m1.type = some (.int .i64)) (um2 : P.underlying m2.type = some (.int .i64)) (um3 : P.underlying m3.type = some .bool) (um4 : P.underlying m4.type = some (.slice q))
    (ug : P.underlying tt = some (.struct #[g0, g1])) (go : (g0.offset, g1.offset) = (0, 1)) (gc : (P.cellsOf g0.type, P.cellsOf g1.type) = (1, 1)) (ug0 : P.underlying g0.type = some (.int .i64)) (ug1 : P.underlying g1.type = some (.int .i64))
    (ht : P.underlying tp = some (.slice e)) (he : P.underlying e = some (.struct #[f0, f1, f2, f3])) (ce : P.cellsOf e = 4) (fo : (f0.offset, f1.offset, f2.offset, f3.offset) = (0, 1, 2, 3)) (fc : (P.cellsOf f0.type, P.cellsOf f1.type, P.cellsOf f2.type, P.cellsOf f3.type) = (1, 1, 1, 1))
    (u0 : P.underlying f0.type = some (.int .i64)) (u1 : P.underlying f1.type = some (.int .i64)) (u2 : P.underlying f2.type = some (.int .i64)) (u3 : P.underlying f3.type = some (.slice q)) (uq : P.underlying q = some (.int .u8)) (cq : P.cellsOf q = 1) (bq : P.bytesOf q = 1)
    (hok : Value.okWide P W r base t v) (h : DataW.Trod enc P W 0 (fun _ => true) true t v d p) (hw : ∀ n ∈ d.weights P t, n ≤ reachBytes) :
    ∃ (k : Int) (key : ByteArray) (N c s tv : Int) (dd : Bool) (sa : Option Addr) (sn sc : Nat) (sum : List Nat) (pa : Option Addr) (pn pc : Nat) (Q : Nat → PlR), v = .agg #[.int .i64 k, .string key, .int .i64 N, .int .i64 c, .int .i64 s, .int .i64 tv, .bool dd, .slice sa sn sc, .slice pa pn pc] ∧ BytesV W (sa, sn, sc) sum ∧ PlacesV W pa pn pc Q := by
  simp only [Prod.mk.injEq] at ro rc mo mc go gc fo fc
  obtain ⟨cs, rfl, hsz⟩ := okWide_struct ut hok
  obtain ⟨v0, v1, v2, v3, v4, v5, v6, v7, v8, rfl⟩ := array9K (hsz.trans ct)
  obtain ⟨fuel, hf⟩ := h
  obtain ⟨xs, n, _, hx, hl, hlen, hf⟩ := DataW.trod_struct ut hf
  match xs, hlen with
  | [y0, y1, y2, y3], _ =>
    have h0 := hf 0 r0 rfl
    have h1 := hf 1 r1 rfl
    have h2 := hf 2 r2 rfl
    have h3 := hf 3 r3 rfl
    simp [Value.cells, ro, rc, et2, et3] at h0 h1 h2 h3
    simp only [Prod.mk.injEq] at hx
    rw [hx.1] at hw
    have hw2 : ∀ n ∈ y2.1.weights P tm, n ≤ reachBytes := fun x hx => hw x (by
      simp only [DataW.weights, ut]
      simp [DataW.weightsEach, et2, hx])
    have hw3 : ∀ n ∈ y3.1.weights P tp, n ≤ reachBytes := fun x hx => hw x (by
      simp only [DataW.weights, ut]
      simp [DataW.weightsEach, et3, hx])
    obtain ⟨ms, n2, _, hmx, _, hml, hmf⟩ := DataW.trod_struct um h2
    match ms, hml with
    | [b0, b1, b2, b3, b4], _ =>
      have j0 := hmf 0 m0 rfl
      have j1 := hmf 1 m1 rfl
      have j2 := hmf 2 m2 rfl
      have j3 := hmf 3 m3 rfl
      have j4 := hmf 4 m4 rfl
      simp [mo, mc, emt] at j0 j1 j2 j3 j4
      have hw4 : ∀ n ∈ b4.1.weights P m4.type, n ≤ reachBytes := fun x hx => hw2 x (by
        rw [hmx]
        simp only [DataW.weights, um]
        simp [DataW.weightsEach, hx])
      obtain ⟨gs, n3, _, _, _, hgl, hgf⟩ := DataW.trod_struct ug j0
      match gs, hgl with
      | [d0, d1], _ =>
        have l0 := hgf 0 g0 rfl
        have l1 := hgf 1 g1 rfl
        simp [go, gc] at l0 l1
        obtain ⟨k, hk, _⟩ := DataW.trod_int ur0 h0
        obtain ⟨key, hkey, _⟩ := DataW.trod_string ur1 h1
        obtain ⟨N, hN, _⟩ := DataW.trod_int ug0 l0
        obtain ⟨c, hc, _⟩ := DataW.trod_int ug1 l1
        obtain ⟨s, hs, _⟩ := DataW.trod_int um1 j1
        obtain ⟨tv, htv, _⟩ := DataW.trod_int um2 j2
        obtain ⟨dd, hdd, _⟩ := DataW.trod_bool um3 j3
        obtain ⟨sa, sn, sc, sum, hsv, hBV⟩ := bytes_cellsK um4 uq cq bq j4 hw4
        obtain ⟨pa, pn, pc, Q, hpv, hPV⟩ := placesCells ht he ce fo.1 fo.2.1 fo.2.2.1 fo.2.2.2 fc.1 fc.2.1 fc.2.2.1 fc.2.2.2 u0 u1 u2 u3 uq cq bq h3 hw3
        obtain rfl := (List.cons.inj hk).1
        obtain rfl := (List.cons.inj hkey).1
        obtain rfl := (List.cons.inj hN).1
        obtain rfl := (List.cons.inj hc).1
        obtain rfl := (List.cons.inj hs).1
        obtain rfl := (List.cons.inj htv).1
        obtain rfl := (List.cons.inj hdd).1
        subst hsv hpv
        exact ⟨k, key, N, c, s, tv, dd, sa, sn, sc, sum, pa, pn, pc, Q, rfl, hBV, hPV⟩
end
end Go.Proofs.YthofndobmiamjaaDoor
