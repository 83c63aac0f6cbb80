/-
  How a meta (a tag, two ints, a bool, bytes) that came in is read.
-/
import Derived.Test.YthofndobmiamjaaDoorLawK
namespace Go.Proofs.YthofndobmiamjaaDoor
open Go.ChangeShapes Go.WideShapes Go.ChangeAt Go.RowKit Go.Deep

theorem array6K {α : Type} {cs : Array α} (h : cs.size = 6) : ∃ c0 c1 c2 c3 c4 c5, cs = #[c0, c1, c2, c3, c4, c5] := by
  obtain ⟨l⟩ := cs
  match l, h with
  | [c0, c1, c2, c3, c4, c5], _ => exact ⟨c0, c1, c2, c3, c4, c5, rfl⟩
section
variable {H : Type} {enc : TypeId × Value → H}
theorem openMeta {P : Program} {W : World} {base : Nat} {r : Reach} {t tt q : TypeId} {m0 m1 m2 m3 m4 g0 g1 : Field} {v : Value} {d : DataW H} {p : List MemPlace}
    (um : P.underlying t = some (.struct #[m0, m1, m2, m3, m4])) (ct : P.cellsOf t = 6) (mo : (m0.offset, m1.offset, m2.offset, m3.offset, m4.offset) = (0, 2, 3, 4, 5)) (mc : (P.cellsOf tt, P.cellsOf m1.type, P.cellsOf m2.type, P.cellsOf m3.type, P.cellsOf m4.type) = (2, 1, 1, 1, 1)) (emt : m0.type = tt)
    (um1 : P.underlying m1.type = some (.int .i64)) (um2 : P.underlying m2.type = some (.int .i64)) (um3 : P.underlying m3.type = some .bool) (um4 : P.underlying m4.type = some (.slice q))
    (ug : P.underlying tt = some (.struct #[g0, g1])) (go : (g0.offset, g1.offset) = (0, 1)) (gc : (P.cellsOf g0.type, P.cellsOf g1.type) = (1, 1)) (ug0 : P.underlying g0.type = some (.int .i64)) (ug1 : P.underlying g1.type = some (.int .i64))
    (uq : P.underlying q = some (.int .u8)) (cq : P.cellsOf q = 1) (bq : P.bytesOf q = 1)
    (hok : Value.okWide P W r base t v) (h : DataW.Trod enc P W 0 (fun _ => true) true t v d p) (hw : ∀ n ∈ d.weights P t, n ≤ reachBytes) :
    ∃ (N c s tv : Int) (dd : Bool) (sa : Option Addr) (sn sc : Nat) (sum : List Nat), v = .agg #[.int .i64 N, .int .i64 c, .int .i64 s, .int .i64 tv, .bool dd, .slice sa sn sc] ∧ BytesV W (sa, sn, sc) sum := by
  simp only [Prod.mk.injEq] at mo mc go gc
  obtain ⟨cs, rfl, hsz⟩ := okWide_struct um hok
  obtain ⟨v0, v1, v2, v3, v4, v5, rfl⟩ := array6K (hsz.trans ct)
  obtain ⟨fuel, hf⟩ := h
  obtain ⟨ms, n2, _, hmx, _, hml, hmf⟩ := DataW.trod_struct um hf
  match ms, hml with
  | [b0, b1, b2, b3, b4], _ =>
    have j0 := hmf 0 m0 rfl
    have j1 := hmf 1 m1 rfl
    have j2 := hmf 2 m2 rfl
    have j3 := hmf 3 m3 rfl
    have j4 := hmf 4 m4 rfl
    simp [Value.cells, mo, mc, emt] at j0 j1 j2 j3 j4
    simp only [Prod.mk.injEq] at hmx
    rw [hmx.1] at hw
    have hw4 : ∀ n ∈ b4.1.weights P m4.type, n ≤ reachBytes := fun x hx => hw x (by
      simp only [DataW.weights, um]
      simp [DataW.weightsEach, hx])
    obtain ⟨gs, n3, _, _, _, hgl, hgf⟩ := DataW.trod_struct ug j0
    match gs, hgl with
    | [d0, d1], _ =>
      have l0 := hgf 0 g0 rfl
      have l1 := hgf 1 g1 rfl
      simp [go, gc] at l0 l1
      obtain ⟨N, hN, _⟩ := DataW.trod_int ug0 l0
      obtain ⟨c, hc, _⟩ := DataW.trod_int ug1 l1
      obtain ⟨s, hs, _⟩ := DataW.trod_int um1 j1
      obtain ⟨tv, htv, _⟩ := DataW.trod_int um2 j2
      obtain ⟨dd, hdd, _⟩ := DataW.trod_bool um3 j3
      obtain ⟨sa, sn, sc, sum, hsv, hBV⟩ := bytes_cellsK um4 uq cq bq j4 hw4
      obtain rfl := (List.cons.inj hN).1
      obtain rfl := (List.cons.inj hc).1
      obtain rfl := (List.cons.inj hs).1
      obtain rfl := (List.cons.inj htv).1
      obtain rfl := (List.cons.inj hdd).1
      subst hsv
      exact ⟨N, c, s, tv, dd, sa, sn, sc, sum, rfl, hBV⟩
end
end Go.Proofs.YthofndobmiamjaaDoor
