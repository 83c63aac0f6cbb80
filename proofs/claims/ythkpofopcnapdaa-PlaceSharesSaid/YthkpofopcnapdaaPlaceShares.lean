/-
  The law PlaceShares: every input gives true, and is left as it was.
-/
import Derived.Test.YthkpofopcnapdaaPlQ
import Derived.Test.YthkpofopcnapdaaAgg6
import Derived.Test.YthkpofopcnapdaaLaw
namespace Go.Proofs.Ythkpofopcnapdaa.placeShares
open Go.ChangeShapes Go.WideShapes Go.ChangeAt Go.RowKit
open Go.ChangeMaps (open_string shut_string)
set_option linter.unusedVariables false

theorem own : ownKnob Try.prog.godebug = none := by kernel_rfl
theorem laidOut : laidOutB Try.prog = true := by kernel_rfl

set_option maxRecDepth 100000 in
theorem lifted (os : Os) (started : os.Started) (H : Type) (enc : TypeId × Value → H) :
    ReturnsInHanded {} Try.checked os 3 .any (Rows.placeSharesSpec.pre6 enc Try.prog Try.f3 Rows.placeSharesRow.domain false) (Rows.placeSharesSpec.post enc Try.prog Try.f3 false true false false) := by
  refine lawFrame (C := Try.checked) (fn := Try.f3) (s := Rows.placeSharesSpec) started own (by kernel_rfl) Try.func3 laidOut (by kernel_rfl) 4 (by kernel_rfl) Try.underlying4 rfl
    (fun ds h => by match ds, h with | [d0, d1, d2, d3, d4], _ => rfl)
    (ChangeSpec.witness6 (enc := enc) (C := Try.checked) false ⟨#[], #[.agg #[.int .i64 0, .int .i64 0, .int .i64 0, .int .i64 0, .int .i64 0, .int .i64 0], .int .i64 0, .int .i64 0, .int .i64 0, .int .i64 0], []⟩ 8 (by kernel_rfl) (by kernel_rfl) (by kernel_rfl) (by kernel_rfl)) ?_
  intro W base args ds p hval0 hA hsz
  have hval : ∀ (j : Nat) t v, Try.f3.params[j]? = some t → args[j]? = some v → Value.okWide Try.prog W .any base t v := hval0
  clear hval0
  change DataW.TrodAll enc Try.prog W 0 (fun _ => true) true Try.f3.params.toList args.toList ds p at hA
  change (DataW.weightsEach Try.prog Try.f3.params.toList ds).all (· ≤ reachBytes) = true at hsz
  rw [Try.params3] at hA hval hsz
  obtain ⟨v0, vs0, d0, ds0, p0, q0, hargs, rfl, rfl, h0, r0⟩ := trodAll_cons hA
  obtain ⟨v1, vs1, d1, ds1, p1, q1, rfl, rfl, rfl, h1, r1⟩ := trodAll_cons r0
  obtain ⟨v2, vs2, d2, ds2, p2, q2, rfl, rfl, rfl, h2, r2⟩ := trodAll_cons r1
  obtain ⟨v3, vs3, d3, ds3, p3, q3, rfl, rfl, rfl, h3, r3⟩ := trodAll_cons r2
  obtain ⟨v4, vs4, d4, ds4, p4, q4, rfl, rfl, rfl, h4, r4⟩ := trodAll_cons r3
  obtain ⟨rfl, rfl, rfl⟩ := trodAll_nil r4
  obtain rfl : args = #[v0, v1, v2, v3, v4] := by cases args; simp_all
  obtain ⟨g0_0, g0_1, g0_2, g0_3, g0_4, g0_5, y0_0, y0_1, y0_2, y0_3, y0_4, y0_5, m0, rfl, rfl, k0_0, k0_1, k0_2, k0_3, k0_4, k0_5⟩ := open_agg6 Try.underlying23 (by kernel_rfl) (by kernel_rfl) (hval 0 23 v0 rfl rfl) h0
  obtain ⟨a0_0, hc, rfl, w0_0⟩ := DataW.trod_int Try.underlying3 k0_0
  obtain rfl := (List.cons.inj hc).1
  obtain ⟨a0_1, hc, rfl, w0_1⟩ := DataW.trod_int Try.underlying3 k0_1
  obtain rfl := (List.cons.inj hc).1
  obtain ⟨a0_2, hc, rfl, w0_2⟩ := DataW.trod_int Try.underlying3 k0_2
  obtain rfl := (List.cons.inj hc).1
  obtain ⟨a0_3, hc, rfl, w0_3⟩ := DataW.trod_int Try.underlying3 k0_3
  obtain rfl := (List.cons.inj hc).1
  obtain ⟨a0_4, hc, rfl, w0_4⟩ := DataW.trod_int Try.underlying3 k0_4
  obtain rfl := (List.cons.inj hc).1
  obtain ⟨a0_5, hc, rfl, w0_5⟩ := DataW.trod_int Try.underlying3 k0_5
  obtain rfl := (List.cons.inj hc).1
  obtain ⟨a1, rfl, rfl, rfl, w1⟩ := open_int Try.underlying3 (hval 1 3 v1 rfl rfl) h1
  obtain ⟨a2, rfl, rfl, rfl, w2⟩ := open_int Try.underlying3 (hval 2 3 v2 rfl rfl) h2
  obtain ⟨a3, rfl, rfl, rfl, w3⟩ := open_int Try.underlying3 (hval 3 3 v3 rfl rfl) h3
  obtain ⟨a4, rfl, rfl, rfl, w4⟩ := open_int Try.underlying3 (hval 4 3 v4 rfl rfl) h4
  exact placeShares_walk a0_0 a0_1 a0_2 a0_3 a0_4 a0_5 a1 a2 a3 a4 W w0_0 w0_1 w0_2 w0_3 w0_4 w0_5 w1 w2 w3 w4

theorem over : Rows.placeSharesRow.holds Try.pinned (OpenSpec.ofChange Rows.placeSharesSpec) :=
  OpenClaim.holds_of_wide 3 Try.f3 rfl rfl rfl rfl rfl rfl rfl ⟨rfl, rfl, rfl, rfl, rfl⟩ rfl rfl rfl rfl rfl (by kernel_rfl) Try.func3 (by kernel_rfl)
    (of_decide_eq_true (by kernel_rfl)) (by unfold Func.isWrapper; first | (rw [if_pos (by decide +kernel)]; kernel_rfl) | (rw [if_neg (by decide +kernel)]; exact ⟨rfl, rfl⟩))
    (fun os started H enc _ => lifted os started H enc)

/-- THE STATEMENT -/
theorem proved : Rows.PlaceSharesSaid := over
#print axioms proved
end Go.Proofs.Ythkpofopcnapdaa.placeShares
