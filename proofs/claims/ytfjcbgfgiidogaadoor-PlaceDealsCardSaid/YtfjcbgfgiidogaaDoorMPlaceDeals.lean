/-
  The law PlaceDeals: every input gives true, and is left as it was.
-/
import Derived.Test.YtfjcbgfgiidogaaDoorMTu2
import Derived.Test.YtfjcbgfgiidogaaDoorMCiM
import Derived.Test.YtfjcbgfgiidogaaDoorMAgg6
namespace Go.Proofs.YtfjcbgfgiidogaaDoor.placeDeals
open Go.ChangeShapes Go.WideShapes Go.ChangeAt Go.RowKit
open Go.ChangeMaps (open_string shut_string)
set_option linter.unusedVariables false

theorem own : ownKnob Tryd.prog.godebug = none := by kernel_rfl
theorem laidOut : laidOutB Tryd.prog = true := by kernel_rfl

set_option maxRecDepth 100000 in
theorem lifted (os : Os) (started : os.Started) (H : Type) (enc : TypeId × Value → H) :
    ReturnsInHanded {} Tryd.checked os 12 .any (fun w args => (Rows.placeDealsSpec.pre enc Tryd.prog Tryd.f12 [] false w args ∧ laidMetH Tryd.prog laidB w) ∧ sizedMet enc Tryd.prog Tryd.f12 (OpenSpec.ofChange Rows.placeDealsSpec) false w args) (Rows.placeDealsSpec.post enc Tryd.prog Tryd.f12 false true false false) := by
  refine lawFrameLaid (X := fun w => laidMetH Tryd.prog laidB w) (fun _ _ hh h => h.of_heap hh) (C := Tryd.checked) (fn := Tryd.f12) (s := Rows.placeDealsSpec) started own (by kernel_rfl) Tryd.func12 laidOut (by kernel_rfl) 4 (by kernel_rfl) Tryd.underlying4 rfl
    (fun ds h => by match ds, h with | [d0, d1], _ => rfl)
    (ChangeSpec.witness_shaped (enc := enc) (C := Tryd.checked) (os := os) (X := fun w _ => laidMetH Tryd.prog laidB w) false (World.doorLaid Tryd.prog 400 os) #[.agg #[.int .i64 0, .int .i64 0, .int .i64 0, .int .i64 0, .int .i64 0, .int .i64 0], .slice none 0 0] 8 rfl (World.shaped_of_RefB (by kernel_rfl) (by kernel_rfl)) (by kernel_rfl) (by kernel_rfl) (by kernel_rfl) (door_met os _)) ?_
  intro W base args ds p hval0 hA hsz hL
  have hval : ∀ (j : Nat) t v, Tryd.f12.params[j]? = some t → args[j]? = some v → Value.okWide Tryd.prog W .any base t v := hval0
  clear hval0
  change DataW.TrodAll enc Tryd.prog W 0 (fun _ => true) true Tryd.f12.params.toList args.toList ds p at hA
  change (DataW.weightsEach Tryd.prog Tryd.f12.params.toList ds).all (· ≤ reachBytes) = true at hsz
  rw [Tryd.params12] at hA hval hsz
  obtain ⟨v0, vs0, d0, ds0, p0, q0, hargs, rfl, rfl, h0, r0⟩ := trodAll_cons hA
  obtain ⟨v1, vs1, d1, ds1, p1, q1, rfl, rfl, rfl, h1, r1⟩ := trodAll_cons r0
  obtain ⟨rfl, rfl, rfl⟩ := trodAll_nil r1
  obtain rfl : args = #[v0, v1] := by cases args; simp_all
  obtain ⟨g0_0, g0_1, g0_2, g0_3, g0_4, g0_5, y0_0, y0_1, y0_2, y0_3, y0_4, y0_5, m0, rfl, rfl, k0_0, k0_1, k0_2, k0_3, k0_4, k0_5⟩ := open_agg6 Tryd.underlying61 (by kernel_rfl) (by kernel_rfl) (hval 0 61 v0 rfl rfl) h0
  obtain ⟨a0_0, hc, rfl, w0_0⟩ := DataW.trod_int Tryd.underlying3 k0_0
  obtain rfl := (List.cons.inj hc).1
  obtain ⟨a0_1, hc, rfl, w0_1⟩ := DataW.trod_int Tryd.underlying3 k0_1
  obtain rfl := (List.cons.inj hc).1
  obtain ⟨a0_2, hc, rfl, w0_2⟩ := DataW.trod_int Tryd.underlying3 k0_2
  obtain rfl := (List.cons.inj hc).1
  obtain ⟨a0_3, hc, rfl, w0_3⟩ := DataW.trod_int Tryd.underlying3 k0_3
  obtain rfl := (List.cons.inj hc).1
  obtain ⟨a0_4, hc, rfl, w0_4⟩ := DataW.trod_int Tryd.underlying3 k0_4
  obtain rfl := (List.cons.inj hc).1
  obtain ⟨a0_5, hc, rfl, w0_5⟩ := DataW.trod_int Tryd.underlying3 k0_5
  obtain rfl := (List.cons.inj hc).1
  obtain ⟨a1, n1, c1, l1, rfl, w1, s1⟩ := openBytes Tryd.underlying22 Tryd.underlying5 (by kernel_rfl) (by kernel_rfl) (hval 1 22 v1 rfl rfl) h1 (weightAt hsz (j := 1) rfl rfl)
  exact placeDeals_walk a0_0 a0_1 a0_2 a0_3 a0_4 a0_5 a1 n1 c1 l1 W (bnd_of_laid hL) w0_0 w0_1 w0_2 w0_3 w0_4 w0_5 w1 s1

theorem over : Rows.placeDealsRow.holds Tryd.pinned (OpenSpec.ofChange Rows.placeDealsSpec) :=
  OpenClaim.holds_of_wide 12 Tryd.f12 rfl rfl rfl rfl rfl rfl rfl ⟨rfl, rfl, rfl, rfl, rfl⟩ rfl rfl rfl rfl rfl (by kernel_rfl) Tryd.func12 (by kernel_rfl)
    (of_decide_eq_true (by kernel_rfl)) (by unfold Func.isWrapper; first | (rw [if_pos (by decide +kernel)]; kernel_rfl) | (rw [if_neg (by decide +kernel)]; exact ⟨rfl, rfl⟩))
    (fun os started H enc _ => lifted os started H enc)

/-- THE STATEMENT -/
theorem proved : Rows.PlaceDealsCardSaid :=
  Claim7.holds_tied_plain_at .later [] [.data] true Rows.placeDealsCard.stood.harness Rows.placeDealsCard.stood.looks over (fun _ h => by cases h) (by kernel_rfl) (fun _ h => by cases h) placeDeals_row_tie rfl ⟨rfl, rfl⟩ (by kernel_rfl) rfl
    (fun f fn hf hfn => by
      obtain rfl : f = 12 := Option.some.inj ((show Tryd.prog.funcNamed "rill/rilllaw13.PlaceDeals" = some 12 by kernel_rfl).symm.trans hf) |>.symm
      obtain rfl : fn = Tryd.f12 := (Option.some.inj (Tryd.func12.symm.trans hfn)).symm
      exact ⟨by kernel_rfl, fun j t ht => by
        rw [Tryd.params12] at ht
        have hm : t ∈ [61, 22] := by simpa using Array.mem_of_getElem? ht
        have hall : ([61, 22].all fun u => !Tryd.prog.wantsStandIn u) = true := by kernel_rfl
        exact (show Tryd.prog.wantsStandIn t = false by simpa using List.all_eq_true.1 hall t hm)⟩)
    (by kernel_rfl)
#print axioms proved
end Go.Proofs.YtfjcbgfgiidogaaDoor.placeDeals
