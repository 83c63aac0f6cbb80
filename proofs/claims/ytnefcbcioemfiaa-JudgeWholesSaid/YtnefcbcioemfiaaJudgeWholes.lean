/-
  The law JudgeWholes: every input gives true, and is left as it was.
-/
import Derived.Test.YtnefcbcioemfiaaJeO
import Derived.Test.YtnefcbcioemfiaaViewJ
import Derived.Test.YtnefcbcioemfiaaLaw
namespace Go.Proofs.Ytnefcbcioemfiaa.judgeWholes
open Go.ChangeShapes Go.WideShapes Go.ChangeAt Go.RowKit
open Go.ChangeMaps (open_string shut_string)
set_option linter.unusedVariables false

theorem own : ownKnob Try.prog.godebug = none := by kernel_rfl
theorem laidOut : laidOutB Try.prog = true := by kernel_rfl

set_option maxRecDepth 100000 in
theorem lifted (os : Os) (started : os.Started) (H : Type) (enc : TypeId × Value → H) :
    ReturnsInHanded {} Try.checked os 3 .any (Rows.judgeWholesSpec.pre6 enc Try.prog Try.f3 Rows.judgeWholesRow.domain false) (Rows.judgeWholesSpec.post enc Try.prog Try.f3 false true false false) := by
  refine lawFrame (C := Try.checked) (fn := Try.f3) (s := Rows.judgeWholesSpec) started own (by kernel_rfl) Try.func3 laidOut (by kernel_rfl) 4 (by kernel_rfl) Try.underlying4 rfl
    (fun ds h => by match ds, h with | [d0, d1], _ => rfl)
    (ChangeSpec.witness6 (enc := enc) (C := Try.checked) false ⟨#[], #[.slice none 0 0, .string ByteArray.empty], []⟩ 8 (by kernel_rfl) (by kernel_rfl) (by kernel_rfl) (by kernel_rfl)) ?_
  intro W base args ds p hval0 hA hsz
  have hval : ∀ (j : Nat) t v, Try.f3.params[j]? = some t → args[j]? = some v → Value.okWide Try.prog W .any base t v := hval0
  clear hval0
  change DataW.TrodAll enc Try.prog W 0 (fun _ => true) true Try.f3.params.toList args.toList ds p at hA
  change (DataW.weightsEach Try.prog Try.f3.params.toList ds).all (· ≤ reachBytes) = true at hsz
  rw [Try.params3] at hA hval hsz
  obtain ⟨v0, vs0, d0, ds0, p0, q0, hargs, rfl, rfl, h0, r0⟩ := trodAll_cons hA
  obtain ⟨v1, vs1, d1, ds1, p1, q1, rfl, rfl, rfl, h1, r1⟩ := trodAll_cons r0
  obtain ⟨rfl, rfl, rfl⟩ := trodAll_nil r1
  obtain rfl : args = #[v0, v1] := by cases args; simp_all
  obtain ⟨a0, n0, c0, l0, rfl, w0, k0, s0, z0⟩ := openActs Try.underlying22 (by kernel_rfl) (hval 0 22 v0 rfl rfl) h0 (weightAt hsz (j := 0) rfl rfl)
  obtain ⟨a1, rfl, w1⟩ := openKey Try.underlying9 (hval 1 9 v1 rfl rfl) h1 (weightAt hsz (j := 1) rfl rfl)
  exact judgeWholes_walk a0 n0 c0 l0 a1 W w0 k0 s0 z0 w1

theorem over : Rows.judgeWholesRow.holds Try.pinned (OpenSpec.ofChange Rows.judgeWholesSpec) :=
  OpenClaim.holds_of_wide 3 Try.f3 rfl rfl rfl rfl rfl rfl rfl ⟨rfl, rfl, rfl, rfl, rfl⟩ rfl rfl rfl rfl rfl (by kernel_rfl) Try.func3 (by kernel_rfl)
    (of_decide_eq_true (by kernel_rfl)) (by unfold Func.isWrapper; first | (rw [if_pos (by decide +kernel)]; kernel_rfl) | (rw [if_neg (by decide +kernel)]; exact ⟨rfl, rfl⟩))
    (fun os started H enc _ => lifted os started H enc)

/-- THE STATEMENT -/
theorem proved : Rows.JudgeWholesSaid := over
#print axioms proved
end Go.Proofs.Ytnefcbcioemfiaa.judgeWholes
