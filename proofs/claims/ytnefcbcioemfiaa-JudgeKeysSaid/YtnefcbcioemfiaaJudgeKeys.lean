/-
  The law JudgeKeys: every input gives true, and is left as it was.
-/
import Derived.Test.YtnefcbcioemfiaaJeA
import Derived.Test.YtnefcbcioemfiaaViewJ
import Derived.Test.YtnefcbcioemfiaaLaw
namespace Go.Proofs.Ytnefcbcioemfiaa.judgeKeys
open Go.ChangeShapes Go.WideShapes Go.ChangeAt Go.RowKit
open Go.ChangeMaps (open_string shut_string)
set_option linter.unusedVariables false

theorem own : ownKnob Try.prog.godebug = none := by kernel_rfl
theorem laidOut : laidOutB Try.prog = true := by kernel_rfl

set_option maxRecDepth 100000 in
theorem lifted (os : Os) (started : os.Started) (H : Type) (enc : TypeId × Value → H) :
    ReturnsInHanded {} Try.checked os 8 .any (Rows.judgeKeysSpec.pre6 enc Try.prog Try.f8 Rows.judgeKeysRow.domain false) (Rows.judgeKeysSpec.post enc Try.prog Try.f8 false true false false) := by
  refine lawFrame (C := Try.checked) (fn := Try.f8) (s := Rows.judgeKeysSpec) started own (by kernel_rfl) Try.func8 laidOut (by kernel_rfl) 4 (by kernel_rfl) Try.underlying4 rfl
    (fun ds h => by match ds, h with | [d0], _ => rfl)
    (ChangeSpec.witness6 (enc := enc) (C := Try.checked) false ⟨#[], #[.slice none 0 0], []⟩ 8 (by kernel_rfl) (by kernel_rfl) (by kernel_rfl) (by kernel_rfl)) ?_
  intro W base args ds p hval0 hA hsz
  have hval : ∀ (j : Nat) t v, Try.f8.params[j]? = some t → args[j]? = some v → Value.okWide Try.prog W .any base t v := hval0
  clear hval0
  change DataW.TrodAll enc Try.prog W 0 (fun _ => true) true Try.f8.params.toList args.toList ds p at hA
  change (DataW.weightsEach Try.prog Try.f8.params.toList ds).all (· ≤ reachBytes) = true at hsz
  rw [Try.params8] at hA hval hsz
  obtain ⟨v0, vs0, d0, ds0, p0, q0, hargs, rfl, rfl, h0, r0⟩ := trodAll_cons hA
  obtain ⟨rfl, rfl, rfl⟩ := trodAll_nil r0
  obtain rfl : args = #[v0] := by cases args; simp_all
  obtain ⟨a0, n0, c0, l0, rfl, w0, k0, s0, z0⟩ := openActs Try.underlying22 (by kernel_rfl) (hval 0 22 v0 rfl rfl) h0 (weightAt hsz (j := 0) rfl rfl)
  exact judgeKeys_walk a0 n0 c0 l0 W w0 k0 s0 z0

theorem over : Rows.judgeKeysRow.holds Try.pinned (OpenSpec.ofChange Rows.judgeKeysSpec) :=
  OpenClaim.holds_of_wide 8 Try.f8 rfl rfl rfl rfl rfl rfl rfl ⟨rfl, rfl, rfl, rfl, rfl⟩ rfl rfl rfl rfl rfl (by kernel_rfl) Try.func8 (by kernel_rfl)
    (of_decide_eq_true (by kernel_rfl)) (by unfold Func.isWrapper; first | (rw [if_pos (by decide +kernel)]; kernel_rfl) | (rw [if_neg (by decide +kernel)]; exact ⟨rfl, rfl⟩))
    (fun os started H enc _ => lifted os started H enc)

/-- THE STATEMENT -/
theorem proved : Rows.JudgeKeysSaid := over
#print axioms proved
end Go.Proofs.Ytnefcbcioemfiaa.judgeKeys
