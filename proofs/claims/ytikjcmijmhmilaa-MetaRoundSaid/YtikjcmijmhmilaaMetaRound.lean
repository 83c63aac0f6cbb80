/-
  The law MetaRound: every input gives true, and is left as it was.
-/
import Derived.Test.YtikjcmijmhmilaaMfM
import Derived.Test.YtikjcmijmhmilaaLawK
import Derived.Test.YtikjcmijmhmilaaLaw
namespace Go.Proofs.Ytikjcmijmhmilaa.metaRound
open Go.ChangeShapes Go.WideShapes Go.ChangeAt Go.RowKit
open Go.ChangeMaps (open_string shut_string)
set_option linter.unusedVariables false

theorem own : ownKnob Try.prog.godebug = none := by kernel_rfl
theorem laidOut : laidOutB Try.prog = true := by kernel_rfl

set_option maxRecDepth 100000 in
theorem lifted (os : Os) (started : os.Started) (H : Type) (enc : TypeId × Value → H) :
    ReturnsInHanded {} Try.checked os 7 .any (Rows.metaRoundSpec.pre6 enc Try.prog Try.f7 Rows.metaRoundRow.domain false) (Rows.metaRoundSpec.post enc Try.prog Try.f7 false true false false) := by
  refine lawFrame (C := Try.checked) (fn := Try.f7) (s := Rows.metaRoundSpec) started own (by kernel_rfl) Try.func7 laidOut (by kernel_rfl) 4 (by kernel_rfl) Try.underlying4 rfl
    (fun ds h => by match ds, h with | [d0, d1, d2], _ => rfl)
    (ChangeSpec.witness6 (enc := enc) (C := Try.checked) false ⟨#[], #[.agg #[.int .i64 0, .string ByteArray.empty, .int .i64 0, .int .i64 0, .int .i64 0, .int .i64 0, .bool false, .slice none 0 0, .slice none 0 0], .int .i64 0, .slice none 0 0], []⟩ 8 (by kernel_rfl) (by kernel_rfl) (by kernel_rfl) (by kernel_rfl)) ?_
  intro W base args ds p hval0 hA hsz
  have hval : ∀ (j : Nat) t v, Try.f7.params[j]? = some t → args[j]? = some v → Value.okWide Try.prog W .any base t v := hval0
  clear hval0
  change DataW.TrodAll enc Try.prog W 0 (fun _ => true) true Try.f7.params.toList args.toList ds p at hA
  change (DataW.weightsEach Try.prog Try.f7.params.toList ds).all (· ≤ reachBytes) = true at hsz
  rw [Try.params7] at hA hval hsz
  obtain ⟨v0, vs0, d0, ds0, p0, q0, hargs, rfl, rfl, h0, r0⟩ := trodAll_cons hA
  obtain ⟨v1, vs1, d1, ds1, p1, q1, rfl, rfl, rfl, h1, r1⟩ := trodAll_cons r0
  obtain ⟨v2, vs2, d2, ds2, p2, q2, rfl, rfl, rfl, h2, r2⟩ := trodAll_cons r1
  obtain ⟨rfl, rfl, rfl⟩ := trodAll_nil r2
  obtain rfl : args = #[v0, v1, v2] := by cases args; simp_all
  obtain ⟨a0, b0, c0, d0', e0, f0, g0, i0, j0, k0, l0, m0, n0, o0, p0', rfl, w0, z0⟩ := openRecord (tm := 34) (tt := 25) (tp := 35) (e := 60) (q := 5) Try.underlying37 (by kernel_rfl) rfl (by kernel_rfl) rfl rfl (by kernel_rfl) (by kernel_rfl) Try.underlying34 rfl (by kernel_rfl) rfl (by kernel_rfl) (by kernel_rfl) (by kernel_rfl) (by kernel_rfl) Try.underlying25 rfl (by kernel_rfl) (by kernel_rfl) (by kernel_rfl) Try.underlying35 Try.underlying60 (by kernel_rfl) rfl (by kernel_rfl) (by kernel_rfl) (by kernel_rfl) (by kernel_rfl) (by kernel_rfl) (by kernel_rfl) (by kernel_rfl) (by kernel_rfl) (hval 0 37 v0 rfl rfl) h0 (weightAt hsz (j := 0) rfl rfl)
  obtain ⟨a1, rfl, rfl, rfl, w1⟩ := open_int Try.underlying3 (hval 1 3 v1 rfl rfl) h1
  obtain ⟨a2, n2, c2, l2, rfl, w2, s2⟩ := openBytes Try.underlying32 Try.underlying5 (by kernel_rfl) (by kernel_rfl) (hval 2 32 v2 rfl rfl) h2 (weightAt hsz (j := 2) rfl rfl)
  exact metaRound_walk a0 b0 c0 d0' e0 f0 g0 i0 j0 k0 l0 m0 n0 o0 p0' a1 a2 n2 c2 l2 W w0 z0 w1 w2 s2

theorem over : Rows.metaRoundRow.holds Try.pinned (OpenSpec.ofChange Rows.metaRoundSpec) :=
  OpenClaim.holds_of_wide 7 Try.f7 rfl rfl rfl rfl rfl rfl rfl ⟨rfl, rfl, rfl, rfl, rfl⟩ rfl rfl rfl rfl rfl (by kernel_rfl) Try.func7 (by kernel_rfl)
    (of_decide_eq_true (by kernel_rfl)) (by unfold Func.isWrapper; first | (rw [if_pos (by decide +kernel)]; kernel_rfl) | (rw [if_neg (by decide +kernel)]; exact ⟨rfl, rfl⟩))
    (fun os started H enc _ => lifted os started H enc)

/-- THE STATEMENT -/
theorem proved : Rows.MetaRoundSaid := over
#print axioms proved
end Go.Proofs.Ytikjcmijmhmilaa.metaRound
