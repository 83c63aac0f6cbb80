/-
  The law DiskSafe: every input gives true, and is left as it was.
-/
import Derived.Test.YtdidalcflkphnaaDjN
import Derived.Test.YtdidalcflkphnaaLawU
import Derived.Test.YtdidalcflkphnaaLaw
namespace Go.Proofs.Ytdidalcflkphnaa.diskSafe
open Go.ChangeShapes Go.WideShapes Go.ChangeAt Go.RowKit
open Go.ChangeMaps (open_string shut_string)
set_option linter.unusedVariables false

theorem own : ownKnob Try.prog.godebug = none := by kernel_rfl
theorem laidOut : laidOutB Try.prog = true := by kernel_rfl

set_option maxRecDepth 100000 in
theorem lifted (os : Os) (started : os.Started) (H : Type) (enc : TypeId × Value → H) (F : Stop.Interp) :
    ReturnsInHanded {} Try.checked os 5 .any ((Rows.OpenSpec.upto Rows.diskSafeSpec).pre6 enc Try.prog Try.f5 Rows.diskSafeUptoRow.domain false) (((Rows.OpenSpec.upto Rows.diskSafeSpec).at F).post enc Try.prog Try.f5 false true false false) := by
  refine lawFrameU (C := Try.checked) (fn := Try.f5) (s := Rows.diskSafeSpec) started F own (by kernel_rfl) Try.func5 laidOut (by kernel_rfl) 4 (by kernel_rfl) Try.underlying4 rfl
    (fun ds h => by match ds, h with | [d0, d1, d2, d3], _ => rfl)
    (OpenSpec.witness (enc := enc) (C := Try.checked) (s := Rows.OpenSpec.upto Rows.diskSafeSpec) (k := Rows.uptoSmall) rfl false ⟨#[], #[.int .i64 0, .slice none 0 0, .slice none 0 0, .agg #[.int .i64 0, .bool false, .slice none 0 0]], []⟩ 8 (by kernel_rfl) (by kernel_rfl) (by kernel_rfl) (x := ([.lit (.int .i64 0), .nil, .nil, .agg [.lit (.int .i64 0), .lit (.bool false), .nil]], [], [])) (by kernel_rfl) rfl (by kernel_rfl)) ?_
  intro W base args ds p hval0 hA hsz hk
  have hval : ∀ (j : Nat) t v, Try.f5.params[j]? = some t → args[j]? = some v → Value.okWide Try.prog W .any base t v := hval0
  clear hval0
  change DataW.TrodAll enc Try.prog W 0 (fun _ => true) true Try.f5.params.toList args.toList ds p at hA
  change (DataW.weightsEach Try.prog Try.f5.params.toList ds).all (· ≤ reachBytes) = true at hsz
  rw [Try.params5] at hA hval hsz
  obtain ⟨v0, vs0, d0, ds0, p0, q0, hargs, rfl, rfl, h0, r0⟩ := trodAll_cons hA
  obtain ⟨v1, vs1, d1, ds1, p1, q1, rfl, rfl, rfl, h1, r1⟩ := trodAll_cons r0
  obtain ⟨v2, vs2, d2, ds2, p2, q2, rfl, rfl, rfl, h2, r2⟩ := trodAll_cons r1
  obtain ⟨v3, vs3, d3, ds3, p3, q3, rfl, rfl, rfl, h3, r3⟩ := trodAll_cons r2
  obtain ⟨rfl, rfl, rfl⟩ := trodAll_nil r3
  obtain rfl : args = #[v0, v1, v2, v3] := by cases args; simp_all
  obtain ⟨a0, rfl, rfl, rfl, w0⟩ := open_int Try.underlying3 (hval 0 3 v0 rfl rfl) h0
  obtain ⟨a1, n1, c1, g1, rfl, w1, k1⟩ := openCalls (q := 5) (z := 3) Try.underlying22 Try.underlying40 (by kernel_rfl) rfl rfl rfl rfl rfl (by kernel_rfl) (by kernel_rfl) (by kernel_rfl) (by kernel_rfl) (by kernel_rfl) (by kernel_rfl) (by kernel_rfl) (by kernel_rfl) (by kernel_rfl) (by kernel_rfl) (by kernel_rfl) (by kernel_rfl) Try.underlying38 rfl rfl rfl (by kernel_rfl) (by kernel_rfl) (by kernel_rfl) (by kernel_rfl) (by kernel_rfl) (by kernel_rfl) (by kernel_rfl) (by kernel_rfl) (by kernel_rfl) (hval 1 22 v1 rfl rfl) h1 (weightAt hsz (j := 1) rfl rfl)
  obtain ⟨a2, n2, c2, l2, rfl, w2, s2⟩ := openBytes Try.underlying28 Try.underlying5 (by kernel_rfl) (by kernel_rfl) (hval 2 28 v2 rfl rfl) h2 (weightAt hsz (j := 2) rfl rfl)
  obtain ⟨a3, b3, c3, n3, e3, l3, rfl, w3, s3, z3, k3⟩ := openFate (z := 3) Try.underlying38 (by kernel_rfl) rfl rfl rfl (by kernel_rfl) (by kernel_rfl) (by kernel_rfl) (by kernel_rfl) (by kernel_rfl) (by kernel_rfl) (by kernel_rfl) (by kernel_rfl) (by kernel_rfl) (hval 3 38 v3 rfl rfl) h3 (weightAt hsz (j := 3) rfl rfl)
  exact diskSafe_walk a0 a1 n1 c1 g1 a2 n2 c2 l2 a3 b3 c3 n3 e3 l3 W w0 w1 (fun i hi => Nat.le_trans (k1 i hi) (by simp only [Rows.uptoBulkAll] at hk; omega)) w2 s2 w3 s3 z3 k3

theorem over : Rows.diskSafeUptoRow.holds Try.pinned (Rows.OpenSpec.upto Rows.diskSafeSpec) :=
  OpenClaim.holds_of_cond 5 Try.f5 rfl rfl rfl rfl rfl rfl rfl ⟨rfl, rfl, rfl, rfl, rfl⟩ rfl rfl rfl rfl rfl (by kernel_rfl) Try.func5 (by kernel_rfl)
    (of_decide_eq_true (by kernel_rfl)) (by unfold Func.isWrapper; first | (rw [if_pos (by decide +kernel)]; kernel_rfl) | (rw [if_neg (by decide +kernel)]; exact ⟨rfl, rfl⟩))
    (fun os started H enc _ F => lifted os started H enc F)

/-- THE STATEMENT -/
theorem proved : Rows.DiskSafeUptoSaid := over
#print axioms proved
end Go.Proofs.Ytdidalcflkphnaa.diskSafe
