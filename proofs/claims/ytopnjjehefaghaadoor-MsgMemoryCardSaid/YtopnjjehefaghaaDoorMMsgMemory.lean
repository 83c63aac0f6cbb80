/-
  The law MsgMemory: every input gives true, and is left as it was.
-/
import Derived.Test.YtopnjjehefaghaaDoorMLawM
import Derived.Test.YtopnjjehefaghaaDoorMViewM
import Derived.Test.YtopnjjehefaghaaDoorMMhI
namespace Go.Proofs.YtopnjjehefaghaaDoor.msgMemory
open Go.ChangeShapes Go.WideShapes Go.ChangeAt Go.RowKit
open Go.ChangeMaps (open_string shut_string)
set_option linter.unusedVariables false

theorem own : ownKnob Tryd.prog.godebug = none := by kernel_rfl
theorem laidOut : laidOutB Tryd.prog = true := by kernel_rfl

set_option maxRecDepth 100000 in
theorem lifted (os : Os) (started : os.Started) (H : Type) (enc : TypeId × Value → H) :
    ReturnsInHanded {} Tryd.checked os 8 .any (fun w args => (Rows.msgMemorySpec.pre enc Tryd.prog Tryd.f8 [] false w args ∧ laidMetH Tryd.prog laidB w) ∧ sizedMet enc Tryd.prog Tryd.f8 (OpenSpec.ofChange Rows.msgMemorySpec) false w args) (Rows.msgMemorySpec.post enc Tryd.prog Tryd.f8 false true false false) := by
  refine lawFrameLaid (X := fun w => laidMetH Tryd.prog laidB w) (fun _ _ hh h => h.of_heap hh) (C := Tryd.checked) (fn := Tryd.f8) (s := Rows.msgMemorySpec) started own (by kernel_rfl) Tryd.func8 laidOut (by kernel_rfl) 4 (by kernel_rfl) Tryd.underlying4 rfl
    (fun ds h => by match ds, h with | [d0], _ => rfl)
    (ChangeSpec.witness_shaped (enc := enc) (C := Tryd.checked) (os := os) (X := fun w _ => laidMetH Tryd.prog laidB w) false (World.doorLaid Tryd.prog 400 os) #[.agg #[.int .i64 0, .int .i64 0, .int .i64 0, .int .i64 0, .int .i64 0, .string ByteArray.empty, .int .i64 0, .int .i64 0, .int .i64 0, .int .i64 0, .bool false, .slice none 0 0, .slice none 0 0, .slice none 0 0]] 8 rfl (World.shaped_of_RefB (by kernel_rfl) (by kernel_rfl)) (by kernel_rfl) (by kernel_rfl) (by kernel_rfl) (door_met os _)) ?_
  intro W base args ds p hval0 hA hsz hL
  have hval : ∀ (j : Nat) t v, Tryd.f8.params[j]? = some t → args[j]? = some v → Value.okWide Tryd.prog W .any base t v := hval0
  clear hval0
  change DataW.TrodAll enc Tryd.prog W 0 (fun _ => true) true Tryd.f8.params.toList args.toList ds p at hA
  change (DataW.weightsEach Tryd.prog Tryd.f8.params.toList ds).all (· ≤ reachBytes) = true at hsz
  rw [Tryd.params8] at hA hval hsz
  obtain ⟨v0, vs0, d0, ds0, p0, q0, hargs, rfl, rfl, h0, r0⟩ := trodAll_cons hA
  obtain ⟨rfl, rfl, rfl⟩ := trodAll_nil r0
  obtain rfl : args = #[v0] := by cases args; simp_all
  obtain ⟨m0, xa0, xn0, xc0, sa0, sc0, ia0, ic0, rfl, w0⟩ := openMsg Tryd.underlying30 (by kernel_rfl) (hval 0 30 v0 rfl rfl) h0 (weightAt hsz (j := 0) rfl rfl)
  exact msgMemory_walk m0 xa0 xn0 xc0 sa0 sc0 ia0 ic0 W (nms_of_laid hL) w0

theorem over : Rows.msgMemoryRow.holds Tryd.pinned (OpenSpec.ofChange Rows.msgMemorySpec) :=
  OpenClaim.holds_of_wide 8 Tryd.f8 rfl rfl rfl rfl rfl rfl rfl ⟨rfl, rfl, rfl, rfl, rfl⟩ rfl rfl rfl rfl rfl (by kernel_rfl) Tryd.func8 (by kernel_rfl)
    (of_decide_eq_true (by kernel_rfl)) (by unfold Func.isWrapper; first | (rw [if_pos (by decide +kernel)]; kernel_rfl) | (rw [if_neg (by decide +kernel)]; exact ⟨rfl, rfl⟩))
    (fun os started H enc _ => lifted os started H enc)

/-- THE STATEMENT -/
theorem proved : Rows.MsgMemoryCardSaid :=
  Claim7.holds_tied_plain_at .later [] [.data] true Rows.msgMemoryCard.stood.harness Rows.msgMemoryCard.stood.looks over (fun _ h => by cases h) (by kernel_rfl) (fun _ h => by cases h) msgMemory_row_tie rfl ⟨rfl, rfl⟩ (by kernel_rfl) rfl
    (fun f fn hf hfn => by
      obtain rfl : f = 8 := Option.some.inj ((show Tryd.prog.funcNamed "rill/rilllaw11.MsgMemory" = some 8 by kernel_rfl).symm.trans hf) |>.symm
      obtain rfl : fn = Tryd.f8 := (Option.some.inj (Tryd.func8.symm.trans hfn)).symm
      exact ⟨by kernel_rfl, fun j t ht => by
        rw [Tryd.params8] at ht
        have hm : t ∈ [30] := by simpa using Array.mem_of_getElem? ht
        have hall : ([30].all fun u => !Tryd.prog.wantsStandIn u) = true := by kernel_rfl
        exact (show Tryd.prog.wantsStandIn t = false by simpa using List.all_eq_true.1 hall t hm)⟩)
    (by kernel_rfl)
#print axioms proved
end Go.Proofs.YtopnjjehefaghaaDoor.msgMemory
