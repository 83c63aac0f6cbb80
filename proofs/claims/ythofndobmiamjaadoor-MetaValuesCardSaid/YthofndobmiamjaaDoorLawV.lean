/-
  The frame of a law's proof where the row lists two laid variables (sha's).
-/
import Derived.Test.YthofndobmiamjaaDoorLaw
import Derived.Test.YthofndobmiamjaaDoorShJ
import Derived.Test.YthofndobmiamjaaDoorTie
import Derived.Test.YthofndobmiamjaaDoorCards
import Derived.LaidMore
import Derived.MakeChecks
import Derived.Lib.LaidTab
import Derived.SevenTiedAt
namespace Go.Proofs.YthofndobmiamjaaDoor
open Go.ChangeShapes Go.WideShapes Go.ChangeAt Go.RowKit

section
variable {H : Type} {enc : TypeId × Value → H}
theorem lawFrameLaid {C : Checked} {f : FuncId} {fn : Func} {s : ChangeSpec} {os : Os} {X : World → Prop} (hX : ∀ (w w' : World), w.heap = w'.heap → X w → X w') (started : os.Started)
    (own : ownKnob C.prog.godebug = none) (noInit : C.prog.inits.idxOf? f = none) (hfn : C.prog.funcs[f]? = some fn)
    (laid : laidOutB C.prog = true) (hread : fn.params.toList.all (fun t => C.prog.readableRec t && decide (t < C.prog.types.size)) = true)
    (boolT : TypeId) (hres : fn.resultTypes = #[boolT]) (hbool : C.prog.underlying boolT = some .bool) (hvars : s.vars = [])
    (hspec : ∀ (ds : List (DataW H)), ds.length = fn.params.size → s.fn H ds = { results := [.lit (.bool true)], args := ds })
    (witness : ∃ (w : World) (tape : Tape) (i : Input), w.os = os ∧ (w.forCall tape i).Shaped C.prog ∧ i.vars = [] ∧ Input.okWide C.prog (w.forCall tape i) .any w.heap.size f i ∧
      ((s.pre enc C.prog fn [] false (w.forCall tape i).memory i.args ∧ X (w.forCall tape i).memory) ∧ sizedMet enc C.prog fn (OpenSpec.ofChange s) false (w.forCall tape i).memory i.args) ∧ ({} : Assume).holds C.prog (lone (Frame.enter C.prog f i.args .normal) [] (w.forCall tape i)))
    (walk : ∀ (W : World) (base : Nat) (args : Array Value) (ds : List (DataW H)) (p : List MemPlace),
      (∀ (j : Nat) t v, fn.params[j]? = some t → args[j]? = some v → Value.okWide C.prog W .any base t v) →
      DataW.TrodAll enc C.prog W 0 (fun _ => true) true fn.params.toList args.toList ds p →
      (DataW.weightsEach C.prog fn.params.toList ds).all (· ≤ reachBytes) = true → X W →
      Calls C.prog f args W fun e W' => e = .returned (.bool true) ∧ Below W.heap.size W W') :
    ReturnsInHanded {} C os f .any (fun w args => (s.pre enc C.prog fn [] false w args ∧ X w) ∧ sizedMet enc C.prog fn (OpenSpec.ofChange s) false w args) (s.post enc C.prog fn false true false false) := by
  refine returnsInHanded_of_change_and (X := fun w _ => X w) (fun w w' _ h => hX w w' h) own started noInit hfn witness ?_
  intro W base args ds gs before hval hW _ hsz hL _
  have hW' := hW
  obtain ⟨p, q, hA, hV, rfl, hfz, hnd⟩ := hW
  have hvt : s.plain.varTypes C.prog = [] := by simp [DataSpec.varTypes, ChangeSpec.plain, hvars]
  rw [hvars] at hV
  obtain ⟨rfl, rfl⟩ := trodVars_none hV
  rw [hvt, List.append_nil, List.append_nil] at hsz
  refine (walk W base args ds p hval hA hsz hL).mono fun e W' ⟨he, bel⟩ => ?_
  subst he
  have hlen : ds.length = fn.params.size := by rw [trodAll_length hA]; simp
  refine ⟨_, rfl, ds, [], p ++ [], [], p, [], hW', ?_, ?_, ?_, bel.frame _, fun h => by cases h⟩
  · rw [List.append_nil, hspec ds hlen, hres]
    exact trodAll_mk1 (shut_bool hbool _)
  · rw [List.append_nil, hspec ds hlen]
    exact trodAll_stays laid bel hread hA
  · rw [List.append_nil, hspec ds hlen, hvars]
    rfl
end

def laidB : List (String × DataW Unit) := [("rill/sha.start", Rows.laid_rill_sha_start), ("rill/sha.constants", Rows.laid_rill_sha_constants)]
theorem gSt : Tryd.prog.globalNamed "rill/sha.start" = some 0 := by kernel_rfl
theorem tSt : (Tryd.prog.globals[0]?).map (·.type) = some 48 := by kernel_rfl
theorem gKs : Tryd.prog.globalNamed "rill/sha.constants" = some 1 := by kernel_rfl
theorem tKs : (Tryd.prog.globals[1]?).map (·.type) = some 58 := by kernel_rfl
theorem laid_is : laidB = [("rill/sha.start", Lib.tabData .u32 (shaH.map Int.ofNat)), ("rill/sha.constants", Lib.tabData .u32 (shaK.map Int.ofNat))] := by kernel_rfl
theorem sha_of_laid {W : World} (h : laidMetH Tryd.prog laidB W) : SK W ∧ CK W := by
  rw [MakeChecks.laidMetH_plain _ _ _ (by kernel_rfl), laid_is] at h
  have h1 := Lib.tabIs_of_head (k := .u32) (zs := shaH.map Int.ofNat) (g := 0) gSt tSt Tryd.underlying48 Tryd.underlying47 (by kernel_rfl) (by kernel_rfl) h
  have h0 : laidMet Tryd.prog [("rill/sha.constants", Lib.tabData .u32 (shaK.map Int.ofNat))] W := by
    obtain ⟨ps, ⟨g1, t1, cs1, fu1, p1, q1, e1, e2, e3, e4, hrest, e5⟩, hnd, hall⟩ := h
    exact ⟨q1, hrest, by rw [e5] at hnd; exact (List.nodup_append.1 hnd).2.1, fun b off hb => hall b off (by rw [e5]; exact List.mem_append_right _ hb)⟩
  have h2 := Lib.tabIs_of_head (k := .u32) (zs := shaK.map Int.ofNat) (g := 1) gKs tKs Tryd.underlying58 Tryd.underlying47 (by kernel_rfl) (by kernel_rfl) (rest := []) h0
  unfold Lib.TabIs World.var? at h1 h2
  rw [gSt] at h1
  rw [gKs] at h2
  simp only [Option.bind_some] at h1 h2
  refine ⟨?_, ?_⟩
  · split at h1
    · rename_i cs t fr hc
      have h1 := Option.some.inj h1
      refine ⟨t, fr, ?_⟩
      rw [hc, h1, List.map_map]
      rfl
    · cases h1
  · split at h2
    · rename_i cs t fr hc
      have h2 := Option.some.inj h2
      refine ⟨t, fr, ?_⟩
      rw [hc, h2, List.map_map]
      rfl
    · cases h2
theorem door_met (os : Os) (args : Array Value) : laidMetH Tryd.prog laidB ((World.doorLaid Tryd.prog 400 os).forCall (fun _ _ => 0) ⟨#[], args, []⟩).memory :=
  laidMetH_of_parts3 (fuel := 8) (laidMet_of_run' 8 (by kernel_rfl) (by kernel_rfl)) (by kernel_rfl) (by kernel_rfl)
end Go.Proofs.YthofndobmiamjaaDoor
