/-
  Tu2: TuN LawT
-/
import Derived.Test.YtfjcbgfgiidogaaDoorTie
import Derived.Test.YtfjcbgfgiidogaaDoorCards
import Derived.LaidMore
import Derived.MakeChecks
import Derived.Lib.LaidTab
import Derived.SevenTiedAt
import Derived.Test.YtfjcbgfgiidogaaDoorMTu1
import Derived.Test.YtfjcbgfgiidogaaDoorMBase
namespace Go.Proofs.YtfjcbgfgiidogaaDoor
open Go.RowKit

theorem after_call (w w1 : World) (o : Obj) (hb : Below (w.alloc o).heap.size (w.alloc o) w1) :
    (∀ o', (w1.alloc o').heap[w.heap.size]? = some o) ∧ (∀ o', Below w.heap.size w (w1.alloc o')) ∧ w1.heap[w.heap.size]? = some o ∧ Below w.heap.size w w1 := by
  have h0 : w1.heap[w.heap.size]? = some o := (hb.block w.heap.size (by simp)).trans (heap_alloc_new w o)
  have hlt : w.heap.size < w1.heap.size := (Array.getElem?_eq_some_iff.1 h0).1
  have hbw : Below w.heap.size w w1 := ((Below.refl _ _).alloc (Nat.le_refl _) o).trans (hb.mono (by simp))
  exact ⟨fun o' => (heap_alloc_old w1 o' hlt).trans h0, fun o' => hbw.alloc (Nat.le_of_lt hlt) o', h0, hbw⟩

set_option maxRecDepth 10000 in
set_option maxHeartbeats 4000000 in
theorem tuple_badk (k x : Int) (w : World) (h : k < 1 ∨ 32 < k) :
    Calls Tryd.prog 87 #[.int .i64 k, .int .i64 x] w fun e w' => e = .returned (.tuple #[tupZ, .int .i64 30]) ∧ Below w.heap.size w w' := by
  have PA := fun w => params_bad k w h
  unfold codeZ at PA
  go_enter Tryd.func87, Tryd.ntmps87
  go_wp2_with (first
    | (go_at_call 77; (with_reducible refine (PA _).mono ?_); rintro e w1 ⟨rfl, hb1⟩; obtain ⟨hold, hbw, hold0, hbw0⟩ := after_call _ _ _ hb1)
    | ((with_reducible show wpList _ _ _ (⟨_, Op.store 125 (.tmp 4) _, _, _, _, _⟩ :: _) _ _); (refine wpList_store_row rfl 125 (.tmp 4) _ rfl w.heap.size tupZs rfl rfl 125 tupZs (hold _) (by kernel_rfl) rfl (one6 _ _ _ _ _ _) ?_)))
  exact bodyPost_ret (v := .tuple #[.agg tupZs, .int .i64 30]) (results_tup _ _ _ _ _ rfl rfl (setRow_heap _ _ _ _ _ _ (hold _)) rfl) rfl ⟨rfl, below_setRow (hbw _) (Nat.le_refl _) _⟩

set_option maxRecDepth 10000 in
set_option maxHeartbeats 4000000 in
theorem tuple_badx (k : Nat) (x : Int) (w : World) (h1 : 1 ≤ k) (hk : k ≤ 32) (h : x < 0 ∨ 16777219 < x) :
    Calls Tryd.prog 87 #[.int .i64 (k : Int), .int .i64 x] w fun e w' => e = .returned (.tuple #[tupZ, .int .i64 40]) ∧ Below w.heap.size w w' := by
  have PA := fun w => params_any k w h1 hk
  unfold codeV at PA
  rcases h with h | h
  all_goals
    go_enter Tryd.func87, Tryd.ntmps87
    go_wp2_with (first
      | (go_at_call 77; (with_reducible refine (PA _).mono ?_); rintro e w1 ⟨rfl, hb1⟩; obtain ⟨hold, hbw, hold0, hbw0⟩ := after_call _ _ _ hb1)
      | ((with_reducible show wpList _ _ _ (⟨_, Op.store 125 (.tmp 4) _, _, _, _, _⟩ :: _) _ _); (refine wpList_store_row rfl 125 (.tmp 4) _ rfl w.heap.size tupZs rfl rfl 125 tupZs (hold _) (by kernel_rfl) rfl (one6 _ _ _ _ _ _) ?_)))
    exact bodyPost_ret (v := .tuple #[.agg tupZs, .int .i64 40]) (results_tup _ _ _ _ _ rfl rfl (setRow_heap _ _ _ _ _ _ (hold _)) rfl) rfl ⟨rfl, below_setRow (hbw _) (Nat.le_refl _) _⟩
end Go.Proofs.YtfjcbgfgiidogaaDoor
namespace Go.Proofs.YtfjcbgfgiidogaaDoor
open Go.ChangeShapes Go.WideShapes Go.ChangeAt Go.RowKit

section
variable {H : Type} {enc : TypeId × Value → H}
theorem lawFrameLaid {C : Checked} {f : FuncId} {fn : Func} {s : ChangeSpec} {os : Os} {X : World → Prop} (hX : ∀ (w w' : World), w.heap = w'.heap → X w → X w') (started : os.Started)
    (own : ownKnob C.prog.godebug = none) (noInit : C.prog.inits.idxOf? f = none) (hfn : C.prog.funcs[f]? = some fn)
    (laid : laidOutB C.prog = true) (hread : fn.params.toList.all (fun t => C.prog.readableRec t && decide (t < C.prog.types.size)) = true)
    (boolT : TypeId) (hres : fn.resultTypes = #[boolT]) (hbool : C.prog.underlying boolT = some .bool) (hvars : s.vars = [])
    (hspec : ∀ (ds : List (DataW H)), ds.length = fn.params.size → s.fn H ds = { results := [.lit (.bool true)], args := ds })
    (witness : ∃ (w : World) (tape : Tape) (i : Input), w.os = os ∧ (w.forCall tape i).Shaped C.prog ∧ i.vars = [] ∧ Input.okWide C.prog (w.forCall tape i) .any w.heap.size f i ∧
      ((s.pre enc C.prog fn [] false (w.forCall tape i).memory i.args ∧ X (w.forCall tape i).memory) ∧ sizedMet enc C.prog fn (OpenSpec.ofChange s) false (w.forCall tape i).memory i.args) ∧ ({} : Assume).holds C.prog (lone (Frame.enter C.prog f i.args .normal) [] (w.forCall tape i)))
    (walk : ∀ (W : World) (base : Nat) (args : Array Value) (ds : List (DataW H)) (p : List MemPlace),
      (∀ (j : Nat) t v, fn.params[j]? = some t → args[j]? = some v → Value.okWide C.prog W .any base t v) →
      DataW.TrodAll enc C.prog W 0 (fun _ => true) true fn.params.toList args.toList ds p →
      (DataW.weightsEach C.prog fn.params.toList ds).all (· ≤ reachBytes) = true → X W →
      Calls C.prog f args W fun e W' => e = .returned (.bool true) ∧ Below W.heap.size W W') :
    ReturnsInHanded {} C os f .any (fun w args => (s.pre enc C.prog fn [] false w args ∧ X w) ∧ sizedMet enc C.prog fn (OpenSpec.ofChange s) false w args) (s.post enc C.prog fn false true false false) := by
  refine returnsInHanded_of_change_and (X := fun w _ => X w) (fun w w' _ h => hX w w' h) own started noInit hfn witness ?_
  intro W base args ds gs before hval hW _ hsz hL _
  have hW' := hW
  obtain ⟨p, q, hA, hV, rfl, hfz, hnd⟩ := hW
  have hvt : s.plain.varTypes C.prog = [] := by simp [DataSpec.varTypes, ChangeSpec.plain, hvars]
  rw [hvars] at hV
  obtain ⟨rfl, rfl⟩ := trodVars_none hV
  rw [hvt, List.append_nil, List.append_nil] at hsz
  refine (walk W base args ds p hval hA hsz hL).mono fun e W' ⟨he, bel⟩ => ?_
  subst he
  have hlen : ds.length = fn.params.size := by rw [trodAll_length hA]; simp
  refine ⟨_, rfl, ds, [], p ++ [], [], p, [], hW', ?_, ?_, ?_, bel.frame _, fun h => by cases h⟩
  · rw [List.append_nil, hspec ds hlen, hres]
    exact trodAll_mk1 (shut_bool hbool _)
  · rw [List.append_nil, hspec ds hlen]
    exact trodAll_stays laid bel hread hA
  · rw [List.append_nil, hspec ds hlen, hvars]
    rfl
end

def laidB : List (String × DataW Unit) := [("rill/tuple.bounds", Rows.laid_rill_tuple_bounds)]
theorem gBnds : Tryd.prog.globalNamed "rill/tuple.bounds" = some 0 := by kernel_rfl
theorem tBnds : (Tryd.prog.globals[0]?).map (·.type) = some 162 := by kernel_rfl
theorem bnd_of_laid {W : World} (h : laidMetH Tryd.prog laidB W) : Bnd W := by
  rw [MakeChecks.laidMetH_plain _ _ _ (by kernel_rfl)] at h
  have ht := Lib.tabIs_of_head (k := .i64) (zs := bnds) (g := 0) (rest := []) gBnds tBnds Tryd.underlying162 Tryd.underlying3 (by kernel_rfl) (by kernel_rfl) h
  unfold Lib.TabIs World.var? at ht
  rw [gBnds] at ht
  simp only [Option.bind_some] at ht
  split at ht
  · rename_i cs t fr hc
    obtain rfl := Option.some.inj ht
    exact ⟨t, fr, hc⟩
  · cases ht
theorem door_met (os : Os) (args : Array Value) : laidMetH Tryd.prog laidB ((World.doorLaid Tryd.prog 400 os).forCall (fun _ _ => 0) ⟨#[], args, []⟩).memory :=
  laidMetH_of_parts3 (fuel := 8) (laidMet_of_run' 8 (by kernel_rfl) (by kernel_rfl)) (by kernel_rfl) (by kernel_rfl)
end Go.Proofs.YtfjcbgfgiidogaaDoor
