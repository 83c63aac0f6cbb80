/-
  rillref08: New refused; what a round of the laws' loops keeps.
-/
import Derived.Test.YtdidalcflkphnaaMDkF
import Derived.Test.YtdidalcflkphnaaMDkG
namespace Go.Proofs.Ytdidalcflkphnaa
open Go.RowKit

theorem results_refN {fn : Func} {p u : Tmp} (hf : fn.results = #[.cell p RT, .tmp u]) {w : World} {g : Nat} {q : RefH} (k : w.heap[g]? = some (.cells q.cells RT (0, 0))) (tmps : Array Value) (v : Value) (hp : tmps.getD p undef = .pointer (some ⟨g, 0, none⟩)) (hu : tmps.getD u undef = v) : (results fn tmps).run Try.prog w = .ok (.tuple #[q.v, v]) w := by
  rw [results_cell_tmp hf, hp, hu]
  simp only [asAddr, Sem.run_pure, Result.andThen_ok]
  rw [loadVar_ref w _ q k]
  rfl
set_option maxRecDepth 100000 in
set_option maxHeartbeats 4000000 in
theorem refNew_bad (n p : Int) (w : World) (hn : n < 1 ∨ 512 < n) :
    Calls Try.prog 12 #[.int .i64 n, .int .i64 p] w fun e w' => e = .returned (.tuple #[zH.v, .int .i64 130]) ∧ Below w.heap.size w w' := by
  have b1 := below_alloc w (.cells zH.cells RT)
  have e1 : (w.alloc (.cells zH.cells RT)).heap[w.heap.size]? = some (.cells zH.cells RT (0, 0)) := heap_alloc_self w _
  have hb2 : ∀ cs, Below w.heap.size w ((w.alloc (.cells zH.cells RT)).setRow w.heap.size cs) := fun cs => ⟨b1.os, b1.tape, b1.output, by simp, fun b hb => (setRow_other _ _ _ _ (by omega)).trans (b1.block b hb)⟩
  by_cases h1 : n < 1
  · go_enter Try.func12, Try.ntmps12
    go_wp2_with (first | ((with_reducible show wpList _ _ _ (⟨_, Op.store RT _ _, _, _, _, _⟩ :: _) _ _); refine Hid.out ?_))
    refine Lib.hid ?_
    refine wpList_store_row rfl RT _ _ rfl w.heap.size zH.cells rfl rfl RT _ e1 (by kernel_rfl) rfl (RefH.one _) ?_
    go_wp2_with fail
    exact bodyPost_ret (results_refN rfl (setRow_same e1) _ _ rfl rfl) rfl ⟨rfl, hb2 _⟩
  · have h2 : 512 < n := by omega
    go_enter Try.func12, Try.ntmps12
    go_wp2_with (first | ((with_reducible show wpList _ _ _ (⟨_, Op.store RT _ _, _, _, _, _⟩ :: _) _ _); refine Hid.out ?_))
    refine Lib.hid ?_
    refine wpList_store_row rfl RT _ _ rfl w.heap.size zH.cells rfl rfl RT _ e1 (by kernel_rfl) rfl (RefH.one _) ?_
    go_wp2_with fail
    exact bodyPost_ret (results_refN rfl (setRow_same e1) _ _ rfl rfl) rfl ⟨rfl, hb2 _⟩
/-- a round's state: both disks, the reference's in the law's own box. -/
structure LpS (w0 w : World) (tb : Nat) (F : Nat → Prop) (g : Nat) (R : Nat → Prop) (h : RefH) (d : DV) (m : Nat) : Prop where
  p : Pr w0 w F g R h d m
  box : w.heap[tb]? = some (.cells h.cells RT (0, 0))
  nF : ∀ q, F q → q ≠ tb
  nR : ∀ q, R q → q ≠ tb
  lo : w0.heap.size ≤ tb
/-- behind a step: the new value of the reference's disk lies in a box q. -/
structure LpT (w0 w : World) (tb q : Nat) (h : RefH) (F : Nat → Prop) (g : Nat) (R : Nat → Prop) (h' : RefH) (d : DV) (m : Nat) : Prop where
  p : Pr w0 w F g R h' d m
  box : w.heap[tb]? = some (.cells h.cells RT (0, 0))
  new : w.heap[q]? = some (.cells h'.cells RT (0, 0))
  nF : ∀ q, F q → q ≠ tb
  nR : ∀ q, R q → q ≠ tb
  lo : w0.heap.size ≤ tb
theorem LpS.below {w0 w w' : World} {tb : Nat} {F R : Nat → Prop} {g m : Nat} {h : RefH} {d : DV} (k : LpS w0 w tb F g R h d m) (hb : Below w.heap.size w w') : LpS w0 w' tb F g R h d m :=
  ⟨k.p.below hb, (hb.block tb (Array.getElem?_eq_some_iff.1 k.box).1).trans k.box, k.nF, k.nR, k.lo⟩
theorem LpT.set {w0 w : World} {tb q : Nat} {h h' : RefH} {F R : Nat → Prop} {g m : Nat} {d : DV} (k : LpT w0 w tb q h F g R h' d m) : LpS w0 (w.setRow tb h'.cells) tb F g R h' d m := by
  have cR : ChF (fun b => b = tb) w (w.setRow tb h'.cells) := chF_setRow (F := fun b => b = tb) rfl _
  exact ⟨k.p.chF cR k.nF k.nR (fun x e => by rw [e]; exact k.lo), setRow_same k.box, k.nF, k.nR, k.lo⟩
/-- the box is made behind the step. -/
theorem LpT.after {w0 w w5 : World} {tb : Nat} {h h' : RefH} {F R F' R' : Nat → Prop} {g g' m m' : Nat} {d d' : DV} (k : LpS w0 w tb F g R h d m) (P : Pr w0 w5 F' g' R' h' d' m') (hF : ∀ q, F' q → F q ∨ w.heap.size ≤ q) (hR : ∀ q, R' q → R q ∨ w.heap.size ≤ q) (hc : ChF F w w5) :
    LpT w0 ((w5.alloc (.cells zH.cells RT)).setRow w5.heap.size h'.cells) tb w5.heap.size h F' g' R' h' d' m' := by
  have htb := (Array.getElem?_eq_some_iff.1 k.box).1
  have cR : ChF (fun b => b = w5.heap.size) w5 ((w5.alloc (.cells zH.cells RT)).setRow w5.heap.size h'.cells) := (ChF.of_below (below_alloc w5 _)).trans (chF_setRow (F := fun b => b = w5.heap.size) rfl _) (fun x e => .inl e)
  have e5 := (hc.block tb htb (fun e => k.nF _ e rfl)).trans k.box
  refine ⟨P.chF cR (fun q hq e => by have := P.a.hi q hq; omega) (fun q hq e => by have := P.b.lt q hq; omega) (fun q e => by have := P.bel.size; omega), (cR.block tb (by have := hc.size; omega) (by have := hc.size; omega)).trans e5, setRow_same (heap_alloc_self w5 _), fun q hq => ?_, fun q hq => ?_, k.lo⟩
  · rcases hF q hq with p | p
    · exact k.nF q p
    · omega
  · rcases hR q hq with p | p
    · exact k.nR q p
    · omega
/-- the box is made ahead of the step. -/
theorem LpT.ahead {w0 w w5 : World} {tb : Nat} {h h' : RefH} {F R F' R' : Nat → Prop} {g g' m m' : Nat} {d d' : DV} (k : LpS w0 w tb F g R h d m) (P : Pr w0 w5 F' g' R' h' d' m') (hF : ∀ q, F' q → F q ∨ w.heap.size + 1 ≤ q) (hR : ∀ q, R' q → R q ∨ w.heap.size + 1 ≤ q) (hc : ChF F (w.alloc (.cells zH.cells RT)) w5) :
    LpT w0 (w5.setRow w.heap.size h'.cells) tb w.heap.size h F' g' R' h' d' m' ∧ w5.heap[w.heap.size]? = some (.cells zH.cells RT (0, 0)) := by
  have htb := (Array.getElem?_eq_some_iff.1 k.box).1
  have hz := alloc_sz' w (.cells zH.cells RT)
  have eq := (hc.block w.heap.size (by omega) (fun e => by have := k.p.a.hi _ e; omega)).trans (heap_alloc_self w (.cells zH.cells RT))
  have cR : ChF (fun b => b = w.heap.size) w5 (w5.setRow w.heap.size h'.cells) := chF_setRow (F := fun b => b = w.heap.size) rfl _
  have e5 := (hc.block tb (by omega) (fun e => k.nF _ e rfl)).trans ((heap_alloc_old w (.cells zH.cells RT) htb).trans k.box)
  have s5 := hc.size
  refine ⟨⟨P.chF cR (fun q hq e => ?_) (fun q hq e => ?_) (fun q e => by have := k.p.bel.size; omega), (cR.block tb (by omega) (by omega)).trans e5, setRow_same eq, fun q hq => ?_, fun q hq => ?_, k.lo⟩, eq⟩
  · rcases hF q hq with p | p
    · have := k.p.a.hi q p; omega
    · omega
  · rcases hR q hq with p | p
    · have := k.p.b.lt q p; omega
    · omega
  · rcases hF q hq with p | p
    · exact k.nF q p
    · omega
  · rcases hR q hq with p | p
    · exact k.nR q p
    · omega
end Go.Proofs.Ytdidalcflkphnaa
