/-
  sha's reference: table.
-/
import Derived.Test.YthofndobmiamjaaDoorShK
import Derived.Laws.Tables
namespace Go.Proofs.YthofndobmiamjaaDoor
open Go.RowKit

theorem wpList_builtS {P : Program} {ops : Array Oper} {rest : List Oper} {o : Oper} {a : Act} {w : World} {Q : Exit → Act → World → Prop} (hg : o.guard = none) (t : TypeId) (parts : Array (Nat × Operand)) (ho : o.op = .build t parts) (cs : Array Value)
    (hc : P.built t (parts.map fun (i, x) => (i, a.eval x)).toList = some cs)
    (h : wpList P ops Q rest (a.put o.dst (.agg cs)) w) : wpList P ops Q (o :: rest) a w := by
  refine wpList_build hg t parts ho (by rw [hc]; rfl) ?_
  rw [hc]
  exact h
set_option maxRecDepth 100000 in
set_option maxHeartbeats 4000000 in
theorem table_any (w : World) : Calls Tryd.prog 32 #[] w fun e w' => e = .returned (.agg (shaK.map uv).toArray) ∧ Below w.heap.size w w' := by
  obtain ⟨Kc, hKc⟩ : ∃ A, A = (shaK.map uv).toArray := ⟨_, rfl⟩
  have hKs : Kc.size = 64 := by rw [hKc]; rfl
  have hiK : (Tryd.prog.info? KT64).map (·.size) = some Kc.size := by rw [hKs]; exact infoK64
  have hoK : Kc.all (·.oneCell') = true := by rw [hKc]; exact uv_one _
  have HK := Lib.hid hKc
  rw [← hKc]
  clear hKc
  go_enter Tryd.func32, Tryd.ntmps32
  go_upto_region 1 with fail
  refine (?_ : ∀ W1, (Below w.heap.size w W1 ∧ W1.heap[w.heap.size]? = some (.cells ((List.replicate 64 0).map uv).toArray KT64 (0, 0))) → Code.wp Tryd.prog _ _ _ W1) _ ⟨below_alloc w _, heap_alloc_new w (.cells ((List.replicate 64 0).map uv).toArray KT64)⟩
  rintro W1 ⟨hb1, hr1⟩
  go_wp2_with (first | (refine wpList_builtS rfl KT64 _ rfl Kc (by rw [HK.out]; kernel_rfl) ?_) | (refine wpList_store_row rfl KT64 _ _ rfl w.heap.size Kc rfl rfl KT64 _ hr1 hiK (by rw [hKs]; rfl) hoK ?_))
  refine bodyPost_ret (results_cell_row rfl _ _ w.heap.size KT64 Kc (0, 0) _ rfl ?hh Tryd.underlying58 rfl hiK) (by rfl) ?_
  · exact setRow_heap _ _ _ _ _ _ hr1
  exact ⟨rfl, below_setRow hb1 (Nat.le_refl _) _⟩
end Go.Proofs.YthofndobmiamjaaDoor
