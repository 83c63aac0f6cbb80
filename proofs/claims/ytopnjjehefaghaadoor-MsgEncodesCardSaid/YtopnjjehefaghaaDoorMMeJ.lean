/-
  rilllaw09: MetaOrder.
-/
import Derived.Deep.CutBlock
import Derived.Deep.DeepCutAuto
import Derived.Laws.StructEq
import Derived.Test.YtopnjjehefaghaaDoorMMeI
import Derived.Test.YtopnjjehefaghaaDoorMCh3
namespace Go.Proofs.YtopnjjehefaghaaDoor
open Go.RowKit

theorem lt_irrefl (a : Int × Int) : ¬ lt a a := fun h => by simp only [lt] at h; omega
theorem lt_asymm {a b : Int × Int} (h : lt a b) : ¬ lt b a := fun k => by simp only [lt] at h k; omega
theorem lt_trans {a b c : Int × Int} (h : lt a b) (k : lt b c) : lt a c := by simp only [lt] at h k ⊢; omega
theorem lt_or {a b : Int × Int} (h : a ≠ b) : lt a b ∨ lt b a := by
  simp only [lt]
  rcases a with ⟨a0, a1⟩
  rcases b with ⟨b0, b1⟩
  simp only [ne_eq, Prod.mk.injEq, not_and] at h
  by_cases e : a0 = b0
  · have := h e; simp only; omega
  · simp only; omega

theorem eqTag (a0 a1 b0 b1 : Int) (w : World) : (Op.equalIn 10000 23 (.agg #[.int .i64 a0, .int .i64 a1]) (.agg #[.int .i64 b0, .int .i64 b1])).run Tryd.prog w = .ok (decide ((a0, a1) = (b0, b1))) w := by
  rw [show (10000 : Nat) = 9999 + 1 from rfl, run_equalIn_agg w 9999 23 _ _ (by kernel_rfl) (by kernel_rfl)]
  have hp : ∀ (x y : Int) (w : World) , (part 3 #[.int .i64 x, .int .i64 y] 0).run Tryd.prog w = .ok (.int .i64 x) w := fun x y w => by kernel_rfl
  have hq : ∀ (x y : Int) (w : World) , (part 3 #[.int .i64 x, .int .i64 y] 1).run Tryd.prog w = .ok (.int .i64 y) w := fun x y w => by kernel_rfl
  have he : ∀ (x y : Int) (w : World), (Op.equalIn 9999 3 (.int .i64 x) (.int .i64 y)).run Tryd.prog w = .ok (x == y) w := fun x y w => run_equalIn_int w 9998 3 .i64 .i64 x y Tryd.underlying3
  by_cases h0 : a0 = b0
  · by_cases h1 : a1 = b1
    · simp [Op.eqFields, Program.fieldsOf, Tryd.underlying23, hp, hq, he, h0, h1]
    · simp [Op.eqFields, Program.fieldsOf, Tryd.underlying23, hp, hq, he, h0, h1]
  · simp [Op.eqFields, Program.fieldsOf, Tryd.underlying23, hp, hq, he, h0]
theorem neqTag (a0 a1 b0 b1 : Int) (w : World) : (binOp .neq 23 (.agg #[.int .i64 a0, .int .i64 a1]) (.agg #[.int .i64 b0, .int .i64 b1])).run Tryd.prog w = .ok (.bool (!decide ((a0, a1) = (b0, b1)))) w := by
  rw [run_neq_struct, eqTag]
  rfl
/-- three tags in boxes of the call's own. -/
structure Box3 (w : World) (g : Nat) (a0 a1 b0 b1 c0 c1 : Int) : Prop where
  a : w.heap[g]? = some (.cells #[.int .i64 a0, .int .i64 a1] 23 (0, 0))
  b : w.heap[g + 1]? = some (.cells #[.int .i64 b0, .int .i64 b1] 23 (0, 0))
  c : w.heap[g + 2]? = some (.cells #[.int .i64 c0, .int .i64 c1] 23 (0, 0))
theorem Box3.new (w : World) (a0 a1 b0 b1 c0 c1 : Int) : Box3 (((w.alloc (.cells #[.int .i64 a0, .int .i64 a1] 23)).alloc (.cells #[.int .i64 b0, .int .i64 b1] 23)).alloc (.cells #[.int .i64 c0, .int .i64 c1] 23)) w.heap.size a0 a1 b0 b1 c0 c1 := by
  refine ⟨?_, ?_, ?_⟩
  · rw [heap_alloc_old _ _ (by simp; omega), heap_alloc_old _ _ (by simp)]; exact heap_alloc_new _ _
  · rw [heap_alloc_old _ _ (by simp)]; exact two_allocM _ _ _
  · have := heap_alloc_new ((w.alloc (.cells #[.int .i64 a0, .int .i64 a1] 23)).alloc (.cells #[.int .i64 b0, .int .i64 b1] 23)) (.cells #[.int .i64 c0, .int .i64 c1] 23)
    simpa using this
theorem Box3.below {w w' : World} {g : Nat} {a0 a1 b0 b1 c0 c1 : Int} (h : Box3 w g a0 a1 b0 b1 c0 c1) (hb : Below w.heap.size w w') : Box3 w' g a0 a1 b0 b1 c0 c1 :=
  ⟨(hb.block _ (Array.getElem?_eq_some_iff.1 h.a).1).trans h.a, (hb.block _ (Array.getElem?_eq_some_iff.1 h.b).1).trans h.b, (hb.block _ (Array.getElem?_eq_some_iff.1 h.c).1).trans h.c⟩
def Box3.S (w : World) (g : Nat) (a0 a1 b0 b1 c0 c1 : Int) : Prop := w.cell? ⟨g, 0, none⟩ = some (.int .i64 a0) ∧ w.cell? ⟨g, 1, none⟩ = some (.int .i64 a1) ∧ w.cell? ⟨g + 1, 0, none⟩ = some (.int .i64 b0) ∧ w.cell? ⟨g + 1, 1, none⟩ = some (.int .i64 b1) ∧ w.cell? ⟨g + 2, 0, none⟩ = some (.int .i64 c0) ∧ w.cell? ⟨g + 2, 1, none⟩ = some (.int .i64 c1)
theorem Box3.cells {w : World} {g : Nat} {a0 a1 b0 b1 c0 c1 : Int} (h : Box3 w g a0 a1 b0 b1 c0 c1) : w.cell? ⟨g, 0, none⟩ = some (.int .i64 a0) ∧ w.cell? ⟨g, 1, none⟩ = some (.int .i64 a1) ∧ w.cell? ⟨g + 1, 0, none⟩ = some (.int .i64 b0) ∧ w.cell? ⟨g + 1, 1, none⟩ = some (.int .i64 b1) ∧ w.cell? ⟨g + 2, 0, none⟩ = some (.int .i64 c0) ∧ w.cell? ⟨g + 2, 1, none⟩ = some (.int .i64 c1) :=
  ⟨(cells2M h.a).1, (cells2M h.a).2.1, (cells2M h.b).1, (cells2M h.b).2.1, (cells2M h.c).1, (cells2M h.c).2.1⟩

theorem latest_three (a b c : Int × Int) (L : Nat → Int × Int) (h0 : L 0 = a) (h1 : L 1 = b) (h2 : L 2 = c) : (latest L 3 = a ∨ latest L 3 = b ∨ latest L 3 = c) ∧ ¬ lt (latest L 3) a ∧ ¬ lt (latest L 3) b ∧ ¬ lt (latest L 3) c := by
  have e1 : latest L 1 = a := by simp [latest, h0]
  have e2 : latest L 2 = if lt a b then b else a := by
    show (if 1 = 0 ∨ lt (latest L 1) (L 1) then L 1 else latest L 1) = _
    rw [e1, h1]; simp
  have e3 : latest L 3 = if lt (latest L 2) c then c else latest L 2 := by
    show (if 2 = 0 ∨ lt (latest L 2) (L 2) then L 2 else latest L 2) = _
    rw [h2]; simp
  obtain ⟨a0, a1⟩ := a
  obtain ⟨b0, b1⟩ := b
  obtain ⟨c0, c1⟩ := c
  by_cases hab : lt (a0, a1) (b0, b1)
  · rw [if_pos hab] at e2
    rw [e2] at e3
    by_cases hbc : lt (b0, b1) (c0, c1)
    · rw [if_pos hbc] at e3
      rw [e3]
      exact ⟨.inr (.inr rfl), lt_asymm (lt_trans hab hbc), lt_asymm hbc, lt_irrefl _⟩
    · rw [if_neg hbc] at e3
      rw [e3]
      exact ⟨.inr (.inl rfl), lt_asymm hab, lt_irrefl _, hbc⟩
  · rw [if_neg hab] at e2
    rw [e2] at e3
    by_cases hac : lt (a0, a1) (c0, c1)
    · rw [if_pos hac] at e3
      rw [e3]
      refine ⟨.inr (.inr rfl), lt_asymm hac, ?_, lt_irrefl _⟩
      simp only [lt] at *
      omega
    · rw [if_neg hac] at e3
      rw [e3]
      exact ⟨.inl rfl, lt_irrefl _, hab, hac⟩

end Go.Proofs.YtopnjjehefaghaaDoor
