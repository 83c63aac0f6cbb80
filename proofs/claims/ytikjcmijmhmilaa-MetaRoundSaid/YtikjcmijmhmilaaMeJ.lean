/-
  rilllaw09: MetaOrder.
-/
import Derived.Test.YtikjcmijmhmilaaMeI
import Derived.Test.YtikjcmijmhmilaaSink
import Derived.Deep.CutBlock
import Derived.Deep.DeepCutAuto
import Derived.Laws.StructEq
namespace Go.Proofs.Ytikjcmijmhmilaa
open Go.RowKit

theorem lt_irrefl (a : Int × Int) : ¬ lt a a := fun h => by simp only [lt] at h; omega
theorem lt_asymm {a b : Int × Int} (h : lt a b) : ¬ lt b a := fun k => by simp only [lt] at h k; omega
theorem lt_trans {a b c : Int × Int} (h : lt a b) (k : lt b c) : lt a c := by simp only [lt] at h k ⊢; omega
theorem lt_or {a b : Int × Int} (h : a ≠ b) : lt a b ∨ lt b a := by
  simp only [lt]
  rcases a with ⟨a0, a1⟩
  rcases b with ⟨b0, b1⟩
  simp only [ne_eq, Prod.mk.injEq, not_and] at h
  by_cases e : a0 = b0
  · have := h e; simp only; omega
  · simp only; omega

theorem eqTag (a0 a1 b0 b1 : Int) (w : World) : (Op.equalIn 10000 25 (.agg #[.int .i64 a0, .int .i64 a1]) (.agg #[.int .i64 b0, .int .i64 b1])).run Try.prog w = .ok (decide ((a0, a1) = (b0, b1))) w := by
  rw [show (10000 : Nat) = 9999 + 1 from rfl, run_equalIn_agg w 9999 25 _ _ (by kernel_rfl) (by kernel_rfl)]
  have hp : ∀ (x y : Int) (w : World) , (part 3 #[.int .i64 x, .int .i64 y] 0).run Try.prog w = .ok (.int .i64 x) w := fun x y w => by kernel_rfl
  have hq : ∀ (x y : Int) (w : World) , (part 3 #[.int .i64 x, .int .i64 y] 1).run Try.prog w = .ok (.int .i64 y) w := fun x y w => by kernel_rfl
  have he : ∀ (x y : Int) (w : World), (Op.equalIn 9999 3 (.int .i64 x) (.int .i64 y)).run Try.prog w = .ok (x == y) w := fun x y w => run_equalIn_int w 9998 3 .i64 .i64 x y Try.underlying3
  by_cases h0 : a0 = b0
  · by_cases h1 : a1 = b1
    · simp [Op.eqFields, Program.fieldsOf, Try.underlying25, hp, hq, he, h0, h1]
    · simp [Op.eqFields, Program.fieldsOf, Try.underlying25, hp, hq, he, h0, h1]
  · simp [Op.eqFields, Program.fieldsOf, Try.underlying25, hp, hq, he, h0]
theorem neqTag (a0 a1 b0 b1 : Int) (w : World) : (binOp .neq 25 (.agg #[.int .i64 a0, .int .i64 a1]) (.agg #[.int .i64 b0, .int .i64 b1])).run Try.prog w = .ok (.bool (!decide ((a0, a1) = (b0, b1)))) w := by
  rw [run_neq_struct, eqTag]
  rfl
/-- three tags in boxes of the call's own. -/
structure Box3 (w : World) (g : Nat) (a0 a1 b0 b1 c0 c1 : Int) : Prop where
  a : w.heap[g]? = some (.cells #[.int .i64 a0, .int .i64 a1] 25 (0, 0))
  b : w.heap[g + 1]? = some (.cells #[.int .i64 b0, .int .i64 b1] 25 (0, 0))
  c : w.heap[g + 2]? = some (.cells #[.int .i64 c0, .int .i64 c1] 25 (0, 0))
theorem Box3.new (w : World) (a0 a1 b0 b1 c0 c1 : Int) : Box3 (((w.alloc (.cells #[.int .i64 a0, .int .i64 a1] 25)).alloc (.cells #[.int .i64 b0, .int .i64 b1] 25)).alloc (.cells #[.int .i64 c0, .int .i64 c1] 25)) w.heap.size a0 a1 b0 b1 c0 c1 := by
  refine ⟨?_, ?_, ?_⟩
  · rw [heap_alloc_old _ _ (by simp; omega), heap_alloc_old _ _ (by simp)]; exact heap_alloc_new _ _
  · rw [heap_alloc_old _ _ (by simp)]; exact two_allocM _ _ _
  · have := heap_alloc_new ((w.alloc (.cells #[.int .i64 a0, .int .i64 a1] 25)).alloc (.cells #[.int .i64 b0, .int .i64 b1] 25)) (.cells #[.int .i64 c0, .int .i64 c1] 25)
    simpa using this
theorem Box3.below {w w' : World} {g : Nat} {a0 a1 b0 b1 c0 c1 : Int} (h : Box3 w g a0 a1 b0 b1 c0 c1) (hb : Below w.heap.size w w') : Box3 w' g a0 a1 b0 b1 c0 c1 :=
  ⟨(hb.block _ (Array.getElem?_eq_some_iff.1 h.a).1).trans h.a, (hb.block _ (Array.getElem?_eq_some_iff.1 h.b).1).trans h.b, (hb.block _ (Array.getElem?_eq_some_iff.1 h.c).1).trans h.c⟩
def Box3.S (w : World) (g : Nat) (a0 a1 b0 b1 c0 c1 : Int) : Prop := w.cell? ⟨g, 0, none⟩ = some (.int .i64 a0) ∧ w.cell? ⟨g, 1, none⟩ = some (.int .i64 a1) ∧ w.cell? ⟨g + 1, 0, none⟩ = some (.int .i64 b0) ∧ w.cell? ⟨g + 1, 1, none⟩ = some (.int .i64 b1) ∧ w.cell? ⟨g + 2, 0, none⟩ = some (.int .i64 c0) ∧ w.cell? ⟨g + 2, 1, none⟩ = some (.int .i64 c1)
theorem Box3.cells {w : World} {g : Nat} {a0 a1 b0 b1 c0 c1 : Int} (h : Box3 w g a0 a1 b0 b1 c0 c1) : w.cell? ⟨g, 0, none⟩ = some (.int .i64 a0) ∧ w.cell? ⟨g, 1, none⟩ = some (.int .i64 a1) ∧ w.cell? ⟨g + 1, 0, none⟩ = some (.int .i64 b0) ∧ w.cell? ⟨g + 1, 1, none⟩ = some (.int .i64 b1) ∧ w.cell? ⟨g + 2, 0, none⟩ = some (.int .i64 c0) ∧ w.cell? ⟨g + 2, 1, none⟩ = some (.int .i64 c1) :=
  ⟨(cells2M h.a).1, (cells2M h.a).2.1, (cells2M h.b).1, (cells2M h.b).2.1, (cells2M h.c).1, (cells2M h.c).2.1⟩

theorem latest_three (a b c : Int × Int) (L : Nat → Int × Int) (h0 : L 0 = a) (h1 : L 1 = b) (h2 : L 2 = c) : (latest L 3 = a ∨ latest L 3 = b ∨ latest L 3 = c) ∧ ¬ lt (latest L 3) a ∧ ¬ lt (latest L 3) b ∧ ¬ lt (latest L 3) c := by
  have e1 : latest L 1 = a := by simp [latest, h0]
  have e2 : latest L 2 = if lt a b then b else a := by
    show (if 1 = 0 ∨ lt (latest L 1) (L 1) then L 1 else latest L 1) = _
    rw [e1, h1]; simp
  have e3 : latest L 3 = if lt (latest L 2) c then c else latest L 2 := by
    show (if 2 = 0 ∨ lt (latest L 2) (L 2) then L 2 else latest L 2) = _
    rw [h2]; simp
  obtain ⟨a0, a1⟩ := a
  obtain ⟨b0, b1⟩ := b
  obtain ⟨c0, c1⟩ := c
  by_cases hab : lt (a0, a1) (b0, b1)
  · rw [if_pos hab] at e2
    rw [e2] at e3
    by_cases hbc : lt (b0, b1) (c0, c1)
    · rw [if_pos hbc] at e3
      rw [e3]
      exact ⟨.inr (.inr rfl), lt_asymm (lt_trans hab hbc), lt_asymm hbc, lt_irrefl _⟩
    · rw [if_neg hbc] at e3
      rw [e3]
      exact ⟨.inr (.inl rfl), lt_asymm hab, lt_irrefl _, hbc⟩
  · rw [if_neg hab] at e2
    rw [e2] at e3
    by_cases hac : lt (a0, a1) (c0, c1)
    · rw [if_pos hac] at e3
      rw [e3]
      refine ⟨.inr (.inr rfl), lt_asymm hac, ?_, lt_irrefl _⟩
      simp only [lt] at *
      omega
    · rw [if_neg hac] at e3
      rw [e3]
      exact ⟨.inl rfl, lt_irrefl _, hab, hac⟩

set_option maxRecDepth 100000 in
set_option maxHeartbeats 8000000 in
theorem metaOrder_walk (a0 a1 b0 b1 c0 c1 client : Int) (w : World) (_wa0 : (Lit.int .i64 a0).wf = true) (_wa1 : (Lit.int .i64 a1).wf = true) (_wb0 : (Lit.int .i64 b0).wf = true) (_wb1 : (Lit.int .i64 b1).wf = true) (_wc0 : (Lit.int .i64 c0).wf = true) (_wc1 : (Lit.int .i64 c1).wf = true) (_wk : (Lit.int .i64 client).wf = true) :
    Calls Try.prog 4 #[.agg #[.int .i64 a0, .int .i64 a1], .agg #[.int .i64 b0, .int .i64 b1], .agg #[.int .i64 c0, .int .i64 c1], .int .i64 client] w fun e w' => e = .returned (.bool true) ∧ Below w.heap.size w w' := by
  have KA := alive_any
  have KT : ∀ x0 x1 y0 y1, lt (x0, x1) (y0, y1) → ∀ w, Calls Try.prog 13 #[.agg #[.int .i64 x0, .int .i64 x1], .agg #[.int .i64 y0, .int .i64 y1]] w fun e w' => e = .returned (.bool true) ∧ Below w.heap.size w w' := fun x0 x1 y0 y1 h w => by
    have := earlier_any x0 x1 y0 y1 w; rwa [decide_eq_true h] at this
  have KF : ∀ x0 x1 y0 y1, ¬ lt (x0, x1) (y0, y1) → ∀ w, Calls Try.prog 13 #[.agg #[.int .i64 x0, .int .i64 x1], .agg #[.int .i64 y0, .int .i64 y1]] w fun e w' => e = .returned (.bool false) ∧ Below w.heap.size w w' := fun x0 x1 y0 y1 h w => by
    have := earlier_any x0 x1 y0 y1 w; rwa [decide_eq_false h] at this
  have KNE : ∀ x0 x1 y0 y1, (x0, x1) ≠ (y0, y1) → ∀ w : World, (binOp .neq 25 (.agg #[.int .i64 x0, .int .i64 x1]) (.agg #[.int .i64 y0, .int .i64 y1])).run Try.prog w = .ok (.bool true) w := fun x0 x1 y0 y1 h w => by rw [neqTag, decide_eq_false h]; rfl
  have KEQ : ∀ x0 x1 y0 y1, (x0, x1) = (y0, y1) → ∀ w : World, (binOp .neq 25 (.agg #[.int .i64 x0, .int .i64 x1]) (.agg #[.int .i64 y0, .int .i64 y1])).run Try.prog w = .ok (.bool false) w := fun x0 x1 y0 y1 h w => by rw [neqTag, decide_eq_true h]; rfl
  have HKT := Lib.hid KT
  have HKF := Lib.hid KF
  have HKNE := Lib.hid KNE
  have HKEQ := Lib.hid KEQ
  clear KT KF KNE KEQ
  go_enter Try.func4, Try.ntmps4
  go_wp2_with fail
  (with_reducible refine (KA _).mono ?_)
  rintro e w2 ⟨rfl, hb⟩
  have X2 := (Box3.new w a0 a1 b0 b1 c0 c1).below hb
  have hb2 : Below w.heap.size w w2 := (((below_alloc w _).alloc (by simp) _).alloc (by simp; omega) _).trans (hb.mono (by simp; omega))
  obtain ⟨g, hg⟩ : ∃ g, g = w.heap.size := ⟨_, rfl⟩
  rw [← hg] at X2 ⊢
  have HG := Lib.hid hg
  have HX2 := Lib.hid X2
  have HB2 := Lib.hid hb2
  clear hb KA X2 hb2 hg
  go_upto_region 3 with fail
  go_cut [38] (fun v wx => v = .bool false ∧ Hid (Box3 wx g a0 a1 b0 b1 c0 c1) ∧ Hid (Below w.heap.size w wx))
  case first =>
    have KAA := HKF.out a0 a1 a0 a1 (lt_irrefl _)
    by_cases hab : (a0, a1) = (b0, b1)
    · have KAB := HKF.out a0 a1 b0 b1 (by rw [hab]; exact lt_irrefl _)
      have KBA := HKF.out b0 b1 a0 a1 (by rw [hab]; exact lt_irrefl _)
      have hneq := HKEQ.out a0 a1 b0 b1 hab
      clear hab
      have P0r1 := (HX2.out.below (show Below w2.heap.size w2 w2.drew from ⟨rfl, rfl, rfl, Nat.le_refl _, fun _ _ => rfl⟩)).cells
      refine GoX.start 26 (fun w' => w'.cell? ⟨g, 0, none⟩ = some (.int .i64 a0) ∧ w'.cell? ⟨g, 1, none⟩ = some (.int .i64 a1) ∧ w'.cell? ⟨g + 1, 0, none⟩ = some (.int .i64 b0) ∧ w'.cell? ⟨g + 1, 1, none⟩ = some (.int .i64 b1) ∧ w'.cell? ⟨g + 2, 0, none⟩ = some (.int .i64 c0) ∧ w'.cell? ⟨g + 2, 1, none⟩ = some (.int .i64 c1)) (by kernel_rfl) ?_
      refine GoX.take 0 rfl (by kernel_rfl) (by kernel_rfl) (by rfl) (fun _ _ _ h => h) (v := ?tv0r1) P0r1 ?ty0r1 ?tr0r1
      case ty0r1 => (intro w hSw; (try dsimp only at hSw); go_simp; first | done | with_reducible rfl)
      simp only [Act.put, List.setIfInBounds_toArray, List.set_cons_zero, List.set_cons_succ]
      refine GoX.take 1 rfl (by kernel_rfl) (by kernel_rfl) (by rfl) (fun _ _ _ h => h) (v := ?tv1r1) P0r1 ?ty1r1 ?tr1r1
      case ty1r1 => (intro w hSw; (try dsimp only at hSw); go_simp; first | done | with_reducible rfl)
      simp only [Act.put, List.setIfInBounds_toArray, List.set_cons_zero, List.set_cons_succ]
      refine GoX.one 2 rfl (by kernel_rfl) (by decide) (fun K hK => ?_)
      rw [if_pos (by rfl)]
      go_simp
      (with_reducible refine (KAA _).mono ?_)
      rintro e wr11 ⟨rfl, hd⟩
      have hd' : Below w2.heap.size w2 wr11 := ⟨hd.os, hd.tape, hd.output, hd.size, hd.block⟩
      have Xr11 := Lib.hid (HX2.out.below hd')
      have Br11 := Lib.hid (HB2.out.trans (hd'.mono HB2.out.size))
      have Pr11 := Xr11.out.cells
      refine hK.out _ _ Pr11 (fun _ => ?_)
      clear hK K hd hd' P0r1
      refine GoX.take 3 rfl (by kernel_rfl) (by kernel_rfl) (by rfl) (fun _ _ _ h => h) (v := ?tv3r1) Pr11 ?ty3r1 ?tr3r1
      case ty3r1 => (intro w hSw; (try dsimp only at hSw); go_simp; first | done | with_reducible rfl)
      simp only [Act.put, List.setIfInBounds_toArray, List.set_cons_zero, List.set_cons_succ]
      refine GoX.take 4 rfl (by kernel_rfl) (by kernel_rfl) (by rfl) (fun _ _ _ h => h) (v := ?tv4r1) Pr11 ?ty4r1 ?tr4r1
      case ty4r1 => (intro w hSw; (try dsimp only at hSw); go_simp; first | done | with_reducible rfl)
      simp only [Act.put, List.setIfInBounds_toArray, List.set_cons_zero, List.set_cons_succ]
      refine GoX.take 5 rfl (by kernel_rfl) (by kernel_rfl) (by rfl) (fun _ _ _ h => h) (v := ?tv5r1) Pr11 ?ty5r1 ?tr5r1
      case ty5r1 => (intro w hSw; (try dsimp only at hSw); go_simp; first | done | with_reducible rfl)
      simp only [Act.put, List.setIfInBounds_toArray, List.set_cons_zero, List.set_cons_succ]
      refine GoX.take 12 rfl (by kernel_rfl) (by kernel_rfl) (by rfl) (fun _ _ _ h => h) (v := ?tv12r1) Pr11 ?ty12r1 ?tr12r1
      case ty12r1 => (intro w hSw; (try dsimp only at hSw); go_simp; first | done | with_reducible rfl)
      simp only [Act.put, List.setIfInBounds_toArray, List.set_cons_zero, List.set_cons_succ]
      refine GoX.take 13 rfl (by kernel_rfl) (by kernel_rfl) (by rfl) (fun _ _ _ h => h) (v := ?tv13r1) Pr11 ?ty13r1 ?tr13r1
      case ty13r1 => (intro w hSw; (try dsimp only at hSw); go_simp; first | done | with_reducible rfl)
      simp only [Act.put, List.setIfInBounds_toArray, List.set_cons_zero, List.set_cons_succ]
      refine GoX.take 14 rfl (by kernel_rfl) (by kernel_rfl) (by rfl) (fun _ _ _ h => h) (v := ?tv14r1) Pr11 ?ty14r1 ?tr14r1
      case ty14r1 => (intro w hSw; (try dsimp only at hSw); go_simp; first | done | with_reducible rfl)
      simp only [Act.put, List.setIfInBounds_toArray, List.set_cons_zero, List.set_cons_succ]
      refine GoX.one 6 rfl (by kernel_rfl) (by decide) (fun K hK => ?_)
      rw [if_pos (by rfl)]
      go_simp
      (with_reducible refine (KAB _).mono ?_)
      rintro e wr12 ⟨rfl, hd⟩
      have hd' : Below wr11.heap.size wr11 wr12 := ⟨hd.os, hd.tape, hd.output, hd.size, hd.block⟩
      have Xr12 := Lib.hid (Xr11.out.below hd')
      have Br12 := Lib.hid (Br11.out.trans (hd'.mono Br11.out.size))
      have Pr12 := Xr12.out.cells
      refine hK.out _ _ Pr12 (fun _ => ?_)
      clear hK K hd hd' Pr11
      refine GoX.take 7 rfl (by kernel_rfl) (by kernel_rfl) (by rfl) (fun _ _ _ h => h) (v := ?tv7r1) Pr12 ?ty7r1 ?tr7r1
      case ty7r1 => (intro w hSw; (try dsimp only at hSw); go_simp; first | done | with_reducible rfl)
      simp only [Act.put, List.setIfInBounds_toArray, List.set_cons_zero, List.set_cons_succ]
      refine GoX.take 8 rfl (by kernel_rfl) (by kernel_rfl) (by rfl) (fun _ _ _ h => h) (v := ?tv8r1) Pr12 ?ty8r1 ?tr8r1
      case ty8r1 => (intro w hSw; (try dsimp only at hSw); go_simp; first | done | with_reducible rfl)
      simp only [Act.put, List.setIfInBounds_toArray, List.set_cons_zero, List.set_cons_succ]
      refine GoX.take 9 rfl (by kernel_rfl) (by kernel_rfl) (by rfl) (fun _ _ _ h => h) (v := ?tv9r1) Pr12 ?ty9r1 ?tr9r1
      case ty9r1 => (intro w hSw; (try dsimp only at hSw); go_simp; first | done | with_reducible rfl)
      simp only [Act.put, List.setIfInBounds_toArray, List.set_cons_zero, List.set_cons_succ]
      refine GoX.one 10 rfl (by kernel_rfl) (by decide) (fun K hK => ?_)
      rw [if_pos (by rfl)]
      go_simp
      (with_reducible refine (KBA _).mono ?_)
      rintro e wr13 ⟨rfl, hd⟩
      have hd' : Below wr12.heap.size wr12 wr13 := ⟨hd.os, hd.tape, hd.output, hd.size, hd.block⟩
      have Xr13 := Lib.hid (Xr12.out.below hd')
      have Br13 := Lib.hid (Br12.out.trans (hd'.mono Br12.out.size))
      have Pr13 := Xr13.out.cells
      refine hK.out _ _ Pr13 (fun _ => ?_)
      clear hK K hd hd' Pr12
      refine GoX.take 11 rfl (by kernel_rfl) (by kernel_rfl) (by rfl) (fun _ _ _ h => h) (v := ?tv11r1) Pr13 ?ty11r1 ?tr11r1
      case ty11r1 => (intro w hSw; (try dsimp only at hSw); go_simp; first | done | with_reducible rfl)
      simp only [Act.put, List.setIfInBounds_toArray, List.set_cons_zero, List.set_cons_succ]
      refine GoX.take 15 rfl (by kernel_rfl) (by kernel_rfl) (by rfl) (fun _ _ _ h => h) (v := ?tv15r1) Pr13 ?ty15r1 ?tr15r1
      case ty15r1 => (intro w hSw; (try dsimp only at hSw); go_simp; first | done | with_reducible rfl)
      simp only [Act.put, List.setIfInBounds_toArray, List.set_cons_zero, List.set_cons_succ]
      refine GoX.take 16 rfl (by kernel_rfl) (by kernel_rfl) (by rfl) (fun _ _ _ h => h) (v := ?tv16r1) Pr13 ?ty16r1 ?tr16r1
      case ty16r1 => (intro w hSw; (try dsimp only at hSw); go_simp; first | done | with_reducible rfl)
      simp only [Act.put, List.setIfInBounds_toArray, List.set_cons_zero, List.set_cons_succ]
      refine GoX.take 17 rfl (by kernel_rfl) (by kernel_rfl) (by rfl) (fun _ _ _ h => h) (v := ?tv17r1) Pr13 ?ty17r1 ?tr17r1
      case ty17r1 => (intro w hSw; (try dsimp only at hSw); go_simp; first | done | with_reducible rfl)
      simp only [Act.put, List.setIfInBounds_toArray, List.set_cons_zero, List.set_cons_succ]
      refine GoX.take 18 rfl (by kernel_rfl) (by kernel_rfl) (by rfl) (fun _ _ _ h => h) (v := ?tv18r1) Pr13 ?ty18r1 ?tr18r1
      case ty18r1 => (intro w hSw; (try dsimp only at hSw); go_simp; first | done | with_reducible rfl)
      simp only [Act.put, List.setIfInBounds_toArray, List.set_cons_zero, List.set_cons_succ]
      refine GoX.take 19 rfl (by kernel_rfl) (by kernel_rfl) (by rfl) (fun _ _ _ h => h) (v := ?tv19r1) Pr13 ?ty19r1 ?tr19r1
      case ty19r1 => (intro w hSw; (try dsimp only at hSw); go_simp; first | done | with_reducible rfl)
      simp only [Act.put, List.setIfInBounds_toArray, List.set_cons_zero, List.set_cons_succ]
      refine GoX.one 20 rfl (by kernel_rfl) (by decide) (fun K hK => ?_)
      rw [if_pos (by rfl)]
      go_simp
      (with_reducible refine (KAB _).mono ?_)
      rintro e wr14 ⟨rfl, hd⟩
      have hd' : Below wr13.heap.size wr13 wr14 := ⟨hd.os, hd.tape, hd.output, hd.size, hd.block⟩
      have Xr14 := Lib.hid (Xr13.out.below hd')
      have Br14 := Lib.hid (Br13.out.trans (hd'.mono Br13.out.size))
      have Pr14 := Xr14.out.cells
      refine hK.out _ _ Pr14 (fun _ => ?_)
      clear hK K hd hd' Pr13
      refine GoX.take 21 rfl (by kernel_rfl) (by kernel_rfl) (by rfl) (fun _ _ _ h => h) (v := ?tv21r1) Pr14 ?ty21r1 ?tr21r1
      case ty21r1 => (intro w hSw; (try dsimp only at hSw); go_simp; first | done | with_reducible rfl)
      simp only [Act.put, List.setIfInBounds_toArray, List.set_cons_zero, List.set_cons_succ]
      refine GoX.skip 22 rfl (by kernel_rfl) (by kernel_rfl) (by rfl) (fun _ _ _ h => h) Pr14 ?_
      simp only [Act.put, List.setIfInBounds_toArray, List.set_cons_zero, List.set_cons_succ]
      refine GoX.skip 23 rfl (by kernel_rfl) (by kernel_rfl) (by rfl) (fun _ _ _ h => h) Pr14 ?_
      simp only [Act.put, List.setIfInBounds_toArray, List.set_cons_zero, List.set_cons_succ]
      refine GoX.skip 24 rfl (by kernel_rfl) (by kernel_rfl) (by rfl) (fun _ _ _ h => h) Pr14 ?_
      simp only [Act.put, List.setIfInBounds_toArray, List.set_cons_zero, List.set_cons_succ]
      refine GoX.take 25 rfl (by kernel_rfl) (by kernel_rfl) (by rfl) (fun _ _ _ h => h) (v := ?tv25r1) Pr14 ?ty25r1 ?tr25r1
      case ty25r1 => (intro w hSw; (try dsimp only at hSw); go_simp; first | done | with_reducible rfl)
      simp only [Act.put, List.setIfInBounds_toArray, List.set_cons_zero, List.set_cons_succ]
      refine GoX.last 26 rfl (by kernel_rfl) (by kernel_rfl) (by decide) ?_
      rw [if_pos (by rfl)]
      go_simp
      go_wp2_with fail
      have XE := Xr14
      have BE := Br14
      go_meet
      exact ⟨rfl, XE, BE⟩
    · have hneq := HKNE.out a0 a1 b0 b1 hab
      rcases lt_or hab with h1 | h1
      · have KAB := HKT.out a0 a1 b0 b1 h1
        have KBA := HKF.out b0 b1 a0 a1 (lt_asymm h1)
        clear hab h1
        have P0r2 := (HX2.out.below (show Below w2.heap.size w2 w2.drew from ⟨rfl, rfl, rfl, Nat.le_refl _, fun _ _ => rfl⟩)).cells
        refine GoX.start 26 (fun w' => w'.cell? ⟨g, 0, none⟩ = some (.int .i64 a0) ∧ w'.cell? ⟨g, 1, none⟩ = some (.int .i64 a1) ∧ w'.cell? ⟨g + 1, 0, none⟩ = some (.int .i64 b0) ∧ w'.cell? ⟨g + 1, 1, none⟩ = some (.int .i64 b1) ∧ w'.cell? ⟨g + 2, 0, none⟩ = some (.int .i64 c0) ∧ w'.cell? ⟨g + 2, 1, none⟩ = some (.int .i64 c1)) (by kernel_rfl) ?_
        refine GoX.take 0 rfl (by kernel_rfl) (by kernel_rfl) (by rfl) (fun _ _ _ h => h) (v := ?tv0r2) P0r2 ?ty0r2 ?tr0r2
        case ty0r2 => (intro w hSw; (try dsimp only at hSw); go_simp; first | done | with_reducible rfl)
        simp only [Act.put, List.setIfInBounds_toArray, List.set_cons_zero, List.set_cons_succ]
        refine GoX.take 1 rfl (by kernel_rfl) (by kernel_rfl) (by rfl) (fun _ _ _ h => h) (v := ?tv1r2) P0r2 ?ty1r2 ?tr1r2
        case ty1r2 => (intro w hSw; (try dsimp only at hSw); go_simp; first | done | with_reducible rfl)
        simp only [Act.put, List.setIfInBounds_toArray, List.set_cons_zero, List.set_cons_succ]
        refine GoX.one 2 rfl (by kernel_rfl) (by decide) (fun K hK => ?_)
        rw [if_pos (by rfl)]
        go_simp
        (with_reducible refine (KAA _).mono ?_)
        rintro e wr21 ⟨rfl, hd⟩
        have hd' : Below w2.heap.size w2 wr21 := ⟨hd.os, hd.tape, hd.output, hd.size, hd.block⟩
        have Xr21 := Lib.hid (HX2.out.below hd')
        have Br21 := Lib.hid (HB2.out.trans (hd'.mono HB2.out.size))
        have Pr21 := Xr21.out.cells
        refine hK.out _ _ Pr21 (fun _ => ?_)
        clear hK K hd hd' P0r2
        refine GoX.take 3 rfl (by kernel_rfl) (by kernel_rfl) (by rfl) (fun _ _ _ h => h) (v := ?tv3r2) Pr21 ?ty3r2 ?tr3r2
        case ty3r2 => (intro w hSw; (try dsimp only at hSw); go_simp; first | done | with_reducible rfl)
        simp only [Act.put, List.setIfInBounds_toArray, List.set_cons_zero, List.set_cons_succ]
        refine GoX.take 4 rfl (by kernel_rfl) (by kernel_rfl) (by rfl) (fun _ _ _ h => h) (v := ?tv4r2) Pr21 ?ty4r2 ?tr4r2
        case ty4r2 => (intro w hSw; (try dsimp only at hSw); go_simp; first | done | with_reducible rfl)
        simp only [Act.put, List.setIfInBounds_toArray, List.set_cons_zero, List.set_cons_succ]
        refine GoX.take 5 rfl (by kernel_rfl) (by kernel_rfl) (by rfl) (fun _ _ _ h => h) (v := ?tv5r2) Pr21 ?ty5r2 ?tr5r2
        case ty5r2 => (intro w hSw; (try dsimp only at hSw); go_simp; first | done | with_reducible rfl)
        simp only [Act.put, List.setIfInBounds_toArray, List.set_cons_zero, List.set_cons_succ]
        refine GoX.take 12 rfl (by kernel_rfl) (by kernel_rfl) (by rfl) (fun _ _ _ h => h) (v := ?tv12r2) Pr21 ?ty12r2 ?tr12r2
        case ty12r2 => (intro w hSw; (try dsimp only at hSw); go_simp; first | done | with_reducible rfl)
        simp only [Act.put, List.setIfInBounds_toArray, List.set_cons_zero, List.set_cons_succ]
        refine GoX.take 13 rfl (by kernel_rfl) (by kernel_rfl) (by rfl) (fun _ _ _ h => h) (v := ?tv13r2) Pr21 ?ty13r2 ?tr13r2
        case ty13r2 => (intro w hSw; (try dsimp only at hSw); go_simp; first | done | with_reducible rfl)
        simp only [Act.put, List.setIfInBounds_toArray, List.set_cons_zero, List.set_cons_succ]
        refine GoX.take 14 rfl (by kernel_rfl) (by kernel_rfl) (by rfl) (fun _ _ _ h => h) (v := ?tv14r2) Pr21 ?ty14r2 ?tr14r2
        case ty14r2 => (intro w hSw; (try dsimp only at hSw); go_simp; first | done | with_reducible rfl)
        simp only [Act.put, List.setIfInBounds_toArray, List.set_cons_zero, List.set_cons_succ]
        refine GoX.one 6 rfl (by kernel_rfl) (by decide) (fun K hK => ?_)
        rw [if_pos (by rfl)]
        go_simp
        (with_reducible refine (KAB _).mono ?_)
        rintro e wr22 ⟨rfl, hd⟩
        have hd' : Below wr21.heap.size wr21 wr22 := ⟨hd.os, hd.tape, hd.output, hd.size, hd.block⟩
        have Xr22 := Lib.hid (Xr21.out.below hd')
        have Br22 := Lib.hid (Br21.out.trans (hd'.mono Br21.out.size))
        have Pr22 := Xr22.out.cells
        refine hK.out _ _ Pr22 (fun _ => ?_)
        clear hK K hd hd' Pr21
        refine GoX.take 7 rfl (by kernel_rfl) (by kernel_rfl) (by rfl) (fun _ _ _ h => h) (v := ?tv7r2) Pr22 ?ty7r2 ?tr7r2
        case ty7r2 => (intro w hSw; (try dsimp only at hSw); go_simp; first | done | with_reducible rfl)
        simp only [Act.put, List.setIfInBounds_toArray, List.set_cons_zero, List.set_cons_succ]
        refine GoX.skip 8 rfl (by kernel_rfl) (by kernel_rfl) (by rfl) (fun _ _ _ h => h) Pr22 ?_
        simp only [Act.put, List.setIfInBounds_toArray, List.set_cons_zero, List.set_cons_succ]
        refine GoX.skip 9 rfl (by kernel_rfl) (by kernel_rfl) (by rfl) (fun _ _ _ h => h) Pr22 ?_
        simp only [Act.put, List.setIfInBounds_toArray, List.set_cons_zero, List.set_cons_succ]
        refine GoX.skip 10 rfl (by kernel_rfl) (by kernel_rfl) (by rfl) (fun _ _ _ h => h) Pr22 ?_
        simp only [Act.put, List.setIfInBounds_toArray, List.set_cons_zero, List.set_cons_succ]
        refine GoX.take 11 rfl (by kernel_rfl) (by kernel_rfl) (by rfl) (fun _ _ _ h => h) (v := ?tv11r2) Pr22 ?ty11r2 ?tr11r2
        case ty11r2 => (intro w hSw; (try dsimp only at hSw); go_simp; first | done | with_reducible rfl)
        simp only [Act.put, List.setIfInBounds_toArray, List.set_cons_zero, List.set_cons_succ]
        refine GoX.take 15 rfl (by kernel_rfl) (by kernel_rfl) (by rfl) (fun _ _ _ h => h) (v := ?tv15r2) Pr22 ?ty15r2 ?tr15r2
        case ty15r2 => (intro w hSw; (try dsimp only at hSw); go_simp; first | done | with_reducible rfl)
        simp only [Act.put, List.setIfInBounds_toArray, List.set_cons_zero, List.set_cons_succ]
        refine GoX.take 16 rfl (by kernel_rfl) (by kernel_rfl) (by rfl) (fun _ _ _ h => h) (v := ?tv16r2) Pr22 ?ty16r2 ?tr16r2
        case ty16r2 => (intro w hSw; (try dsimp only at hSw); go_simp; first | done | with_reducible rfl)
        simp only [Act.put, List.setIfInBounds_toArray, List.set_cons_zero, List.set_cons_succ]
        refine GoX.take 17 rfl (by kernel_rfl) (by kernel_rfl) (by rfl) (fun _ _ _ h => h) (v := ?tv17r2) Pr22 ?ty17r2 ?tr17r2
        case ty17r2 => (intro w hSw; (try dsimp only at hSw); go_simp; first | done | with_reducible rfl)
        simp only [Act.put, List.setIfInBounds_toArray, List.set_cons_zero, List.set_cons_succ]
        refine GoX.take 18 rfl (by kernel_rfl) (by kernel_rfl) (by rfl) (fun _ _ _ h => h) (v := ?tv18r2) Pr22 ?ty18r2 ?tr18r2
        case ty18r2 => (intro w hSw; (try dsimp only at hSw); go_simp; first | done | with_reducible rfl)
        simp only [Act.put, List.setIfInBounds_toArray, List.set_cons_zero, List.set_cons_succ]
        refine GoX.take 19 rfl (by kernel_rfl) (by kernel_rfl) (by rfl) (fun _ _ _ h => h) (v := ?tv19r2) Pr22 ?ty19r2 ?tr19r2
        case ty19r2 => (intro w hSw; (try dsimp only at hSw); go_simp; first | done | with_reducible rfl)
        simp only [Act.put, List.setIfInBounds_toArray, List.set_cons_zero, List.set_cons_succ]
        refine GoX.one 20 rfl (by kernel_rfl) (by decide) (fun K hK => ?_)
        rw [if_pos (by rfl)]
        go_simp
        (with_reducible refine (KAB _).mono ?_)
        rintro e wr23 ⟨rfl, hd⟩
        have hd' : Below wr22.heap.size wr22 wr23 := ⟨hd.os, hd.tape, hd.output, hd.size, hd.block⟩
        have Xr23 := Lib.hid (Xr22.out.below hd')
        have Br23 := Lib.hid (Br22.out.trans (hd'.mono Br22.out.size))
        have Pr23 := Xr23.out.cells
        refine hK.out _ _ Pr23 (fun _ => ?_)
        clear hK K hd hd' Pr22
        refine GoX.take 21 rfl (by kernel_rfl) (by kernel_rfl) (by rfl) (fun _ _ _ h => h) (v := ?tv21r2) Pr23 ?ty21r2 ?tr21r2
        case ty21r2 => (intro w hSw; (try dsimp only at hSw); go_simp; first | done | with_reducible rfl)
        simp only [Act.put, List.setIfInBounds_toArray, List.set_cons_zero, List.set_cons_succ]
        refine GoX.take 22 rfl (by kernel_rfl) (by kernel_rfl) (by rfl) (fun _ _ _ h => h) (v := ?tv22r2) Pr23 ?ty22r2 ?tr22r2
        case ty22r2 => (intro w hSw; (try dsimp only at hSw); go_simp; first | done | with_reducible rfl)
        simp only [Act.put, List.setIfInBounds_toArray, List.set_cons_zero, List.set_cons_succ]
        refine GoX.take 23 rfl (by kernel_rfl) (by kernel_rfl) (by rfl) (fun _ _ _ h => h) (v := ?tv23r2) Pr23 ?ty23r2 ?tr23r2
        case ty23r2 => (intro w hSw; (try dsimp only at hSw); go_simp; first | done | with_reducible rfl)
        simp only [Act.put, List.setIfInBounds_toArray, List.set_cons_zero, List.set_cons_succ]
        refine GoX.one 24 rfl (by kernel_rfl) (by decide) (fun K hK => ?_)
        rw [if_pos (by rfl)]
        go_simp
        (with_reducible refine (KBA _).mono ?_)
        rintro e wr24 ⟨rfl, hd⟩
        have hd' : Below wr23.heap.size wr23 wr24 := ⟨hd.os, hd.tape, hd.output, hd.size, hd.block⟩
        have Xr24 := Lib.hid (Xr23.out.below hd')
        have Br24 := Lib.hid (Br23.out.trans (hd'.mono Br23.out.size))
        have Pr24 := Xr24.out.cells
        refine hK.out _ _ Pr24 (fun _ => ?_)
        clear hK K hd hd' Pr23
        refine GoX.take 25 rfl (by kernel_rfl) (by kernel_rfl) (by rfl) (fun _ _ _ h => h) (v := ?tv25r2) Pr24 ?ty25r2 ?tr25r2
        case ty25r2 => (intro w hSw; (try dsimp only at hSw); go_simp; first | done | with_reducible rfl)
        simp only [Act.put, List.setIfInBounds_toArray, List.set_cons_zero, List.set_cons_succ]
        refine GoX.last 26 rfl (by kernel_rfl) (by kernel_rfl) (by decide) ?_
        rw [if_pos (by rfl)]
        go_simp
        go_wp2_with fail
        have XE := Xr24
        have BE := Br24
        go_meet
        exact ⟨rfl, XE, BE⟩
      · have KAB := HKF.out a0 a1 b0 b1 (lt_asymm h1)
        have KBA := HKT.out b0 b1 a0 a1 h1
        clear hab h1
        have P0r3 := (HX2.out.below (show Below w2.heap.size w2 w2.drew from ⟨rfl, rfl, rfl, Nat.le_refl _, fun _ _ => rfl⟩)).cells
        refine GoX.start 26 (fun w' => w'.cell? ⟨g, 0, none⟩ = some (.int .i64 a0) ∧ w'.cell? ⟨g, 1, none⟩ = some (.int .i64 a1) ∧ w'.cell? ⟨g + 1, 0, none⟩ = some (.int .i64 b0) ∧ w'.cell? ⟨g + 1, 1, none⟩ = some (.int .i64 b1) ∧ w'.cell? ⟨g + 2, 0, none⟩ = some (.int .i64 c0) ∧ w'.cell? ⟨g + 2, 1, none⟩ = some (.int .i64 c1)) (by kernel_rfl) ?_
        refine GoX.take 0 rfl (by kernel_rfl) (by kernel_rfl) (by rfl) (fun _ _ _ h => h) (v := ?tv0r3) P0r3 ?ty0r3 ?tr0r3
        case ty0r3 => (intro w hSw; (try dsimp only at hSw); go_simp; first | done | with_reducible rfl)
        simp only [Act.put, List.setIfInBounds_toArray, List.set_cons_zero, List.set_cons_succ]
        refine GoX.take 1 rfl (by kernel_rfl) (by kernel_rfl) (by rfl) (fun _ _ _ h => h) (v := ?tv1r3) P0r3 ?ty1r3 ?tr1r3
        case ty1r3 => (intro w hSw; (try dsimp only at hSw); go_simp; first | done | with_reducible rfl)
        simp only [Act.put, List.setIfInBounds_toArray, List.set_cons_zero, List.set_cons_succ]
        refine GoX.one 2 rfl (by kernel_rfl) (by decide) (fun K hK => ?_)
        rw [if_pos (by rfl)]
        go_simp
        (with_reducible refine (KAA _).mono ?_)
        rintro e wr31 ⟨rfl, hd⟩
        have hd' : Below w2.heap.size w2 wr31 := ⟨hd.os, hd.tape, hd.output, hd.size, hd.block⟩
        have Xr31 := Lib.hid (HX2.out.below hd')
        have Br31 := Lib.hid (HB2.out.trans (hd'.mono HB2.out.size))
        have Pr31 := Xr31.out.cells
        refine hK.out _ _ Pr31 (fun _ => ?_)
        clear hK K hd hd' P0r3
        refine GoX.take 3 rfl (by kernel_rfl) (by kernel_rfl) (by rfl) (fun _ _ _ h => h) (v := ?tv3r3) Pr31 ?ty3r3 ?tr3r3
        case ty3r3 => (intro w hSw; (try dsimp only at hSw); go_simp; first | done | with_reducible rfl)
        simp only [Act.put, List.setIfInBounds_toArray, List.set_cons_zero, List.set_cons_succ]
        refine GoX.take 4 rfl (by kernel_rfl) (by kernel_rfl) (by rfl) (fun _ _ _ h => h) (v := ?tv4r3) Pr31 ?ty4r3 ?tr4r3
        case ty4r3 => (intro w hSw; (try dsimp only at hSw); go_simp; first | done | with_reducible rfl)
        simp only [Act.put, List.setIfInBounds_toArray, List.set_cons_zero, List.set_cons_succ]
        refine GoX.take 5 rfl (by kernel_rfl) (by kernel_rfl) (by rfl) (fun _ _ _ h => h) (v := ?tv5r3) Pr31 ?ty5r3 ?tr5r3
        case ty5r3 => (intro w hSw; (try dsimp only at hSw); go_simp; first | done | with_reducible rfl)
        simp only [Act.put, List.setIfInBounds_toArray, List.set_cons_zero, List.set_cons_succ]
        refine GoX.take 12 rfl (by kernel_rfl) (by kernel_rfl) (by rfl) (fun _ _ _ h => h) (v := ?tv12r3) Pr31 ?ty12r3 ?tr12r3
        case ty12r3 => (intro w hSw; (try dsimp only at hSw); go_simp; first | done | with_reducible rfl)
        simp only [Act.put, List.setIfInBounds_toArray, List.set_cons_zero, List.set_cons_succ]
        refine GoX.take 13 rfl (by kernel_rfl) (by kernel_rfl) (by rfl) (fun _ _ _ h => h) (v := ?tv13r3) Pr31 ?ty13r3 ?tr13r3
        case ty13r3 => (intro w hSw; (try dsimp only at hSw); go_simp; first | done | with_reducible rfl)
        simp only [Act.put, List.setIfInBounds_toArray, List.set_cons_zero, List.set_cons_succ]
        refine GoX.take 14 rfl (by kernel_rfl) (by kernel_rfl) (by rfl) (fun _ _ _ h => h) (v := ?tv14r3) Pr31 ?ty14r3 ?tr14r3
        case ty14r3 => (intro w hSw; (try dsimp only at hSw); go_simp; first | done | with_reducible rfl)
        simp only [Act.put, List.setIfInBounds_toArray, List.set_cons_zero, List.set_cons_succ]
        refine GoX.one 6 rfl (by kernel_rfl) (by decide) (fun K hK => ?_)
        rw [if_pos (by rfl)]
        go_simp
        (with_reducible refine (KAB _).mono ?_)
        rintro e wr32 ⟨rfl, hd⟩
        have hd' : Below wr31.heap.size wr31 wr32 := ⟨hd.os, hd.tape, hd.output, hd.size, hd.block⟩
        have Xr32 := Lib.hid (Xr31.out.below hd')
        have Br32 := Lib.hid (Br31.out.trans (hd'.mono Br31.out.size))
        have Pr32 := Xr32.out.cells
        refine hK.out _ _ Pr32 (fun _ => ?_)
        clear hK K hd hd' Pr31
        refine GoX.take 7 rfl (by kernel_rfl) (by kernel_rfl) (by rfl) (fun _ _ _ h => h) (v := ?tv7r3) Pr32 ?ty7r3 ?tr7r3
        case ty7r3 => (intro w hSw; (try dsimp only at hSw); go_simp; first | done | with_reducible rfl)
        simp only [Act.put, List.setIfInBounds_toArray, List.set_cons_zero, List.set_cons_succ]
        refine GoX.take 8 rfl (by kernel_rfl) (by kernel_rfl) (by rfl) (fun _ _ _ h => h) (v := ?tv8r3) Pr32 ?ty8r3 ?tr8r3
        case ty8r3 => (intro w hSw; (try dsimp only at hSw); go_simp; first | done | with_reducible rfl)
        simp only [Act.put, List.setIfInBounds_toArray, List.set_cons_zero, List.set_cons_succ]
        refine GoX.take 9 rfl (by kernel_rfl) (by kernel_rfl) (by rfl) (fun _ _ _ h => h) (v := ?tv9r3) Pr32 ?ty9r3 ?tr9r3
        case ty9r3 => (intro w hSw; (try dsimp only at hSw); go_simp; first | done | with_reducible rfl)
        simp only [Act.put, List.setIfInBounds_toArray, List.set_cons_zero, List.set_cons_succ]
        refine GoX.one 10 rfl (by kernel_rfl) (by decide) (fun K hK => ?_)
        rw [if_pos (by rfl)]
        go_simp
        (with_reducible refine (KBA _).mono ?_)
        rintro e wr33 ⟨rfl, hd⟩
        have hd' : Below wr32.heap.size wr32 wr33 := ⟨hd.os, hd.tape, hd.output, hd.size, hd.block⟩
        have Xr33 := Lib.hid (Xr32.out.below hd')
        have Br33 := Lib.hid (Br32.out.trans (hd'.mono Br32.out.size))
        have Pr33 := Xr33.out.cells
        refine hK.out _ _ Pr33 (fun _ => ?_)
        clear hK K hd hd' Pr32
        refine GoX.take 11 rfl (by kernel_rfl) (by kernel_rfl) (by rfl) (fun _ _ _ h => h) (v := ?tv11r3) Pr33 ?ty11r3 ?tr11r3
        case ty11r3 => (intro w hSw; (try dsimp only at hSw); go_simp; first | done | with_reducible rfl)
        simp only [Act.put, List.setIfInBounds_toArray, List.set_cons_zero, List.set_cons_succ]
        refine GoX.take 15 rfl (by kernel_rfl) (by kernel_rfl) (by rfl) (fun _ _ _ h => h) (v := ?tv15r3) Pr33 ?ty15r3 ?tr15r3
        case ty15r3 => (intro w hSw; (try dsimp only at hSw); go_simp; first | done | with_reducible rfl)
        simp only [Act.put, List.setIfInBounds_toArray, List.set_cons_zero, List.set_cons_succ]
        refine GoX.take 16 rfl (by kernel_rfl) (by kernel_rfl) (by rfl) (fun _ _ _ h => h) (v := ?tv16r3) Pr33 ?ty16r3 ?tr16r3
        case ty16r3 => (intro w hSw; (try dsimp only at hSw); go_simp; first | done | with_reducible rfl)
        simp only [Act.put, List.setIfInBounds_toArray, List.set_cons_zero, List.set_cons_succ]
        refine GoX.take 17 rfl (by kernel_rfl) (by kernel_rfl) (by rfl) (fun _ _ _ h => h) (v := ?tv17r3) Pr33 ?ty17r3 ?tr17r3
        case ty17r3 => (intro w hSw; (try dsimp only at hSw); go_simp; first | done | with_reducible rfl)
        simp only [Act.put, List.setIfInBounds_toArray, List.set_cons_zero, List.set_cons_succ]
        refine GoX.take 18 rfl (by kernel_rfl) (by kernel_rfl) (by rfl) (fun _ _ _ h => h) (v := ?tv18r3) Pr33 ?ty18r3 ?tr18r3
        case ty18r3 => (intro w hSw; (try dsimp only at hSw); go_simp; first | done | with_reducible rfl)
        simp only [Act.put, List.setIfInBounds_toArray, List.set_cons_zero, List.set_cons_succ]
        refine GoX.take 19 rfl (by kernel_rfl) (by kernel_rfl) (by rfl) (fun _ _ _ h => h) (v := ?tv19r3) Pr33 ?ty19r3 ?tr19r3
        case ty19r3 => (intro w hSw; (try dsimp only at hSw); go_simp; first | done | with_reducible rfl)
        simp only [Act.put, List.setIfInBounds_toArray, List.set_cons_zero, List.set_cons_succ]
        refine GoX.one 20 rfl (by kernel_rfl) (by decide) (fun K hK => ?_)
        rw [if_pos (by rfl)]
        go_simp
        (with_reducible refine (KAB _).mono ?_)
        rintro e wr34 ⟨rfl, hd⟩
        have hd' : Below wr33.heap.size wr33 wr34 := ⟨hd.os, hd.tape, hd.output, hd.size, hd.block⟩
        have Xr34 := Lib.hid (Xr33.out.below hd')
        have Br34 := Lib.hid (Br33.out.trans (hd'.mono Br33.out.size))
        have Pr34 := Xr34.out.cells
        refine hK.out _ _ Pr34 (fun _ => ?_)
        clear hK K hd hd' Pr33
        refine GoX.take 21 rfl (by kernel_rfl) (by kernel_rfl) (by rfl) (fun _ _ _ h => h) (v := ?tv21r3) Pr34 ?ty21r3 ?tr21r3
        case ty21r3 => (intro w hSw; (try dsimp only at hSw); go_simp; first | done | with_reducible rfl)
        simp only [Act.put, List.setIfInBounds_toArray, List.set_cons_zero, List.set_cons_succ]
        refine GoX.skip 22 rfl (by kernel_rfl) (by kernel_rfl) (by rfl) (fun _ _ _ h => h) Pr34 ?_
        simp only [Act.put, List.setIfInBounds_toArray, List.set_cons_zero, List.set_cons_succ]
        refine GoX.skip 23 rfl (by kernel_rfl) (by kernel_rfl) (by rfl) (fun _ _ _ h => h) Pr34 ?_
        simp only [Act.put, List.setIfInBounds_toArray, List.set_cons_zero, List.set_cons_succ]
        refine GoX.skip 24 rfl (by kernel_rfl) (by kernel_rfl) (by rfl) (fun _ _ _ h => h) Pr34 ?_
        simp only [Act.put, List.setIfInBounds_toArray, List.set_cons_zero, List.set_cons_succ]
        refine GoX.take 25 rfl (by kernel_rfl) (by kernel_rfl) (by rfl) (fun _ _ _ h => h) (v := ?tv25r3) Pr34 ?ty25r3 ?tr25r3
        case ty25r3 => (intro w hSw; (try dsimp only at hSw); go_simp; first | done | with_reducible rfl)
        simp only [Act.put, List.setIfInBounds_toArray, List.set_cons_zero, List.set_cons_succ]
        refine GoX.last 26 rfl (by kernel_rfl) (by kernel_rfl) (by decide) ?_
        rw [if_pos (by rfl)]
        go_simp
        go_wp2_with fail
        have XE := Xr34
        have BE := Br34
        go_meet
        exact ⟨rfl, XE, BE⟩
  case rest =>
    rename World => w3
    obtain ⟨rfl, HX3, HB3⟩ := hcut
    go_upto_region 5 with fail
    go_cut [52] (fun v wx => v = .bool false ∧ Hid (Box3 wx g a0 a1 b0 b1 c0 c1) ∧ Hid (Below w.heap.size w wx))
    case first =>
      have Y0 := HX3
      have Z0 := HB3
      obtain ⟨p0, p1, p2, p3, p4, p5⟩ := Y0.out.cells
      by_cases hab : lt (a0, a1) (b0, b1)
      · have KAB := HKT.out a0 a1 b0 b1 hab
        by_cases hbc : lt (b0, b1) (c0, c1)
        · have KBC := HKT.out b0 b1 c0 c1 hbc
          have KAC := HKT.out a0 a1 c0 c1 (lt_trans hab hbc)
          clear hab hbc
          go_wp2_with fail
          (with_reducible refine (KAB _).mono ?_)
          rintro e w4 ⟨rfl, hd⟩
          have Y1 := Lib.hid (Y0.out.below hd)
          have Z1 := Lib.hid (Z0.out.trans (hd.mono Z0.out.size))
          obtain ⟨p0, p1, p2, p3, p4, p5⟩ := Y1.out.cells
          clear hd
          go_wp2_with fail
          (with_reducible refine (KBC _).mono ?_)
          rintro e w5 ⟨rfl, hd⟩
          have Y2 := Lib.hid (Y1.out.below hd)
          have Z2 := Lib.hid (Z1.out.trans (hd.mono Z1.out.size))
          obtain ⟨p0, p1, p2, p3, p4, p5⟩ := Y2.out.cells
          clear hd
          go_wp2_with fail
          (with_reducible refine (KAC _).mono ?_)
          rintro e w6 ⟨rfl, hd⟩
          have Y3 := Lib.hid (Y2.out.below hd)
          have Z3 := Lib.hid (Z2.out.trans (hd.mono Z2.out.size))
          obtain ⟨p0, p1, p2, p3, p4, p5⟩ := Y3.out.cells
          clear hd
          go_wp2_with fail
          go_meet
          exact ⟨rfl, Y3, Z3⟩
        · have KBC := HKF.out b0 b1 c0 c1 hbc
          clear hab hbc
          go_wp2_with fail
          (with_reducible refine (KAB _).mono ?_)
          rintro e w4 ⟨rfl, hd⟩
          have Y1 := Lib.hid (Y0.out.below hd)
          have Z1 := Lib.hid (Z0.out.trans (hd.mono Z0.out.size))
          obtain ⟨p0, p1, p2, p3, p4, p5⟩ := Y1.out.cells
          clear hd
          go_wp2_with fail
          (with_reducible refine (KBC _).mono ?_)
          rintro e w5 ⟨rfl, hd⟩
          have Y2 := Lib.hid (Y1.out.below hd)
          have Z2 := Lib.hid (Z1.out.trans (hd.mono Z1.out.size))
          obtain ⟨p0, p1, p2, p3, p4, p5⟩ := Y2.out.cells
          clear hd
          go_wp2_with fail
          go_meet
          exact ⟨rfl, Y2, Z2⟩
      · have KAB := HKF.out a0 a1 b0 b1 hab
        clear hab
        go_wp2_with fail
        (with_reducible refine (KAB _).mono ?_)
        rintro e w4 ⟨rfl, hd⟩
        have Y1 := Lib.hid (Y0.out.below hd)
        have Z1 := Lib.hid (Z0.out.trans (hd.mono Z0.out.size))
        obtain ⟨p0, p1, p2, p3, p4, p5⟩ := Y1.out.cells
        clear hd
        go_wp2_with fail
        go_meet
        exact ⟨rfl, Y1, Z1⟩
    case rest =>
      rename World => w4
      obtain ⟨rfl, HX4, HB4⟩ := hcut
      clear HX3 HB3
      obtain ⟨p0, p1, p2, p3, p4, p5⟩ := HX4.out.cells
      obtain ⟨L, hL⟩ : ∃ L : Nat → Int × Int, L = fun i => if i = 0 then (a0, a1) else if i = 1 then (b0, b1) else (c0, c1) := ⟨_, rfl⟩
      have hthree := latest_three (a0, a1) (b0, b1) (c0, c1) L (by rw [hL]; rfl) (by rw [hL]; rfl) (by rw [hL]; rfl)
      have KL := fun w' (h : TagsV w' (some ⟨w4.heap.size, 0, none⟩) 3 3 L) => later_any (some ⟨w4.heap.size, 0, none⟩) 3 3 L w' h
      have HLL := Lib.hid hL
      obtain ⟨l, hl⟩ : ∃ l, l = latest L 3 := ⟨_, rfl⟩
      rw [← hl] at hthree KL
      obtain ⟨l0, l1⟩ := l
      simp only at KL
      have HKL := Lib.hid KL
      have HTH := Lib.hid hthree
      clear hL hl hthree KL
      go_wp2_with fail
      (with_reducible refine (HKL.out _ ?hT).mono ?_)
      case hT =>
        have hh := heap_alloc_new w4 (.cells #[.int .i64 a0, .int .i64 a1, .int .i64 b0, .int .i64 b1, .int .i64 c0, .int .i64 c1] 25)
        exact ⟨by simp [maxLen], Nat.le_refl _, by simp [maxLen], fun _ => ⟨w4.heap.size, 0, rfl, by simp, fun i hi => by
          rw [HLL.out]
          rcases (by omega : i = 0 ∨ i = 1 ∨ i = 2) with rfl | rfl | rfl
          · exact ⟨cell_of_row _ _ 0 _ _ _ hh, cell_of_row _ _ 1 _ _ _ hh⟩
          · exact ⟨cell_of_row _ _ 2 _ _ _ hh, cell_of_row _ _ 3 _ _ _ hh⟩
          · exact ⟨cell_of_row _ _ 4 _ _ _ hh, cell_of_row _ _ 5 _ _ _ hh⟩⟩⟩
      rintro e w5 ⟨rfl, hd⟩
      have bA := below_alloc w4 (.cells #[.int .i64 a0, .int .i64 a1, .int .i64 b0, .int .i64 b1, .int .i64 c0, .int .i64 c1] 25)
      have HX5 := Lib.hid ((HX4.out.below bA).below hd)
      have HB5 := Lib.hid ((HB4.out.trans (bA.mono HB4.out.size)).trans (hd.mono (Nat.le_trans HB4.out.size bA.size)))
      clear hd bA p0 p1 p2 p3 p4 p5
      go_upto_region 8 with fail
      obtain ⟨q, hq⟩ : ∃ q, q = w5.heap.size := ⟨_, rfl⟩
      have hx6 := HX5.out.below (below_alloc w5 (.cells #[.int .i64 l0, .int .i64 l1] 25))
      have hb6 := HB5.out.alloc HB5.out.size (.cells #[.int .i64 l0, .int .i64 l1] 25)
      have hl6 := heap_alloc_new w5 (.cells #[.int .i64 l0, .int .i64 l1] 25)
      rw [← hq] at hl6 ⊢
      obtain ⟨w6, hw6⟩ : ∃ x, x = w5.alloc (.cells #[.int .i64 l0, .int .i64 l1] 25) := ⟨_, rfl⟩
      rw [← hw6] at hx6 hb6 hl6 ⊢
      have Y0 := Lib.hid hx6
      have Z0 := Lib.hid hb6
      have HL6 := Lib.hid hl6
      have HQU := Lib.hid (show ∀ w', Below w6.heap.size w6 w' → w'.cell? ⟨q, 0, none⟩ = some (.int .i64 l0) ∧ w'.cell? ⟨q, 1, none⟩ = some (.int .i64 l1) from fun w' hb => by
        have e := (hb.block q (Array.getElem?_eq_some_iff.1 hl6).1).trans hl6
        exact ⟨cell_of_row _ _ 0 _ _ _ e, cell_of_row _ _ 1 _ _ _ e⟩)
      clear hw6 hq hx6 hb6 hl6
      go_cut [85] (fun v wx => v = .bool false ∧ Hid (Box3 wx g a0 a1 b0 b1 c0 c1) ∧ Hid (Below w.heap.size w wx))
      case first =>
        have KLA := HKF.out l0 l1 a0 a1 HTH.out.2.1
        have KLB := HKF.out l0 l1 b0 b1 HTH.out.2.2.1
        have KLC := HKF.out l0 l1 c0 c1 HTH.out.2.2.2
        obtain ⟨p0, p1, p2, p3, p4, p5⟩ := Y0.out.cells
        obtain ⟨q0, q1⟩ := HQU.out w6 (Below.refl _ _)
        have V0 := Lib.hid (Below.refl w6.heap.size w6)
        go_wp2_with fail
        (with_reducible refine (KLA _).mono ?_)
        rintro e w7 ⟨rfl, hd⟩
        have Y1 := Lib.hid (Y0.out.below hd)
        have Z1 := Lib.hid (Z0.out.trans (hd.mono Z0.out.size))
        have V1 := Lib.hid (V0.out.trans (hd.mono V0.out.size))
        obtain ⟨p0, p1, p2, p3, p4, p5⟩ := Y1.out.cells
        obtain ⟨q0, q1⟩ := HQU.out w7 V1.out
        clear hd
        go_wp2_with fail
        (with_reducible refine (KLB _).mono ?_)
        rintro e w8 ⟨rfl, hd⟩
        have Y2 := Lib.hid (Y1.out.below hd)
        have Z2 := Lib.hid (Z1.out.trans (hd.mono Z1.out.size))
        have V2 := Lib.hid (V1.out.trans (hd.mono V1.out.size))
        obtain ⟨p0, p1, p2, p3, p4, p5⟩ := Y2.out.cells
        obtain ⟨q0, q1⟩ := HQU.out w8 V2.out
        clear hd
        go_wp2_with fail
        (with_reducible refine (KLC _).mono ?_)
        rintro e w9 ⟨rfl, hd⟩
        have Y3 := Lib.hid (Y2.out.below hd)
        have Z3 := Lib.hid (Z2.out.trans (hd.mono Z2.out.size))
        have V3 := Lib.hid (V2.out.trans (hd.mono V2.out.size))
        obtain ⟨p0, p1, p2, p3, p4, p5⟩ := Y3.out.cells
        obtain ⟨q0, q1⟩ := HQU.out w9 V3.out
        clear hd
        by_cases e1 : (l0, l1) = (a0, a1)
        · have h1 := HKEQ.out l0 l1 a0 a1 e1
          clear e1 KLA KLB KLC
          go_wp2_with fail
          go_meet
          exact ⟨rfl, Y3, Z3⟩
        have h1 := HKNE.out l0 l1 a0 a1 e1
        by_cases e2 : (l0, l1) = (b0, b1)
        · have h2 := HKEQ.out l0 l1 b0 b1 e2
          clear e1 e2 KLA KLB KLC
          go_wp2_with fail
          go_meet
          exact ⟨rfl, Y3, Z3⟩
        have h2 := HKNE.out l0 l1 b0 b1 e2
        have h3 := HKEQ.out l0 l1 c0 c1 (by rcases HTH.out.1 with h | h | h; exact absurd h e1; exact absurd h e2; exact h)
        clear e1 e2 KLA KLB KLC
        go_wp2_with fail
        go_meet
        exact ⟨rfl, Y3, Z3⟩
      case rest =>
        rename World => w7
        obtain ⟨rfl, HX7, HB7⟩ := hcut
        clear Y0 Z0 HX4 HB4 HX5 HB5
        go_upto_region 10 with fail
        by_cases hge : (2147483647 : Int) ≤ a0
        · have hge0 := hge
          have P0r4 := (HX7.out.below (show Below w7.heap.size w7 w7.drew from ⟨rfl, rfl, rfl, Nat.le_refl _, fun _ _ => rfl⟩)).cells
          refine GoX.start 10 (fun w' => w'.cell? ⟨g, 0, none⟩ = some (.int .i64 a0) ∧ w'.cell? ⟨g, 1, none⟩ = some (.int .i64 a1) ∧ w'.cell? ⟨g + 1, 0, none⟩ = some (.int .i64 b0) ∧ w'.cell? ⟨g + 1, 1, none⟩ = some (.int .i64 b1) ∧ w'.cell? ⟨g + 2, 0, none⟩ = some (.int .i64 c0) ∧ w'.cell? ⟨g + 2, 1, none⟩ = some (.int .i64 c1)) (by kernel_rfl) ?_
          refine GoX.take 0 rfl (by kernel_rfl) (by kernel_rfl) (by rfl) (fun _ _ _ h => h) (v := ?tv0r4) P0r4 ?ty0r4 ?tr0r4
          case ty0r4 => (intro w hSw; (try dsimp only at hSw); go_simp; first | done | with_reducible rfl)
          simp only [Act.put, List.setIfInBounds_toArray, List.set_cons_zero, List.set_cons_succ]
          refine GoX.take 1 rfl (by kernel_rfl) (by kernel_rfl) (by rfl) (fun _ _ _ h => h) (v := ?tv1r4) P0r4 ?ty1r4 ?tr1r4
          case ty1r4 => (intro w hSw; (try dsimp only at hSw); go_simp; first | done | with_reducible rfl)
          simp only [Act.put, List.setIfInBounds_toArray, List.set_cons_zero, List.set_cons_succ]
          refine GoX.take 2 rfl (by kernel_rfl) (by kernel_rfl) (by rfl) (fun _ _ _ h => h) (v := ?tv2r4) P0r4 ?ty2r4 ?tr2r4
          case ty2r4 => (intro w hSw; (try dsimp only at hSw); go_simp; first | done | with_reducible rfl)
          simp only [Act.put, List.setIfInBounds_toArray, List.set_cons_zero, List.set_cons_succ]
          refine GoX.take 3 rfl (by kernel_rfl) (by kernel_rfl) (by rfl) (fun _ _ _ h => h) (v := ?tv3r4) P0r4 ?ty3r4 ?tr3r4
          case ty3r4 => (intro w hSw; (try dsimp only at hSw); go_simp; first | done | with_reducible rfl)
          simp only [Act.put, List.setIfInBounds_toArray, List.set_cons_zero, List.set_cons_succ]
          refine GoX.skip 4 rfl (by kernel_rfl) (by kernel_rfl) (by rfl) (fun _ _ _ h => h) P0r4 ?_
          simp only [Act.put, List.setIfInBounds_toArray, List.set_cons_zero, List.set_cons_succ]
          refine GoX.skip 5 rfl (by kernel_rfl) (by kernel_rfl) (by rfl) (fun _ _ _ h => h) P0r4 ?_
          simp only [Act.put, List.setIfInBounds_toArray, List.set_cons_zero, List.set_cons_succ]
          refine GoX.skip 6 rfl (by kernel_rfl) (by kernel_rfl) (by rfl) (fun _ _ _ h => h) P0r4 ?_
          simp only [Act.put, List.setIfInBounds_toArray, List.set_cons_zero, List.set_cons_succ]
          refine GoX.skip 7 rfl (by kernel_rfl) (by kernel_rfl) (by rfl) (fun _ _ _ h => h) P0r4 ?_
          simp only [Act.put, List.setIfInBounds_toArray, List.set_cons_zero, List.set_cons_succ]
          refine GoX.skip 8 rfl (by kernel_rfl) (by kernel_rfl) (by rfl) (fun _ _ _ h => h) P0r4 ?_
          simp only [Act.put, List.setIfInBounds_toArray, List.set_cons_zero, List.set_cons_succ]
          refine GoX.take 9 rfl (by kernel_rfl) (by kernel_rfl) (by rfl) (fun _ _ _ h => h) (v := ?tv9r4) P0r4 ?ty9r4 ?tr9r4
          case ty9r4 => (intro w hSw; (try dsimp only at hSw); go_simp; first | done | with_reducible rfl)
          simp only [Act.put, List.setIfInBounds_toArray, List.set_cons_zero, List.set_cons_succ]
          refine GoX.last 10 rfl (by kernel_rfl) (by kernel_rfl) (by decide) ?_
          rw [if_pos (by rfl)]
          go_simp
          go_wp2_with fail
          have XE := HX7
          have BE := HB7
          go_ret
          exact ⟨rfl, BE.out.drew⟩
        · have hge' : ((2147483647 : Int) ≤ a0) = False := eq_false hge
          have hlt' : a0 < 2147483647 := by omega
          have KNX := next_any a0 a1 client
          have KAN := HKT.out a0 a1 (nextN a0) client (.inl (by show a0 < nextN a0; unfold nextN; omega))
          clear hge
          have P0r5 := (HX7.out.below (show Below w7.heap.size w7 w7.drew from ⟨rfl, rfl, rfl, Nat.le_refl _, fun _ _ => rfl⟩)).cells
          refine GoX.start 10 (fun w' => w'.cell? ⟨g, 0, none⟩ = some (.int .i64 a0) ∧ w'.cell? ⟨g, 1, none⟩ = some (.int .i64 a1) ∧ w'.cell? ⟨g + 1, 0, none⟩ = some (.int .i64 b0) ∧ w'.cell? ⟨g + 1, 1, none⟩ = some (.int .i64 b1) ∧ w'.cell? ⟨g + 2, 0, none⟩ = some (.int .i64 c0) ∧ w'.cell? ⟨g + 2, 1, none⟩ = some (.int .i64 c1)) (by kernel_rfl) ?_
          refine GoX.take 0 rfl (by kernel_rfl) (by kernel_rfl) (by rfl) (fun _ _ _ h => h) (v := ?tv0r5) P0r5 ?ty0r5 ?tr0r5
          case ty0r5 => (intro w hSw; (try dsimp only at hSw); go_simp; first | done | with_reducible rfl)
          simp only [Act.put, List.setIfInBounds_toArray, List.set_cons_zero, List.set_cons_succ]
          refine GoX.take 1 rfl (by kernel_rfl) (by kernel_rfl) (by rfl) (fun _ _ _ h => h) (v := ?tv1r5) P0r5 ?ty1r5 ?tr1r5
          case ty1r5 => (intro w hSw; (try dsimp only at hSw); go_simp; first | done | with_reducible rfl)
          simp only [Act.put, List.setIfInBounds_toArray, List.set_cons_zero, List.set_cons_succ]
          refine GoX.take 2 rfl (by kernel_rfl) (by kernel_rfl) (by rfl) (fun _ _ _ h => h) (v := ?tv2r5) P0r5 ?ty2r5 ?tr2r5
          case ty2r5 => (intro w hSw; (try dsimp only at hSw); go_simp; first | done | with_reducible rfl)
          simp only [Act.put, List.setIfInBounds_toArray, List.set_cons_zero, List.set_cons_succ]
          refine GoX.take 3 rfl (by kernel_rfl) (by kernel_rfl) (by rfl) (fun _ _ _ h => h) (v := ?tv3r5) P0r5 ?ty3r5 ?tr3r5
          case ty3r5 => (intro w hSw; (try dsimp only at hSw); go_simp; first | done | with_reducible rfl)
          simp only [Act.put, List.setIfInBounds_toArray, List.set_cons_zero, List.set_cons_succ]
          refine GoX.take 4 rfl (by kernel_rfl) (by kernel_rfl) (by rfl) (fun _ _ _ h => h) (v := ?tv4r5) P0r5 ?ty4r5 ?tr4r5
          case ty4r5 => (intro w hSw; (try dsimp only at hSw); go_simp; first | done | with_reducible rfl)
          simp only [Act.put, List.setIfInBounds_toArray, List.set_cons_zero, List.set_cons_succ]
          refine GoX.take 5 rfl (by kernel_rfl) (by kernel_rfl) (by rfl) (fun _ _ _ h => h) (v := ?tv5r5) P0r5 ?ty5r5 ?tr5r5
          case ty5r5 => (intro w hSw; (try dsimp only at hSw); go_simp; first | done | with_reducible rfl)
          simp only [Act.put, List.setIfInBounds_toArray, List.set_cons_zero, List.set_cons_succ]
          refine GoX.take 6 rfl (by kernel_rfl) (by kernel_rfl) (by rfl) (fun _ _ _ h => h) (v := ?tv6r5) P0r5 ?ty6r5 ?tr6r5
          case ty6r5 => (intro w hSw; (try dsimp only at hSw); go_simp; first | done | with_reducible rfl)
          simp only [Act.put, List.setIfInBounds_toArray, List.set_cons_zero, List.set_cons_succ]
          refine GoX.one 7 rfl (by kernel_rfl) (by decide) (fun K hK => ?_)
          rw [if_pos (by rfl)]
          go_simp
          (with_reducible refine (KNX _).mono ?_)
          rintro e wr51 ⟨rfl, hd⟩
          have hd' : Below w7.heap.size w7 wr51 := ⟨hd.os, hd.tape, hd.output, hd.size, hd.block⟩
          have Xr51 := Lib.hid (HX7.out.below hd')
          have Br51 := Lib.hid (HB7.out.trans (hd'.mono HB7.out.size))
          have Pr51 := Xr51.out.cells
          refine hK.out _ _ Pr51 (fun _ => ?_)
          clear hK K hd hd' P0r5
          refine GoX.one 8 rfl (by kernel_rfl) (by decide) (fun K hK => ?_)
          rw [if_pos (by rfl)]
          go_simp
          (with_reducible refine (KAN _).mono ?_)
          rintro e wr52 ⟨rfl, hd⟩
          have hd' : Below wr51.heap.size wr51 wr52 := ⟨hd.os, hd.tape, hd.output, hd.size, hd.block⟩
          have Xr52 := Lib.hid (Xr51.out.below hd')
          have Br52 := Lib.hid (Br51.out.trans (hd'.mono Br51.out.size))
          have Pr52 := Xr52.out.cells
          refine hK.out _ _ Pr52 (fun _ => ?_)
          clear hK K hd hd' Pr51
          refine GoX.take 9 rfl (by kernel_rfl) (by kernel_rfl) (by rfl) (fun _ _ _ h => h) (v := ?tv9r5) Pr52 ?ty9r5 ?tr9r5
          case ty9r5 => (intro w hSw; (try dsimp only at hSw); go_simp; first | done | with_reducible rfl)
          simp only [Act.put, List.setIfInBounds_toArray, List.set_cons_zero, List.set_cons_succ]
          refine GoX.last 10 rfl (by kernel_rfl) (by kernel_rfl) (by decide) ?_
          rw [if_pos (by rfl)]
          go_simp
          go_wp2_with fail
          have XE := Xr52
          have BE := Br52
          go_ret
          exact ⟨rfl, BE.out⟩
end Go.Proofs.Ytikjcmijmhmilaa
