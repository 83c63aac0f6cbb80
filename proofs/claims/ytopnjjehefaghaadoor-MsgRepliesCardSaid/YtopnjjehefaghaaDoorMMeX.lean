/-
  a meta copied, a record copied; alike in all fields.
-/
import Derived.Test.YtopnjjehefaghaaDoorMMeW
namespace Go.Proofs.YtopnjjehefaghaaDoor
open Go.RowKit

abbrev MT6 : TypeId := 26
theorem cells6X {w : World} {b : Nat} {v0 v1 v2 v3 v4 v5 : Value} {T : TypeId} (h : w.heap[b]? = some (.cells #[v0, v1, v2, v3, v4, v5] T (0, 0))) : w.cell? ⟨b, 0, none⟩ = some v0 ∧ w.cell? ⟨b, 1, none⟩ = some v1 ∧ w.cell? ⟨b, 2, none⟩ = some v2 ∧ w.cell? ⟨b, 3, none⟩ = some v3 ∧ w.cell? ⟨b, 4, none⟩ = some v4 ∧ w.cell? ⟨b, 5, none⟩ = some v5 ∧ ∀ j, w.frozen? ⟨b, j, none⟩ = false :=
  ⟨cell_of_row _ _ 0 _ _ _ h, cell_of_row _ _ 1 _ _ _ h, cell_of_row _ _ 2 _ _ _ h, cell_of_row _ _ 3 _ _ _ h, cell_of_row _ _ 4 _ _ _ h, cell_of_row _ _ 5 _ _ _ h, fun _ => frozen_of_row _ _ _ _ _ h⟩
theorem set6X {w : World} {g : Nat} {u0 u1 u2 u3 u4 u5 : Value} {T : TypeId} (x0 x1 x2 x3 x4 x5 : Value) (h : w.heap[g]? = some (.cells #[u0, u1, u2, u3, u4, u5] T (0, 0))) : ((((((w.setCell ⟨g, 0, none⟩ x0).setCell ⟨g, 1, none⟩ x1).setCell ⟨g, 2, none⟩ x2).setCell ⟨g, 3, none⟩ x3).setCell ⟨g, 4, none⟩ x4).setCell ⟨g, 5, none⟩ x5).heap[g]? = some (.cells #[x0, x1, x2, x3, x4, x5] T (0, 0)) :=
  heap_setCell_same _ g 5 _ _ _ (heap_setCell_same _ g 4 _ _ _ (heap_setCell_same _ g 3 _ _ _ (heap_setCell_same _ g 2 _ _ _ (heap_setCell_same _ g 1 _ _ _ (heap_setCell_same w g 0 _ _ _ h)))))
theorem grown6X (w : World) (g : Nat) (x0 x1 x2 x3 x4 x5 : Value) : w.grownBy ((((((w.setCell ⟨g, 0, none⟩ x0).setCell ⟨g, 1, none⟩ x1).setCell ⟨g, 2, none⟩ x2).setCell ⟨g, 3, none⟩ x3).setCell ⟨g, 4, none⟩ x4).setCell ⟨g, 5, none⟩ x5) (some g) :=
  (((((grownBy_setCellM _ ⟨g, 0, none⟩ x0).trans (grownBy_setCellM _ ⟨g, 1, none⟩ x1)).trans (grownBy_setCellM _ ⟨g, 2, none⟩ x2)).trans (grownBy_setCellM _ ⟨g, 3, none⟩ x3)).trans (grownBy_setCellM _ ⟨g, 4, none⟩ x4)).trans (grownBy_setCellM _ ⟨g, 5, none⟩ x5)
set_option maxRecDepth 100000 in
set_option maxHeartbeats 8000000 in
theorem copyMeta_any (N c s t : Int) (d : Bool) (sa : Option Addr) (sn sc : Nat) (sum : List Nat) (w : World) (hS : BytesV w (sa, sn, sc) sum) :
    Calls Tryd.prog 26 #[.agg #[.int .i64 N, .int .i64 c, .int .i64 s, .int .i64 t, .bool d, .slice sa sn sc]] w fun e w' => ∃ a cp, e = .returned (.agg #[.int .i64 N, .int .i64 c, .int .i64 s, .int .i64 t, .bool d, .slice a sn cp]) ∧ w'.ownsRow w.heap.size 5 1 (.slice a sn cp) sn (sum.map bv) ∧ Below w.heap.size w w' := by
  have hsl : sum.length = sn := hS.length
  obtain ⟨b, hb⟩ : ∃ b, b = w.heap.size := ⟨_, rfl⟩
  obtain ⟨w1, hw1⟩ : ∃ x, x = w.alloc (.cells #[.int .i64 N, .int .i64 c, .int .i64 s, .int .i64 t, .bool d, .slice sa sn sc] MT6) := ⟨_, rfl⟩
  have hs1 : w1.heap.size = b + 1 := by rw [hw1, hb]; simp
  obtain ⟨w2, hw2⟩ : ∃ x, x = w1.alloc (.cells #[.int .i64 0, .int .i64 0, .int .i64 0, .int .i64 0, .bool false, .slice none 0 0] MT6) := ⟨_, rfl⟩
  have h1 : w1.heap[b]? = some (.cells #[.int .i64 N, .int .i64 c, .int .i64 s, .int .i64 t, .bool d, .slice sa sn sc] MT6 (0, 0)) := by rw [hw1, hb]; exact heap_alloc_new w _
  have h2 : w2.heap[b]? = some (.cells #[.int .i64 N, .int .i64 c, .int .i64 s, .int .i64 t, .bool d, .slice sa sn sc] MT6 (0, 0)) := by rw [hw2, heap_alloc_old _ _ (by omega)]; exact h1
  have h3 : w2.heap[b + 1]? = some (.cells #[.int .i64 0, .int .i64 0, .int .i64 0, .int .i64 0, .bool false, .slice none 0 0] MT6 (0, 0)) := by rw [hw2, ← hs1]; exact heap_alloc_new w1 _
  have b2 : Below w.heap.size w w2 := by rw [hw2, hw1]; exact (below_alloc w _).trans ((below_alloc _ _).mono (by simp))
  have HW1 := Lib.hid hw1
  have HW2 := Lib.hid hw2
  have HBB := Lib.hid hb
  have H2 := Lib.hid h2
  have H3 := Lib.hid h3
  have B2 := Lib.hid b2
  have HS2 := Lib.hid (hS.below b2)
  have HS1 := Lib.hid hs1
  obtain ⟨c0, c1, c2, c3, c4, c5, c6⟩ := cells6X h2
  clear hw1 hw2 hb h1 h2 h3 b2 hS hs1
  go_enter Tryd.func26, Tryd.ntmps26
  go_upto_region 1 with fail
  rw [← HBB.out, ← HW1.out, ← HW2.out]
  have KC := copyBytes_any sa sn sc sum w2 HS2.out
  go_wp2_with fail
  (with_reducible refine KC.mono ?_)
  rintro e v1 ⟨a5, c5', rfl, o5, b5⟩
  rw [hsl] at o5 ⊢
  have hs3 : b + 1 < w2.heap.size := (Array.getElem?_eq_some_iff.1 H3.out).1
  have g2 := (b5.block b (by omega)).trans H2.out
  have G3 := Lib.hid ((b5.block (b + 1) hs3).trans H3.out)
  have q6 : v1.frozen? ⟨b, 5, none⟩ = false := frozen_of_row _ _ _ _ _ g2
  have q5 : v1.cell? ⟨b, 5, none⟩ = some (.slice sa sn sc) := cell_of_row _ _ 5 _ _ _ g2
  have HNB := Lib.hid (show (Value.slice a5 sn c5').ownBlock ≠ some (b + 1) from fun e => by have h1 := (o5.lt (b + 1) e).1; omega)
  have hlt5 : w2.heap.size ≤ v1.heap.size := b5.size
  obtain ⟨v2, hv2⟩ : ∃ x, x = v1.setCell ⟨b, 5, none⟩ (.slice a5 sn c5') := ⟨_, rfl⟩
  have hgr : v1.grownBy v2 (some b) := by rw [hv2]; exact grownBy_setCellM v1 ⟨b, 5, none⟩ _
  have k2 : v2.heap[b]? = some (.cells #[.int .i64 N, .int .i64 c, .int .i64 s, .int .i64 t, .bool d, .slice a5 sn c5'] MT6 (0, 0)) := by rw [hv2]; exact heap_setCell_same v1 b 5 _ _ _ g2
  have k3 : v2.heap[b + 1]? = some (.cells #[.int .i64 0, .int .i64 0, .int .i64 0, .int .i64 0, .bool false, .slice none 0 0] MT6 (0, 0)) := by rw [hv2]; exact (heap_setCell_other v1 ⟨b, 5, none⟩ (b + 1) _ (by simp)).trans G3.out
  have HO2 := Lib.hid (o5.kept hgr (.inr (fun e => by have := (o5.lt b e).1; omega)))
  have HB2 : Hid (Below w.heap.size w v2) := Lib.hid (by rw [hv2]; exact (B2.out.trans (b5.mono B2.out.size)).setCell (p := ⟨b, 5, none⟩) (Nat.le_of_eq HBB.out.symm) _)
  have HV2 := Lib.hid hv2
  have K3 := Lib.hid k3
  have K2 := Lib.hid k2
  clear c0 c1 c2 c3 c4 c5 c6 hv2 hgr o5 b5 g2 k2 k3 KC hlt5 hs3
  go_upto_region 2 with fail
  rw [← HV2.out]
  clear q5 q6
  obtain ⟨c0, c1, c2, c3, c4, c5, c6⟩ := cells6X K2.out
  obtain ⟨d0, d1, d2, d3, d4, d5, d6⟩ := cells6X K3.out
  go_wp2
  clear c0 c1 c2 c3 c4 c5 c6 d0 d1 d2 d3 d4 d5 d6 HW1 HW2 H2 H3
  refine bodyPost_ret (results_cell_row rfl _ _ (b + 1) MT6 #[.int .i64 N, .int .i64 c, .int .i64 s, .int .i64 t, .bool d, .slice a5 sn c5'] (0, 0) _ rfl ?hh Tryd.underlying26 rfl (by kernel_rfl)) rfl ⟨a5, c5', rfl, ?_, ?_⟩
  · exact set6X _ _ _ _ _ _ K3.out
  · have := HO2.out.kept (grown6X v2 (b + 1) (.int .i64 N) (.int .i64 c) (.int .i64 s) (.int .i64 t) (.bool d) (.slice a5 sn c5')) (.inr HNB.out)
    exact ownsRow_base this B2.out.size
  · exact HB2.out.grown (grown6X v2 (b + 1) _ _ _ _ _ _) HB2.out.size (fun k hk => by injection hk with hk; have := HBB.out; omega)

theorem set9X {w : World} {g : Nat} {u0 u1 u2 u3 u4 u5 u6 u7 u8 : Value} {T : TypeId} (x0 x1 x2 x3 x4 x5 x6 x7 x8 : Value) (h : w.heap[g]? = some (.cells #[u0, u1, u2, u3, u4, u5, u6, u7, u8] T (0, 0))) : (((((((((w.setCell ⟨g, 0, none⟩ x0).setCell ⟨g, 1, none⟩ x1).setCell ⟨g, 2, none⟩ x2).setCell ⟨g, 3, none⟩ x3).setCell ⟨g, 4, none⟩ x4).setCell ⟨g, 5, none⟩ x5).setCell ⟨g, 6, none⟩ x6).setCell ⟨g, 7, none⟩ x7).setCell ⟨g, 8, none⟩ x8).heap[g]? = some (.cells #[x0, x1, x2, x3, x4, x5, x6, x7, x8] T (0, 0)) := by
  have h0 : (w.setCell ⟨g, 0, none⟩ x0).heap[g]? = some (.cells #[x0, u1, u2, u3, u4, u5, u6, u7, u8] T (0, 0)) := heap_setCell_same w g 0 _ _ _ h
  have h1 : ((w.setCell ⟨g, 0, none⟩ x0).setCell ⟨g, 1, none⟩ x1).heap[g]? = some (.cells #[x0, x1, u2, u3, u4, u5, u6, u7, u8] T (0, 0)) := heap_setCell_same (w.setCell ⟨g, 0, none⟩ x0) g 1 _ _ _ h0
  have h2 : (((w.setCell ⟨g, 0, none⟩ x0).setCell ⟨g, 1, none⟩ x1).setCell ⟨g, 2, none⟩ x2).heap[g]? = some (.cells #[x0, x1, x2, u3, u4, u5, u6, u7, u8] T (0, 0)) := heap_setCell_same ((w.setCell ⟨g, 0, none⟩ x0).setCell ⟨g, 1, none⟩ x1) g 2 _ _ _ h1
  have h3 : ((((w.setCell ⟨g, 0, none⟩ x0).setCell ⟨g, 1, none⟩ x1).setCell ⟨g, 2, none⟩ x2).setCell ⟨g, 3, none⟩ x3).heap[g]? = some (.cells #[x0, x1, x2, x3, u4, u5, u6, u7, u8] T (0, 0)) := heap_setCell_same (((w.setCell ⟨g, 0, none⟩ x0).setCell ⟨g, 1, none⟩ x1).setCell ⟨g, 2, none⟩ x2) g 3 _ _ _ h2
  have h4 : (((((w.setCell ⟨g, 0, none⟩ x0).setCell ⟨g, 1, none⟩ x1).setCell ⟨g, 2, none⟩ x2).setCell ⟨g, 3, none⟩ x3).setCell ⟨g, 4, none⟩ x4).heap[g]? = some (.cells #[x0, x1, x2, x3, x4, u5, u6, u7, u8] T (0, 0)) := heap_setCell_same ((((w.setCell ⟨g, 0, none⟩ x0).setCell ⟨g, 1, none⟩ x1).setCell ⟨g, 2, none⟩ x2).setCell ⟨g, 3, none⟩ x3) g 4 _ _ _ h3
  have h5 : ((((((w.setCell ⟨g, 0, none⟩ x0).setCell ⟨g, 1, none⟩ x1).setCell ⟨g, 2, none⟩ x2).setCell ⟨g, 3, none⟩ x3).setCell ⟨g, 4, none⟩ x4).setCell ⟨g, 5, none⟩ x5).heap[g]? = some (.cells #[x0, x1, x2, x3, x4, x5, u6, u7, u8] T (0, 0)) := heap_setCell_same (((((w.setCell ⟨g, 0, none⟩ x0).setCell ⟨g, 1, none⟩ x1).setCell ⟨g, 2, none⟩ x2).setCell ⟨g, 3, none⟩ x3).setCell ⟨g, 4, none⟩ x4) g 5 _ _ _ h4
  have h6 : (((((((w.setCell ⟨g, 0, none⟩ x0).setCell ⟨g, 1, none⟩ x1).setCell ⟨g, 2, none⟩ x2).setCell ⟨g, 3, none⟩ x3).setCell ⟨g, 4, none⟩ x4).setCell ⟨g, 5, none⟩ x5).setCell ⟨g, 6, none⟩ x6).heap[g]? = some (.cells #[x0, x1, x2, x3, x4, x5, x6, u7, u8] T (0, 0)) := heap_setCell_same ((((((w.setCell ⟨g, 0, none⟩ x0).setCell ⟨g, 1, none⟩ x1).setCell ⟨g, 2, none⟩ x2).setCell ⟨g, 3, none⟩ x3).setCell ⟨g, 4, none⟩ x4).setCell ⟨g, 5, none⟩ x5) g 6 _ _ _ h5
  have h7 : ((((((((w.setCell ⟨g, 0, none⟩ x0).setCell ⟨g, 1, none⟩ x1).setCell ⟨g, 2, none⟩ x2).setCell ⟨g, 3, none⟩ x3).setCell ⟨g, 4, none⟩ x4).setCell ⟨g, 5, none⟩ x5).setCell ⟨g, 6, none⟩ x6).setCell ⟨g, 7, none⟩ x7).heap[g]? = some (.cells #[x0, x1, x2, x3, x4, x5, x6, x7, u8] T (0, 0)) := heap_setCell_same (((((((w.setCell ⟨g, 0, none⟩ x0).setCell ⟨g, 1, none⟩ x1).setCell ⟨g, 2, none⟩ x2).setCell ⟨g, 3, none⟩ x3).setCell ⟨g, 4, none⟩ x4).setCell ⟨g, 5, none⟩ x5).setCell ⟨g, 6, none⟩ x6) g 7 _ _ _ h6
  have h8 : (((((((((w.setCell ⟨g, 0, none⟩ x0).setCell ⟨g, 1, none⟩ x1).setCell ⟨g, 2, none⟩ x2).setCell ⟨g, 3, none⟩ x3).setCell ⟨g, 4, none⟩ x4).setCell ⟨g, 5, none⟩ x5).setCell ⟨g, 6, none⟩ x6).setCell ⟨g, 7, none⟩ x7).setCell ⟨g, 8, none⟩ x8).heap[g]? = some (.cells #[x0, x1, x2, x3, x4, x5, x6, x7, x8] T (0, 0)) := heap_setCell_same ((((((((w.setCell ⟨g, 0, none⟩ x0).setCell ⟨g, 1, none⟩ x1).setCell ⟨g, 2, none⟩ x2).setCell ⟨g, 3, none⟩ x3).setCell ⟨g, 4, none⟩ x4).setCell ⟨g, 5, none⟩ x5).setCell ⟨g, 6, none⟩ x6).setCell ⟨g, 7, none⟩ x7) g 8 _ _ _ h7
  exact h8
theorem grown9X (w : World) (g : Nat) (x0 x1 x2 x3 x4 x5 x6 x7 x8 : Value) : w.grownBy (((((((((w.setCell ⟨g, 0, none⟩ x0).setCell ⟨g, 1, none⟩ x1).setCell ⟨g, 2, none⟩ x2).setCell ⟨g, 3, none⟩ x3).setCell ⟨g, 4, none⟩ x4).setCell ⟨g, 5, none⟩ x5).setCell ⟨g, 6, none⟩ x6).setCell ⟨g, 7, none⟩ x7).setCell ⟨g, 8, none⟩ x8) (some g) := (World.grownBy.trans (World.grownBy.trans (World.grownBy.trans (World.grownBy.trans (World.grownBy.trans (World.grownBy.trans (World.grownBy.trans (World.grownBy.trans (grownBy_setCellM _ ⟨g, 0, none⟩ x0) (grownBy_setCellM _ ⟨g, 1, none⟩ x1)) (grownBy_setCellM _ ⟨g, 2, none⟩ x2)) (grownBy_setCellM _ ⟨g, 3, none⟩ x3)) (grownBy_setCellM _ ⟨g, 4, none⟩ x4)) (grownBy_setCellM _ ⟨g, 5, none⟩ x5)) (grownBy_setCellM _ ⟨g, 6, none⟩ x6)) (grownBy_setCellM _ ⟨g, 7, none⟩ x7)) (grownBy_setCellM _ ⟨g, 8, none⟩ x8))
theorem set62X {w : World} {g : Nat} {u0 u1 u2 u3 u4 u5 u6 u7 u8 : Value} {T : TypeId} (x0 x1 x2 x3 x4 x5 : Value) (h : w.heap[g]? = some (.cells #[u0, u1, u2, u3, u4, u5, u6, u7, u8] T (0, 0))) : ((((((w.setCell ⟨g, 2, none⟩ x0).setCell ⟨g, 3, none⟩ x1).setCell ⟨g, 4, none⟩ x2).setCell ⟨g, 5, none⟩ x3).setCell ⟨g, 6, none⟩ x4).setCell ⟨g, 7, none⟩ x5).heap[g]? = some (.cells #[u0, u1, x0, x1, x2, x3, x4, x5, u8] T (0, 0)) := by
  have h0 : (w.setCell ⟨g, 2, none⟩ x0).heap[g]? = some (.cells #[u0, u1, x0, u3, u4, u5, u6, u7, u8] T (0, 0)) := heap_setCell_same w g 2 _ _ _ h
  have h1 : ((w.setCell ⟨g, 2, none⟩ x0).setCell ⟨g, 3, none⟩ x1).heap[g]? = some (.cells #[u0, u1, x0, x1, u4, u5, u6, u7, u8] T (0, 0)) := heap_setCell_same (w.setCell ⟨g, 2, none⟩ x0) g 3 _ _ _ h0
  have h2 : (((w.setCell ⟨g, 2, none⟩ x0).setCell ⟨g, 3, none⟩ x1).setCell ⟨g, 4, none⟩ x2).heap[g]? = some (.cells #[u0, u1, x0, x1, x2, u5, u6, u7, u8] T (0, 0)) := heap_setCell_same ((w.setCell ⟨g, 2, none⟩ x0).setCell ⟨g, 3, none⟩ x1) g 4 _ _ _ h1
  have h3 : ((((w.setCell ⟨g, 2, none⟩ x0).setCell ⟨g, 3, none⟩ x1).setCell ⟨g, 4, none⟩ x2).setCell ⟨g, 5, none⟩ x3).heap[g]? = some (.cells #[u0, u1, x0, x1, x2, x3, u6, u7, u8] T (0, 0)) := heap_setCell_same (((w.setCell ⟨g, 2, none⟩ x0).setCell ⟨g, 3, none⟩ x1).setCell ⟨g, 4, none⟩ x2) g 5 _ _ _ h2
  have h4 : (((((w.setCell ⟨g, 2, none⟩ x0).setCell ⟨g, 3, none⟩ x1).setCell ⟨g, 4, none⟩ x2).setCell ⟨g, 5, none⟩ x3).setCell ⟨g, 6, none⟩ x4).heap[g]? = some (.cells #[u0, u1, x0, x1, x2, x3, x4, u7, u8] T (0, 0)) := heap_setCell_same ((((w.setCell ⟨g, 2, none⟩ x0).setCell ⟨g, 3, none⟩ x1).setCell ⟨g, 4, none⟩ x2).setCell ⟨g, 5, none⟩ x3) g 6 _ _ _ h3
  have h5 : ((((((w.setCell ⟨g, 2, none⟩ x0).setCell ⟨g, 3, none⟩ x1).setCell ⟨g, 4, none⟩ x2).setCell ⟨g, 5, none⟩ x3).setCell ⟨g, 6, none⟩ x4).setCell ⟨g, 7, none⟩ x5).heap[g]? = some (.cells #[u0, u1, x0, x1, x2, x3, x4, x5, u8] T (0, 0)) := heap_setCell_same (((((w.setCell ⟨g, 2, none⟩ x0).setCell ⟨g, 3, none⟩ x1).setCell ⟨g, 4, none⟩ x2).setCell ⟨g, 5, none⟩ x3).setCell ⟨g, 6, none⟩ x4) g 7 _ _ _ h4
  exact h5
theorem grown62X (w : World) (g : Nat) (x0 x1 x2 x3 x4 x5 : Value) : w.grownBy ((((((w.setCell ⟨g, 2, none⟩ x0).setCell ⟨g, 3, none⟩ x1).setCell ⟨g, 4, none⟩ x2).setCell ⟨g, 5, none⟩ x3).setCell ⟨g, 6, none⟩ x4).setCell ⟨g, 7, none⟩ x5) (some g) := (World.grownBy.trans (World.grownBy.trans (World.grownBy.trans (World.grownBy.trans (World.grownBy.trans (grownBy_setCellM _ ⟨g, 2, none⟩ x0) (grownBy_setCellM _ ⟨g, 3, none⟩ x1)) (grownBy_setCellM _ ⟨g, 4, none⟩ x2)) (grownBy_setCellM _ ⟨g, 5, none⟩ x3)) (grownBy_setCellM _ ⟨g, 6, none⟩ x4)) (grownBy_setCellM _ ⟨g, 7, none⟩ x5))
theorem cells9X {w : World} {b : Nat} {v0 v1 v2 v3 v4 v5 v6 v7 v8 : Value} {T : TypeId} (h : w.heap[b]? = some (.cells #[v0, v1, v2, v3, v4, v5, v6, v7, v8] T (0, 0))) : (∀ j, w.frozen? ⟨b, j, none⟩ = false) := fun _ => frozen_of_row _ _ _ _ _ h
end Go.Proofs.YtopnjjehefaghaaDoor
