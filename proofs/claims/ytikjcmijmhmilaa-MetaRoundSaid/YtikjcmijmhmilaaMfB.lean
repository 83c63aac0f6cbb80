/-
  rillref09's scan: a text taken.
-/
import Derived.Test.YtikjcmijmhmilaaMfA
namespace Go.Proofs.Ytikjcmijmhmilaa
open Go.RowKit

/-- how many bytes the text's first byte says; what follows. -/
def tLen (l : List Nat) : Nat := if l.length < 1 then 0 else nOf l 1
def tBad (l : List Nat) : Bool := decide (l.length < 1) || decide ((l.drop 1).length < tLen l)
def tRest (l : List Nat) : List Nat := if (l.drop 1).length < tLen l then l.drop 1 else (l.drop 1).drop (tLen l)
def tText (l : List Nat) : List Nat := if (l.drop 1).length < tLen l then [] else (l.drop 1).take (tLen l)
theorem bytesV_takeB {w : World} {a : Option Addr} {n c m : Nat} {l : List Nat} (h : BytesV w (a, n, c) l) (hm : m ≤ n) : BytesV w (a, m, c) (l.take m) := by
  have hl : l.length = n := h.length
  have hc : n ≤ c := h.cap
  have hs : n ≤ 140737488355328 := h.small
  refine ⟨⟨by simp; omega, fun h0 => ?_⟩, fun y hy => h.bytes y (List.mem_of_mem_take hy), by simp only; omega, by simp only; omega, h.nil⟩
  simp only at h0
  obtain ⟨b, off, e, hcl⟩ := h.row.2 (by simp only; omega)
  refine ⟨b, off, e, fun i hi => ?_⟩
  simp only at hi
  rw [hcl i (by simp only; omega), List.getElem?_map, List.getElem?_map, List.getElem?_take, if_pos hi]
theorem bytesV_dropB {w : World} {sa : Option Addr} {x : Addr} {n c m : Nat} {l : List Nat} (h : BytesV w (sa, n, c) l) (e : sa = some x) (hm : m ≤ n) : BytesV w (some (x.add m), n - m, c - m) (l.drop m) := by
  have hl : l.length = n := h.length
  have hc : n ≤ c := h.cap
  have hs : n ≤ 140737488355328 := h.small
  subst e
  refine ⟨⟨by simp [hl], fun h0 => ?_⟩, fun y hy => h.bytes y (List.mem_of_mem_drop hy), by simp only; omega, by simp only; omega, fun e => by cases e⟩
  simp only at h0
  obtain ⟨b, off, e, hcl⟩ := h.row.2 (by simp only; omega)
  injection e with e
  subst e
  refine ⟨b, off + m, by unfold Addr.add; split <;> simp_all, fun i hi => ?_⟩
  simp only at hi
  rw [show off + m + i = off + (m + i) by omega, hcl (m + i) (by simp only; omega), List.getElem?_map, List.getElem?_map, List.getElem?_drop]
set_option maxRecDepth 100000 in
set_option maxHeartbeats 8000000 in
theorem refText_any (ad : Option Addr) (n c : Nat) (bad : Bool) (l : List Nat) (u w : World) (hu : Below u.heap.size u w) (h : BytesV u (ad, n, c) l) :
    Calls Try.prog 38 #[.agg #[.slice ad n c, .bool bad]] w fun e w' => ∃ a' n' c' ta tc, e = .returned (.tuple #[.agg #[.slice a' n' c', .bool (bad || tBad l)], .slice ta (tText l).length tc]) ∧ BytesV u (a', n', c') (tRest l) ∧ w'.ownsRow w.heap.size 5 1 (.slice ta (tText l).length tc) (tText l).length ((tText l).map bv) ∧ (Bytes (tText l) ∧ (tText l).length ≤ 140737488355328) ∧ Below w.heap.size w w' := by
  obtain ⟨b, hb⟩ : ∃ b, b = w.heap.size := ⟨_, rfl⟩
  obtain ⟨w1, hw1⟩ : ∃ x, x = w.alloc (.cells #[.slice ad n c, .bool bad] ST2) := ⟨_, rfl⟩
  have hs1 : w1.heap.size = b + 1 := by rw [hw1, hb]; simp
  obtain ⟨w2, hw2⟩ : ∃ x, x = w1.alloc (.cells #[.slice none 0 0, .bool false] ST2) := ⟨_, rfl⟩
  have hs2 : w2.heap.size = b + 2 := by rw [hw2]; simp; omega
  have k1 : w1.heap[b]? = some (.cells #[.slice ad n c, .bool bad] ST2 (0, 0)) := by rw [hw1, hb]; exact heap_alloc_new w _
  have k2 : w2.heap[b]? = some (.cells #[.slice ad n c, .bool bad] ST2 (0, 0)) := by rw [hw2, heap_alloc_old _ _ (by omega)]; exact k1
  have k3 : w2.heap[b + 1]? = some (.cells #[.slice none 0 0, .bool false] ST2 (0, 0)) := by rw [hw2, ← hs1]; exact heap_alloc_new w1 _
  have b2 : Below w.heap.size w w2 := by rw [hw2, hw1]; exact (below_alloc w _).trans ((below_alloc _ _).mono (by simp))
  have hu2 := hu.trans (b2.mono hu.size)
  have KN := refNum_is 1 ad n c bad l u w2 hu2 h (by decide) 1 rfl
  have HU := Lib.hid hu
  have HW1 := Lib.hid hw1
  have HW2 := Lib.hid hw2
  have HBB := Lib.hid hb
  have HZ2 := Lib.hid hs2
  have K2 := Lib.hid k2
  have K3 := Lib.hid k3
  have B2 := Lib.hid b2
  obtain ⟨c0, c1, hfz⟩ := cells2M k2
  clear hw1 hw2 hb k1 k2 k3 b2 h hs1 hs2 hu hu2
  go_enter Try.func38, Try.ntmps38
  go_upto_region 1 with fail
  rw [← HBB.out, ← HW1.out, ← HW2.out]
  go_wp2_with fail
  (with_reducible refine KN.mono ?_)
  rintro e w3 ⟨a1, n1, d1, rfl, hy, b3⟩
  rw [show (if l.length < 1 then (0 : Int) else (nOf l 1 : Nat)) = ((tLen l : Nat) : Int) by unfold tLen; split <;> rfl]
  obtain ⟨B1, hB1⟩ : ∃ B, B = (bad || decide (l.length < 1)) := ⟨_, rfl⟩
  obtain ⟨T, hT⟩ : ∃ T, T = tLen l := ⟨_, rfl⟩
  rw [← hB1, ← hT]
  have hz2 := HZ2.out
  have g1 := (b3.block b (by omega)).trans K2.out
  have G3 := (b3.block (b + 1) (by omega)).trans K3.out
  have B3 := B2.out.trans (b3.mono B2.out.size)
  obtain ⟨w4, hw4⟩ : ∃ x, x = (w3.setCell ⟨b, 0, none⟩ (.slice a1 n1 d1)).setCell ⟨b, 1, none⟩ (.bool B1) := ⟨_, rfl⟩
  have k4 : w4.heap[b]? = some (.cells #[.slice a1 n1 d1, .bool B1] ST2 (0, 0)) := by rw [hw4]; exact set2X _ _ g1
  have J4 := Lib.hid (show w4.heap[b + 1]? = some (.cells #[.slice none 0 0, .bool false] ST2 (0, 0)) by rw [hw4]; exact (heap_setCell_other _ ⟨b, 1, none⟩ (b + 1) _ (by simp)).trans ((heap_setCell_other _ ⟨b, 0, none⟩ (b + 1) _ (by simp)).trans G3))
  have B4 := Lib.hid (show Below w.heap.size w w4 by rw [hw4]; exact (B3.setCell (p := ⟨b, 0, none⟩) (Nat.le_of_eq HBB.out.symm) _).setCell (p := ⟨b, 1, none⟩) (Nat.le_of_eq HBB.out.symm) _)
  have HW4 := Lib.hid hw4
  have K4 := Lib.hid k4
  have HB1 := Lib.hid hB1
  have HT := Lib.hid hT
  have HY := Lib.hid hy
  have hn1 : (l.drop 1).length = n1 := hy.length
  have hn1s := hy.small
  have hn1c := hy.cap
  simp only at hn1s hn1c
  clear c0 c1 hfz
  obtain ⟨c0, c1, hfz⟩ := cells2M g1
  clear KN b3 g1 G3 B3 hw4 k4 hB1 hT hy hz2
  go_upto_region 2 with fail
  rw [← HW4.out]
  clear c0 c1 hfz
  obtain ⟨c0, c1, hfz⟩ := cells2M K4.out
  obtain ⟨e0, e1, hfz1⟩ := cells2M J4.out
  by_cases hlt : n1 < T
  · have hTB : (bad || tBad l) = true := by
      unfold tBad
      rw [← HT.out, hn1, decide_eq_true hlt]
      simp
    have hTR : tRest l = l.drop 1 := by unfold tRest; rw [← HT.out, hn1, if_pos hlt]
    have hTT : tText l = [] := by unfold tText; rw [← HT.out, hn1, if_pos hlt]
    have HTB := Lib.hid hTB
    have HTR := Lib.hid hTR
    have HTT := Lib.hid hTT
    clear hTB hTR hTT
    go_wp2
    clear c0 c1 hfz e0 e1 hfz1
    rw [HTB.out, HTR.out, HTT.out]
    refine bodyPost_ret (results_scan rfl (g := b + 1) (v0 := .slice a1 n1 d1) (v1 := .bool true) ?_ _ rfl) rfl ⟨a1, n1, d1, none, 0, rfl, HY.out, World.ownsRow_nil _ _ _ _, ⟨bytes_nil, by simp⟩, ?_⟩
    · exact set2X _ _ ((heap_setCell_other w4 ⟨b, 1, none⟩ (b + 1) _ (by simp)).trans J4.out)
    · have hbb := HBB.out
      exact (((B4.out.setCell (p := ⟨b, 1, none⟩) (Nat.le_of_eq hbb.symm) _).setCell (p := ⟨b + 1, 0, none⟩) (by show w.heap.size ≤ b + 1; omega) _).setCell (p := ⟨b + 1, 1, none⟩) (by show w.heap.size ≤ b + 1; omega) _)
  · have hTB : (bad || tBad l) = B1 := by
      unfold tBad
      rw [← HT.out, hn1, decide_eq_false hlt, HB1.out, Bool.or_false]
    have hTR : tRest l = (l.drop 1).drop T := by unfold tRest; rw [← HT.out, hn1, if_neg hlt]
    have hTT : tText l = (l.drop 1).take T := by unfold tText; rw [← HT.out, hn1, if_neg hlt]
    have HTB := Lib.hid hTB
    have HTR := Lib.hid hTR
    have HTT := Lib.hid hTT
    clear hTB hTR hTT
    have KC := copyBytes_any a1 T d1 ((l.drop 1).take T) w4 ((bytesV_takeB HY.out (by omega)).below (HU.out.trans (B4.out.mono HU.out.size)))
    have htl : ((l.drop 1).take T).length = T := by rw [List.length_take]; omega
    have HTL := Lib.hid htl
    have HB24 := Lib.hid B4.out.size
    go_wp2_with fail
    (with_reducible refine KC.mono ?_)
    rintro e w5 ⟨a5, c5, rfl, o5, b5⟩
    rw [htl] at o5 ⊢
    have g5 := (b5.block b (Array.getElem?_eq_some_iff.1 K4.out).1).trans K4.out
    have J5 := Lib.hid ((b5.block (b + 1) (Array.getElem?_eq_some_iff.1 J4.out).1).trans J4.out)
    have B5 := Lib.hid (B4.out.trans (b5.mono B4.out.size))
    have hb5 : b + 1 < w4.heap.size := (Array.getElem?_eq_some_iff.1 J4.out).1
    have HNE := Lib.hid (show (Value.slice a5 T c5).ownBlock ≠ some b ∧ (Value.slice a5 T c5).ownBlock ≠ some (b + 1) from ⟨fun e => by have := (o5.lt b e).1; omega, fun e => by have := (o5.lt (b + 1) e).1; omega⟩)
    have O5 := Lib.hid o5
    have G5 := Lib.hid g5
    have HBT := Lib.hid (show Bytes ((l.drop 1).take T) from fun x hx => HY.out.bytes x (List.mem_of_mem_take hx))
    have HTS := Lib.hid (show T ≤ 140737488355328 by omega)
    clear c0 c1 hfz e0 e1 hfz1
    obtain ⟨c0, c1, hfz⟩ := cells2M g5
    obtain ⟨e0, e1, hfz1⟩ := cells2M J5.out
    clear KC o5 g5 b5 hb5
    by_cases hc1 : d1 = T
    · have hn1T : n1 = T := by omega
      subst hc1 hn1T
      go_wp2
      clear c0 c1 hfz e0 e1 hfz1
      rw [HTB.out, HTR.out, HTT.out, HTL.out]
      have hz : ∀ x y z : Value, w5.grownBy (w5.setCell ⟨b, 0, none⟩ x) (some b) ∧ (w5.setCell ⟨b, 0, none⟩ x).grownBy (((w5.setCell ⟨b, 0, none⟩ x).setCell ⟨b + 1, 0, none⟩ y).setCell ⟨b + 1, 1, none⟩ z) (some (b + 1)) := fun x y z => ⟨grownBy_setCellM w5 ⟨b, 0, none⟩ x, (grownBy_setCellM _ ⟨b + 1, 0, none⟩ y).trans (grownBy_setCellM _ ⟨b + 1, 1, none⟩ z)⟩
      refine bodyPost_ret (results_scan rfl (set2X _ _ ((heap_setCell_other w5 ⟨b, 0, none⟩ (b + 1) _ (by simp)).trans J5.out)) _ rfl) rfl ⟨_, _, _, a5, c5, rfl, bytesV_none (List.drop_eq_nil_of_le (by omega)) (fun _ => rfl), ?_, ⟨HBT.out, HTS.out⟩, ?_⟩
      · exact ownsRow_base ((O5.out.kept (hz _ (.int .i64 0) (.int .i64 0)).1 (.inr HNE.out.1)).kept (hz _ _ _).2 (.inr HNE.out.2)) HB24.out
      · have hbb := HBB.out
        exact ((B5.out.setCell (p := ⟨b, 0, none⟩) (Nat.le_of_eq hbb.symm) _).setCell (p := ⟨b + 1, 0, none⟩) (by show w.heap.size ≤ b + 1; omega) _).setCell (p := ⟨b + 1, 1, none⟩) (by show w.heap.size ≤ b + 1; omega) _
    · obtain ⟨x, rfl⟩ : ∃ x, a1 = some x := by
        cases h1 : a1 with
        | some x => exact ⟨x, rfl⟩
        | none => have := HY.out.nil h1; simp only at this; omega
      go_wp2
      clear c0 c1 hfz e0 e1 hfz1
      rw [HTB.out, HTR.out, HTT.out, HTL.out]
      have hz : ∀ x y z : Value, w5.grownBy (w5.setCell ⟨b, 0, none⟩ x) (some b) ∧ (w5.setCell ⟨b, 0, none⟩ x).grownBy (((w5.setCell ⟨b, 0, none⟩ x).setCell ⟨b + 1, 0, none⟩ y).setCell ⟨b + 1, 1, none⟩ z) (some (b + 1)) := fun x y z => ⟨grownBy_setCellM w5 ⟨b, 0, none⟩ x, (grownBy_setCellM _ ⟨b + 1, 0, none⟩ y).trans (grownBy_setCellM _ ⟨b + 1, 1, none⟩ z)⟩
      refine bodyPost_ret (results_scan rfl (set2X _ _ ((heap_setCell_other w5 ⟨b, 0, none⟩ (b + 1) _ (by simp)).trans J5.out)) _ rfl) rfl ⟨_, _, _, a5, c5, rfl, bytesV_dropB HY.out rfl (by omega), ?_, ⟨HBT.out, HTS.out⟩, ?_⟩
      · exact ownsRow_base ((O5.out.kept (hz _ (.int .i64 0) (.int .i64 0)).1 (.inr HNE.out.1)).kept (hz _ _ _).2 (.inr HNE.out.2)) HB24.out
      · have hbb := HBB.out
        exact ((B5.out.setCell (p := ⟨b, 0, none⟩) (Nat.le_of_eq hbb.symm) _).setCell (p := ⟨b + 1, 0, none⟩) (by show w.heap.size ≤ b + 1; omega) _).setCell (p := ⟨b + 1, 1, none⟩) (by show w.heap.size ≤ b + 1; omega) _
end Go.Proofs.Ytikjcmijmhmilaa
