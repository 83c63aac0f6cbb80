/-
  rillref09's scan: a number taken.
-/
import Derived.Test.YtikjcmijmhmilaaMeZ
import Derived.Laws.ResultCell
namespace Go.Proofs.Ytikjcmijmhmilaa
open Go.RowKit

/-- the number that the first m bytes say. -/
def nOf (l : List Nat) : Nat → Nat
  | 0 => 0
  | m + 1 => nOf l m * 256 + l.getD m 0
theorem nOf_lt {l : List Nat} (h : Bytes l) : ∀ m, nOf l m < 256 ^ m
  | 0 => by simp [nOf]
  | m + 1 => by
    have k := nOf_lt h m
    have hx : l.getD m 0 < 256 := by
      by_cases e : m < l.length
      · rw [List.getD_eq_getElem?_getD, List.getElem?_eq_getElem e]; exact h _ (List.getElem_mem e)
      · rw [List.getD_eq_getElem?_getD, List.getElem?_eq_none (by omega)]; simp
    have e : 256 ^ (m + 1) = 256 ^ m * 256 := Nat.pow_succ ..
    simp only [nOf]
    omega
abbrev ST2 : TypeId := 69
theorem set2X {w : World} {g : Nat} {u0 u1 : Value} {T : TypeId} (x0 x1 : Value) (h : w.heap[g]? = some (.cells #[u0, u1] T (0, 0))) : ((w.setCell ⟨g, 0, none⟩ x0).setCell ⟨g, 1, none⟩ x1).heap[g]? = some (.cells #[x0, x1] T (0, 0)) := by
  have h0 : (w.setCell ⟨g, 0, none⟩ x0).heap[g]? = some (.cells #[x0, u1] T (0, 0)) := heap_setCell_same w g 0 _ _ _ h
  exact heap_setCell_same _ g 1 _ _ _ h0
theorem results_scan {fn : Func} {p u : Tmp} (hf : fn.results = #[.cell p ST2, .tmp u]) {w : World} {g : Nat} {v0 v1 : Value} (k : w.heap[g]? = some (.cells #[v0, v1] ST2 (0, 0))) (tmps : Array Value) (hp : tmps.getD p undef = .pointer (some ⟨g, 0, none⟩)) : (results fn tmps).run Try.prog w = .ok (.tuple #[.agg #[v0, v1], tmps.getD u undef]) w := by
  rw [results_cell_tmp hf, hp]
  simp only [asAddr, Sem.run_pure, Result.andThen_ok]
  rw [run_loadVar_row w g ST2 ST2 #[v0, v1] (0, 0) _ k Try.underlying69 rfl (by kernel_rfl)]
  rfl
theorem bytesV_sub1 {w : World} {b o n c : Nat} {l : List Nat} (h : BytesV w (some ⟨b, o, none⟩, n, c) l) (hn : 0 < n) : BytesV w (some ⟨b, o + 1, none⟩, n - 1, c - 1) (l.drop 1) := by
  have hl : l.length = n := h.length
  have hc : n ≤ c := h.cap
  have hs : n ≤ 140737488355328 := h.small
  refine ⟨⟨by simp [hl], fun h0 => ?_⟩, fun y hy => h.bytes y (List.mem_of_mem_drop hy), by simp only; omega, by simp only; omega, fun e => by cases e⟩
  simp only at h0
  obtain ⟨b', off, e, hcl⟩ := h.row.2 (by simp only; omega)
  injection e with e
  injection e with e1 e2
  subst e1 e2
  refine ⟨b, o + 1, rfl, fun i hi => ?_⟩
  simp only at hi
  rw [show o + 1 + i = o + (1 + i) by omega, hcl (1 + i) (by simp only; omega), List.getElem?_map, List.getElem?_map, List.getElem?_drop]
theorem bytesV_none {w : World} {a : Option Addr} {c : Nat} {l : List Nat} (hl : l = []) (h : a = none → c = 0) : BytesV w (a, 0, c) l := by
  subst hl
  exact ⟨⟨rfl, fun h => absurd h (by simp)⟩, fun x hx => (by cases hx), by simp, by simp, h⟩
set_option maxRecDepth 100000 in
set_option maxHeartbeats 8000000 in
theorem refNum_any (m : Nat) (ad : Option Addr) (n c : Nat) (bad : Bool) (l : List Nat) (u w : World) (hu : Below u.heap.size u w) (h : BytesV u (ad, n, c) l) (hm : m ≤ 4) :
    Calls Try.prog 37 #[.agg #[.slice ad n c, .bool bad], .int .i64 m] w fun e w' => ∃ a' n' c', e = .returned (.tuple #[.agg #[.slice a' n' c', .bool (bad || decide (l.length < m))], .int .i64 (if l.length < m then 0 else (nOf l m : Nat))]) ∧ BytesV u (a', n', c') (l.drop m) ∧ Below w.heap.size w w' := by
  have hln : l.length = n := h.length
  obtain ⟨b, hb⟩ : ∃ b, b = w.heap.size := ⟨_, rfl⟩
  obtain ⟨w1, hw1⟩ : ∃ x, x = w.alloc (.cells #[.slice ad n c, .bool bad] ST2) := ⟨_, rfl⟩
  have hs1 : w1.heap.size = b + 1 := by rw [hw1, hb]; simp
  obtain ⟨w2, hw2⟩ : ∃ x, x = w1.alloc (.cells #[.slice none 0 0, .bool false] ST2) := ⟨_, rfl⟩
  have k1 : w1.heap[b]? = some (.cells #[.slice ad n c, .bool bad] ST2 (0, 0)) := by rw [hw1, hb]; exact heap_alloc_new w _
  have k2 : w2.heap[b]? = some (.cells #[.slice ad n c, .bool bad] ST2 (0, 0)) := by rw [hw2, heap_alloc_old _ _ (by omega)]; exact k1
  have k3 : w2.heap[b + 1]? = some (.cells #[.slice none 0 0, .bool false] ST2 (0, 0)) := by rw [hw2, ← hs1]; exact heap_alloc_new w1 _
  have b2 : Below w.heap.size w w2 := by rw [hw2, hw1]; exact (below_alloc w _).trans ((below_alloc _ _).mono (by simp))
  have HW1 := Lib.hid hw1
  have HW2 := Lib.hid hw2
  have HBB := Lib.hid hb
  have K3 := Lib.hid k3
  have B2 := Lib.hid b2
  have HS2 := Lib.hid k2
  have HY2 : Hid (BytesV u (ad, n, c) (l.drop 0)) := Lib.hid (by rw [List.drop_zero]; exact h)
  have HL := Lib.hid h
  have HU := Lib.hid hu
  have HLN := Lib.hid hln
  clear hw1 hw2 hb k1 k2 k3 b2 h hs1 hu
  go_enter Try.func37, Try.ntmps37
  go_upto_region 1 with fail
  rw [← HBB.out, ← HW1.out, ← HW2.out]
  go_wp2_with fail
  go_loopw [6, 7] (fun vv vi wr => ∃ (i : Nat) (aj : Option Addr) (nj cj : Nat), i ≤ m ∧ i ≤ n ∧ vi = .int .i64 (i : Nat) ∧ vv = .int .i64 (nOf l i : Nat) ∧ Hid (wr.heap[b]? = some (.cells #[.slice aj nj cj, .bool bad] ST2 (0, 0))) ∧ Hid (BytesV u (aj, nj, cj) (l.drop i)) ∧ Hid (wr.heap[b + 1]? = some (.cells #[.slice none 0 0, .bool false] ST2 (0, 0))) ∧ Hid (Below w.heap.size w wr)) (fun _ vi _ => (m - intOf vi).toNat)
  case atStart => exact ⟨0, ad, n, c, Nat.zero_le _, Nat.zero_le _, rfl, rfl, HS2, HY2, K3, B2⟩
  case round =>
    clear HS2 HY2 K3 B2
    obtain ⟨i, aj, nj, cj, hi, hin, rfl, rfl, HC, HY, HK, HBr⟩ := hrel
    have hnj : n - i = nj := by have := HY.out.length; simp only [List.length_drop] at this; omega
    obtain ⟨c0, c1, hfz⟩ := cells2M HC.out
    obtain ⟨d0, d1, hfz1⟩ := cells2M HK.out
    by_cases hlt : i < m
    · by_cases he : nj = 0
      · subst he
        have hdm : l.drop m = [] := List.drop_eq_nil_of_le (by omega)
        have HDM := Lib.hid hdm
        have HNL := Lib.hid HY.out.nil
        clear hdm
        go_wp2
        clear d0 d1 hfz1 c0 c1 hfz HW1 HW2
        refine bodyPost_ret (results_scan rfl (g := b + 1) (v0 := .slice aj 0 cj) (v1 := .bool true) ?_ _ rfl) rfl ⟨aj, 0, cj, rfl, bytesV_none HDM.out HNL.out, ?_⟩
        · exact set2X _ _ ((heap_setCell_other wr ⟨b, 1, none⟩ (b + 1) _ (by simp)).trans HK.out)
        · have hbb := HBB.out
          exact (((HBr.out.setCell (p := ⟨b, 1, none⟩) (Nat.le_of_eq hbb.symm) _).setCell (p := ⟨b + 1, 0, none⟩) (by show w.heap.size ≤ b + 1; omega) _).setCell (p := ⟨b + 1, 1, none⟩) (by show w.heap.size ≤ b + 1; omega) _)
      · obtain ⟨g, o, rfl, hrow⟩ := HY.out.row.2 (by simp only; omega)
        have hx := hrow 0 (by simp only; omega)
        have hxe : (l.drop i)[0]? = some (l.getD i 0) := by
          rw [List.getElem?_drop, Nat.add_zero, List.getD_eq_getElem?_getD, List.getElem?_eq_getElem (show i < l.length by omega)]; rfl
        rw [List.getElem?_map, hxe] at hx
        obtain ⟨x, hxx⟩ : ∃ x, x = l.getD i 0 := ⟨_, rfl⟩
        rw [← hxx] at hx
        have hx8 : x < 256 := by rw [hxx, List.getD_eq_getElem?_getD, List.getElem?_eq_getElem (show i < l.length by omega)]; exact HL.out.bytes _ (List.getElem_mem _)
        have hgl : g < u.heap.size := World.block_lt_of_cell? u _ hx
        have hx1 : wr.cell? ⟨g, o, none⟩ = some (.int .u8 (x : Nat)) := ((HU.out.trans (HBr.out.mono HU.out.size)).cell (p := ⟨g, o, none⟩) hgl).trans hx
        have hv : nOf l i < 256 ^ i := nOf_lt HL.out.bytes i
        have h3 : 256 ^ i ≤ 256 ^ 3 := Nat.pow_le_pow_right (by decide) (by omega)
        have h4 : (256 : Nat) ^ 3 = 16777216 := by decide
        have hv3 : nOf l i < 16777216 := by rw [h4] at h3; exact Nat.lt_of_lt_of_le hv h3
        clear h3 h4
        have hcj := HY.out.cap
        have hsm := HY.out.small
        simp only at hcj hsm
        obtain ⟨V, hV⟩ : ∃ V, V = nOf l i := ⟨_, rfl⟩
        rw [← hV] at hv3
        have HV := Lib.hid hV
        have HX := Lib.hid hxx
        rw [← hV]
        have HNX := Lib.hid (show nOf l (i + 1) = V * 256 + x by rw [HV.out, HX.out]; rfl)
        clear hx hxe hxx hrow hv hV
        by_cases hc1 : cj = 1
        · have hnj1 : nj = 1 := by omega
          subst hc1 hnj1
          go_wp2
          go_roundw
          case rel => exact ⟨i + 1, _, _, _, by omega, by omega, by go_num, by rw [HNX.out]; go_num, Lib.hid (heap_setCell_same wr b 0 _ _ _ HC.out), Lib.hid (bytesV_none (List.drop_eq_nil_of_le (by omega)) (fun e => by cases e)), Lib.hid ((heap_setCell_other wr ⟨b, 0, none⟩ (b + 1) _ (by simp)).trans HK.out), Lib.hid (HBr.out.setCell (p := ⟨b, 0, none⟩) (Nat.le_of_eq HBB.out.symm) _)⟩
          case measure => simp [intOf]; omega
        · go_wp2
          go_roundw
          case rel => exact ⟨i + 1, _, _, _, by omega, by omega, by go_num, by rw [HNX.out]; go_num, Lib.hid (heap_setCell_same wr b 0 _ _ _ HC.out), Lib.hid (by have := bytesV_sub1 HY.out (by omega); rw [List.drop_drop] at this; exact this), Lib.hid ((heap_setCell_other wr ⟨b, 0, none⟩ (b + 1) _ (by simp)).trans HK.out), Lib.hid (HBr.out.setCell (p := ⟨b, 0, none⟩) (Nat.le_of_eq HBB.out.symm) _)⟩
          case measure => simp [intOf]; omega
    · obtain rfl : i = m := by omega
      go_wp2
      clear d0 d1 hfz1 c0 c1 hfz HW1 HW2
      have hbb := HBB.out
      have hbe : Below w.heap.size w ((wr.setCell ⟨b + 1, 0, none⟩ (.slice aj nj cj)).setCell ⟨b + 1, 1, none⟩ (.bool bad)) := ((HBr.out.setCell (p := ⟨b + 1, 0, none⟩) (by show w.heap.size ≤ b + 1; omega) _).setCell (p := ⟨b + 1, 1, none⟩) (by show w.heap.size ≤ b + 1; omega) _)
      refine bodyPost_ret (results_scan rfl (g := b + 1) (v0 := .slice aj nj cj) (v1 := .bool bad) (set2X _ _ HK.out) _ rfl) rfl ⟨aj, nj, cj, rfl, HY.out, hbe⟩
theorem refNum_is (m : Nat) (ad : Option Addr) (n c : Nat) (bad : Bool) (l : List Nat) (u w : World) (hu : Below u.heap.size u w) (h : BytesV u (ad, n, c) l) (hm : m ≤ 4) (v : Int) (hv : (m : Int) = v) :
    Calls Try.prog 37 #[.agg #[.slice ad n c, .bool bad], .int .i64 v] w fun e w' => ∃ a' n' c', e = .returned (.tuple #[.agg #[.slice a' n' c', .bool (bad || decide (l.length < m))], .int .i64 (if l.length < m then 0 else (nOf l m : Nat))]) ∧ BytesV u (a', n', c') (l.drop m) ∧ Below w.heap.size w w' := by
  subst hv
  exact refNum_any m ad n c bad l u w hu h hm
end Go.Proofs.Ytikjcmijmhmilaa
