/-
  net: the reference's Double.
-/
import Derived.Test.YtbkbkhinpeoflaaNeP
import Derived.StillTailTactics
namespace Go.Proofs.Ytbkbkhinpeoflaa
open Go.RowKit

set_option maxRecDepth 100000 in
set_option maxHeartbeats 8000000 in
theorem refDouble_own (aT : Option Addr) (cT : Nat) (aD : Option Addr) (cD n : Nat) (ts : List Int) (bs : List (List Nat)) (cnt : Int) (i : Nat) (t : Int) (l : List Nat) (w : World) (hs : List (Option Addr × Nat × Nat)) (hV : RowV w aD n (hs.map SV)) (hRw : RowsV w hs bs)
    (h : RefN w aT cT aD cD n ts bs) (ht : ts[i]? = some t) (hl : bs[i]? = some l) (hn : n < 400) (h0 : 0 ≤ cnt) (h1 : cnt ≤ 1000000000) :
    Calls Try.prog 19 #[.agg #[.slice aT n cT, .slice aD n cD, .int .i64 cnt], .int .i64 (i : Nat)] w fun e w' => ∃ wz aT' cT' aD' cD', w.heap.size ≤ wz.heap.size ∧ e = .returned (.tuple #[.agg #[.slice aT' (n + 1) cT', .slice aD' (n + 1) cD', .int .i64 (cnt + 1)], .bool true]) ∧ SendRes wz w' n ts t hs l aT' cT' aD' cD' ∧ Below w.heap.size w w' := by
  have hts : ts.length = n := h.ints.length
  have hi : i < n := by have := (List.getElem?_eq_some_iff.1 ht).1; omega
  obtain ⟨hA, hR, hb, hsz⟩ := two_boxes w (.slice aT n cT) (.slice aD n cD) (.int .i64 cnt) (.slice none 0 0) (.slice none 0 0) (.int .i64 0)
  unfold RT at hA hR hb hsz
  have hhs : hs.length = n := by have := hV.1; simpa using this
  obtain ⟨⟨ab, nb, cb⟩, hx⟩ : ∃ x, hs[i]? = some x := ⟨_, List.getElem?_eq_getElem (by omega)⟩
  have hB := (hRw.2 i _ l hx hl).below hb
  have hH := h.below hb
  have hV0 := hV.below hb
  obtain ⟨b, o, e1, hc⟩ := (h.ints.below hb).row.2 (by simp; omega)
  simp only at e1 hc
  have hc1 := hc i hi
  rw [List.getElem?_map, ht] at hc1
  simp only [Option.map_some, iv] at hc1
  obtain ⟨b', o', e2, hd⟩ := (hV.below hb).2 (by omega)
  have hd1 := hd i hi
  rw [List.getElem?_map, hx] at hd1
  unfold SV at hd1
  simp only [Option.map_some] at hd1
  have hb1 : b ≠ w.heap.size + 1 := by have := h.ints.row.lt (a := ⟨b, o, none⟩) (by simp; omega) e1; simp only at this; omega
  have hb2 : b' ≠ w.heap.size + 1 := by have := hV.lt (a := ⟨b', o', none⟩) (by omega) e2; simp only at this; omega
  subst e1 e2
  obtain ⟨p0, p1, p2, pF⟩ := box3_cells hA
  have hsm := h.ints.small
  have hcT := h.ints.cap
  have hcD := h.cap
  simp only at hsm hcT
  clear h ht hl hc hd hts hhs hx hV
  clear hRw
  go_enter Try.func19, Try.ntmps19
  go_wp2
  generalize hww : (w.alloc (.cells #[.slice (some ⟨b, o, none⟩) n cT, .slice (some ⟨b', o', none⟩) n cD, .int .i64 cnt] 29)).alloc (.cells #[.slice none 0 0, .slice none 0 0, .int .i64 0] 29) = w0 at hA hR hb hsz hB hH hV0 hc1 hd1 p0 p1 p2 pF ⊢
  clear hww
  have KS := fun (w' : World) h0' h1' h2' => refSend_own (some ⟨b, o, none⟩) cT (some ⟨b', o', none⟩) cD n ts bs cnt t ab nb cb l w' hs h0' h1' h2' hn h0 h1
  go_region_held3 (fun w' => w'.cell? ⟨w.heap.size, 0, none⟩ = some (.slice (some ⟨b, o, none⟩) n cT) ∧ w'.cell? ⟨w.heap.size, 1, none⟩ = some (.slice (some ⟨b', o', none⟩) n cD) ∧ w'.cell? ⟨w.heap.size, 2, none⟩ = some (.int .i64 cnt) ∧ w'.cell? ⟨b, o + i, none⟩ = some (.int .i64 t) ∧ w'.cell? ⟨b', o' + i, none⟩ = some (.slice ab nb cb)) (first | exact ⟨q0, q1, q2, hc5, hd5⟩ | exact ⟨u0, u1, u2, hc6, hd6⟩ | exact ⟨p0, p1, p2, hc1, hd1⟩ | go_keep)
    (first
      | (go_at_call 11; (with_reducible refine (KS _ ?hv ?h1 ?h2).mono ?_); (case hv => exact hV0.below ⟨rfl, rfl, rfl, Nat.le_refl _, fun _ _ => rfl⟩); (case h1 => exact hH.below ⟨rfl, rfl, rfl, Nat.le_refl _, fun _ _ => rfl⟩); (case h2 => exact hB.below ⟨rfl, rfl, rfl, Nat.le_refl _, fun _ _ => rfl⟩); rintro e w5 ⟨a5, c5, a6, c6, rfl, hN5, b5⟩; have b5' : Below w0.heap.size w0 w5 := ⟨b5.os, b5.tape, b5.output, b5.size, b5.block⟩; have hA5 := box_below hA b5'; have hR5 := box_below hR b5'; obtain ⟨q0, q1, q2, qF⟩ := box3_cells hA5; obtain ⟨r0, r1, r2, rF⟩ := box3_cells hR5; have hc5 := (World.cell?_of_block (a := ⟨b, o + i, none⟩) (b5'.block b (block_lt_of_cell hc1))).trans hc1; have hd5 := (World.cell?_of_block (a := ⟨b', o' + i, none⟩) (b5'.block b' (block_lt_of_cell hd1))).trans hd1; have hb5 := hb.trans (b5'.mono hb.size); have hA6 : (set3 w5 (w.heap.size + 1) (.slice a5 (n + 1) c5) (.slice a6 (n + 1) c6) (.int .i64 (cnt + 1))).heap[w.heap.size]? = _ := set_other (c := w.heap.size + 1) (i := 2) (set_other (c := w.heap.size + 1) (i := 1) (set_other (c := w.heap.size + 1) (i := 0) hA5 (by omega) _) (by omega) _) (by omega) _; obtain ⟨u0, u1, u2, uF⟩ := box3_cells hA6; have hk6 : ∀ x, x ≠ w.heap.size + 1 → (set3 w5 (w.heap.size + 1) (.slice a5 (n + 1) c5) (.slice a6 (n + 1) c6) (.int .i64 (cnt + 1))).heap[x]? = w5.heap[x]? := fun x hx => ((heap_setCell_other _ ⟨_, 2, none⟩ x _ hx).trans (heap_setCell_other _ ⟨_, 1, none⟩ x _ hx)).trans (heap_setCell_other _ ⟨_, 0, none⟩ x _ hx); have hc6 := (World.cell?_of_block (a := ⟨b, o + i, none⟩) (hk6 b hb1)).trans hc5; have hd6 := (World.cell?_of_block (a := ⟨b', o' + i, none⟩) (hk6 b' hb2)).trans hd5))
  all_goals go_wp2
  all_goals
    have hb9 := set3_below (g := w.heap.size + 1) hb5 (by omega) (.slice a5 (n + 1) c5) (.slice a6 (n + 1) c6) (.int .i64 (cnt + 1))
    exact bodyPost_ret (v := .tuple #[.agg #[.slice a5 (n + 1) c5, .slice a6 (n + 1) c6, .int .i64 (cnt + 1)], .bool true]) (results_rdouble _ _ _ _ _ rfl rfl (set3_same (.slice a5 (n + 1) c5) (.slice a6 (n + 1) c6) (.int .i64 (cnt + 1)) hR5) rfl) rfl ⟨w0, a5, c5, a6, c6, (by omega), rfl, hN5.set (c := w.heap.size + 1) (by show w.heap.size + 1 < w0.heap.size + 2; omega) _ _ _, hb9⟩
end Go.Proofs.Ytbkbkhinpeoflaa
