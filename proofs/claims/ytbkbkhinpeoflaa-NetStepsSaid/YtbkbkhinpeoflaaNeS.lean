/-
  net: the reference's Lose as a value; Take.
-/
import Derived.Test.YtbkbkhinpeoflaaNeR
import Derived.Test.YtbkbkhinpeoflaaNeM
namespace Go.Proofs.Ytbkbkhinpeoflaa
open Go.RowKit

theorem split_erase {α : Type} (l : List α) (i : Nat) : l.take i ++ l.drop (i + 1) = l.eraseIdx i := (List.eraseIdx_eq_take_drop_succ l i).symm
theorem rowsV_erase {w : World} {hs : List (Option Addr × Nat × Nat)} {bs : List (List Nat)} (h : RowsV w hs bs) (i : Nat) : RowsV w (hs.eraseIdx i) (bs.eraseIdx i) := by
  refine ⟨by rw [List.length_eraseIdx, List.length_eraseIdx, h.1], fun j x l h1 h2 => ?_⟩
  rw [eraseIdx_get] at h1 h2
  by_cases hj : j < i
  · rw [if_pos hj] at h1 h2
    exact h.2 j x l h1 h2
  · rw [if_neg hj] at h1 h2
    exact h.2 (j + 1) x l h1 h2
theorem lost_ref {w w' : World} {B m i : Nat} {a2 a6 : Option Addr} {c2 c6 : Nat} {ts : List Int} {hs : List (Option Addr × Nat × Nat)} {bs : List (List Nat)} (hm : m ≤ 400)
    (t : w'.ownsRow B 3 1 (.slice a2 m c2) m ((ts.take i).map iv ++ (ts.drop (i + 1)).map iv)) (d : w'.ownsRow B 31 1 (.slice a6 m c6) m ((hs.take i).map SV ++ (hs.drop (i + 1)).map SV)) (hR : RowsV w hs bs) (hb : Below w.heap.size w w') :
    RefN w' a2 c2 a6 c6 m (ts.eraseIdx i) (bs.eraseIdx i) := by
  rw [← List.map_append, split_erase] at t d
  refine ⟨intsV_own t (by omega), ⟨hs.eraseIdx i, ?_, (rowsV_erase hR i).below hb⟩, ?_, ?_⟩
  · obtain ⟨_, _, e, _, _, _, h⟩ := ownsRow_parts d
    cases e
    exact h
  · obtain ⟨_, _, e, _, h, _⟩ := ownsRow_parts d
    cases e
    exact h
  · intro ea
    obtain ⟨_, _, e, hc, _⟩ := ownsRow_parts d
    cases e
    rcases hc with ⟨_, _, h⟩ | ⟨gg, hgg, _⟩
    · exact h
    · rw [ea] at hgg; cases hgg

theorem refLose_any (aT : Option Addr) (cT : Nat) (aD : Option Addr) (cD n m : Nat) (ts : List Int) (bs : List (List Nat)) (cnt : Int) (i : Nat) (w : World) (h : RefN w aT cT aD cD n ts bs) (hi : i < n) (hn : n ≤ 400) (hm : m + 1 = n) :
    Calls Try.prog 17 #[.agg #[.slice aT n cT, .slice aD n cD, .int .i64 cnt], .int .i64 (i : Nat)] w fun e w' => ∃ aT' cT' aD' cD', e = .returned (.tuple #[.agg #[.slice aT' m cT', .slice aD' m cD', .int .i64 cnt], .bool true]) ∧ RefN w' aT' cT' aD' cD' m (ts.eraseIdx i) (bs.eraseIdx i) ∧ Below w.heap.size w w' := by
  obtain ⟨hs, hV, hR⟩ := h.rows
  refine (refLose_own aT cT aD cD n ts bs cnt i w hs hV h hi hn).mono fun e w' ⟨a, b, c, d, he, h1, h2, hb⟩ => ?_
  have e1 : i + (n - (i + 1)) = m := by omega
  rw [e1] at he h1 h2
  exact ⟨a, b, c, d, he, lost_ref (by omega) h1 h2 hR hb, hb⟩

set_option maxRecDepth 100000 in
set_option maxHeartbeats 8000000 in
theorem refTake_own (aT : Option Addr) (cT : Nat) (aD : Option Addr) (cD n m : Nat) (ts : List Int) (bs : List (List Nat)) (cnt : Int) (i : Nat) (t : Int) (w : World) (hs : List (Option Addr × Nat × Nat)) (ab : Option Addr) (nb cb : Nat) (hV : RowV w aD n (hs.map SV))
    (h : RefN w aT cT aD cD n ts bs) (ht : ts[i]? = some t) (hx : hs[i]? = some (ab, nb, cb)) (hn : n ≤ 400) (hm : m + 1 = n) :
    Calls Try.prog 14 #[.agg #[.slice aT n cT, .slice aD n cD, .int .i64 cnt], .int .i64 (i : Nat)] w fun e w' => ∃ aT' cT' aD' cD', e = .returned (.tuple #[.agg #[.slice aT' m cT', .slice aD' m cD', .int .i64 cnt], .int .i64 t, .slice ab nb cb, .bool true]) ∧ w'.ownsRow (w.heap.size + 2) 3 1 (.slice aT' m cT') m ((ts.take i).map iv ++ (ts.drop (i + 1)).map iv) ∧ w'.ownsRow (w.heap.size + 2) 31 1 (.slice aD' m cD') m ((hs.take i).map SV ++ (hs.drop (i + 1)).map SV) ∧ Below w.heap.size w w' := by
  have hts : ts.length = n := h.ints.length
  have hi : i < n := by have := (List.getElem?_eq_some_iff.1 ht).1; omega
  obtain ⟨hA, hR, hb, hsz⟩ := two_boxes w (.slice aT n cT) (.slice aD n cD) (.int .i64 cnt) (.slice none 0 0) (.slice none 0 0) (.int .i64 0)
  unfold RT at hA hR hb hsz
  have hH := h.below hb
  obtain ⟨b, o, e1, hc⟩ := (h.ints.below hb).row.2 (by simp; omega)
  simp only at e1 hc
  have hc1 := hc i hi
  rw [List.getElem?_map, ht] at hc1
  simp only [Option.map_some, iv] at hc1
  have hV0 := hV.below hb
  obtain ⟨b', o', e2, hd⟩ := hV0.2 (by omega)
  have hd1 := hd i hi
  rw [List.getElem?_map, hx] at hd1
  unfold SV at hd1
  simp only [Option.map_some] at hd1
  subst e1 e2
  obtain ⟨p0, p1, p2, pF⟩ := box3_cells hA
  have hcT := h.ints.cap
  have hcD := h.cap
  simp only at hcT
  have hm2 : i + (n - (i + 1)) = m := by omega
  have HM := Lib.hid hm2
  clear h ht hc hd hts hx hV hm2 hm
  have HH := Lib.hid hH
  have HV := Lib.hid hV0
  clear hH hV0
  go_enter Try.func14, Try.ntmps14
  go_wp2_with fail
  generalize hww : (w.alloc (.cells #[.slice (some ⟨b, o, none⟩) n cT, .slice (some ⟨b', o', none⟩) n cD, .int .i64 cnt] 29)).alloc (.cells #[.slice none 0 0, .slice none 0 0, .int .i64 0] 29) = w0 at hA hR hb hsz HH HV hc1 hd1 p0 p1 p2 pF ⊢
  clear hww
  (with_reducible refine (refLose_own _ _ _ _ _ _ _ _ _ _ hs HV.out HH.out hi hn).mono ?_)
  rintro e w1 ⟨a5, c5, a6, c6, rfl, t5, d5, b1⟩
  rw [HM.out] at t5 d5 ⊢
  have hA1 := box_below hA b1
  have hR1 := box_below hR b1
  have hb1 := hb.trans (b1.mono hb.size)
  have hsz1 := b1.size
  rw [hsz] at hsz1
  clear hA hR hb b1 HH HV hc1 hd1 p0 p1 p2 pF
  obtain ⟨p0, p1, p2, pF⟩ := box3_cells hA1
  have hA2 := set3_same (.slice a5 m c5) (.slice a6 m c6) (.int .i64 cnt) hA1
  have hR2 : (set3 w1 w.heap.size (.slice a5 m c5) (.slice a6 m c6) (.int .i64 cnt)).heap[w.heap.size + 1]? = some (.cells #[.slice none 0 0, .slice none 0 0, .int .i64 0] 29 (0, 0)) := set_other (c := w.heap.size) (i := 2) (set_other (c := w.heap.size) (i := 1) (set_other (c := w.heap.size) (i := 0) hR1 (by omega) _) (by omega) _) (by omega) _
  obtain ⟨q0, q1, q2, qF⟩ := box3_cells hA2
  obtain ⟨s0, s1, s2, sF⟩ := box3_cells hR1
  go_wp2
  have hb3 := set3_below (g := w.heap.size) hb1 (Nat.le_refl _) (.slice a5 m c5) (.slice a6 m c6) (.int .i64 cnt)
  have hb9 := set3_below (g := w.heap.size + 1) hb3 (by omega) (.slice a5 m c5) (.slice a6 m c6) (.int .i64 cnt)
  rw [hsz] at t5 d5
  have t9 := own_set3 (c := w.heap.size + 1) (own_set3 (c := w.heap.size) t5 (by omega) (.slice a5 m c5) (.slice a6 m c6) (.int .i64 cnt)) (by omega) (.slice a5 m c5) (.slice a6 m c6) (.int .i64 cnt)
  have d9 := own_set3 (c := w.heap.size + 1) (own_set3 (c := w.heap.size) d5 (by omega) (.slice a5 m c5) (.slice a6 m c6) (.int .i64 cnt)) (by omega) (.slice a5 m c5) (.slice a6 m c6) (.int .i64 cnt)
  exact bodyPost_ret (v := .tuple #[.agg #[.slice a5 m c5, .slice a6 m c6, .int .i64 cnt], .int .i64 t, .slice ab nb cb, .bool true]) (results_rtake _ _ _ _ _ _ _ rfl rfl rfl rfl (set3_same (.slice a5 m c5) (.slice a6 m c6) (.int .i64 cnt) hR2) rfl) rfl ⟨a5, c5, a6, c6, rfl, ownsRow_base t9 (by omega), ownsRow_base d9 (by omega), hb9⟩
end Go.Proofs.Ytbkbkhinpeoflaa
