/-
  net: the reference's Lose.
-/
import Derived.Test.YtbkbkhinpeoflaaNeQ
namespace Go.Proofs.Ytbkbkhinpeoflaa
open Go.RowKit

theorem RowV.takeR {w : World} {ad : Option Addr} {n d : Nat} {vs : List Value} (h : RowV w ad n vs) (hd : d ≤ n) : RowV w ad d (vs.take d) := by
  refine ⟨by simp [h.1]; omega, fun h0 => ?_⟩
  obtain ⟨b, o, e, hc⟩ := h.2 (by omega)
  exact ⟨b, o, e, fun i hi => by rw [hc i (by omega), List.getElem?_take, if_pos hi]⟩
theorem RowV.dropR {w : World} {b o n d : Nat} {vs : List Value} (h : RowV w (some ⟨b, o, none⟩) n vs) (hd : d ≤ n) : RowV w (some ⟨b, o + d, none⟩) (n - d) (vs.drop d) := by
  refine ⟨by simp [h.1], fun h0 => ⟨b, o + d, rfl, fun i hi => ?_⟩⟩
  obtain ⟨b', o', e, hc⟩ := h.2 (by omega)
  cases e
  rw [List.getElem?_drop, ← hc (d + i) (by omega), Nat.add_assoc]
theorem IntsV.takeR {w : World} {aT : Option Addr} {n cT d : Nat} {ts : List Int} (h : IntsV w (aT, n, cT) ts) (hd : d ≤ n) : IntsV w (aT, d, cT) (ts.take d) :=
  ⟨by have := h.row.takeR (d := d) hd; rw [← List.map_take] at this; exact this, Nat.le_trans hd h.small, Nat.le_trans hd h.cap, h.nil⟩
/-- the rest of a row behind d, as s[d:] answers it: at the end of the room it is empty at the old place. -/
theorem RowV.rest {w : World} {b o n c d : Nat} {vs : List Value} (h : RowV w (some ⟨b, o, none⟩) n vs) (hd : d ≤ n) (hc : n ≤ c) : RowV w (if c - d = 0 then some ⟨b, o, none⟩ else some ⟨b, o + d, none⟩) (n - d) (vs.drop d) := by
  by_cases h0 : c - d = 0
  · rw [if_pos h0]
    have : n - d = 0 := by omega
    exact ⟨by simp [h.1], fun h1 => by omega⟩
  · rw [if_neg h0]
    exact h.dropR hd

set_option maxRecDepth 100000 in
set_option maxHeartbeats 8000000 in
theorem refLose_own (aT : Option Addr) (cT : Nat) (aD : Option Addr) (cD n : Nat) (ts : List Int) (bs : List (List Nat)) (cnt : Int) (i : Nat) (w : World)
    (hs : List (Option Addr × Nat × Nat)) (hV : RowV w aD n (hs.map SV)) (h : RefN w aT cT aD cD n ts bs) (hi : i < n) (hn : n ≤ 400) :
    Calls Try.prog 17 #[.agg #[.slice aT n cT, .slice aD n cD, .int .i64 cnt], .int .i64 (i : Nat)] w fun e w' => ∃ aT' cT' aD' cD', e = .returned (.tuple #[.agg #[.slice aT' (i + (n - (i + 1))) cT', .slice aD' (i + (n - (i + 1))) cD', .int .i64 cnt], .bool true]) ∧ w'.ownsRow (w.heap.size + 2) 3 1 (.slice aT' (i + (n - (i + 1))) cT') (i + (n - (i + 1))) ((ts.take i).map iv ++ (ts.drop (i + 1)).map iv) ∧ w'.ownsRow (w.heap.size + 2) 31 1 (.slice aD' (i + (n - (i + 1))) cD') (i + (n - (i + 1))) ((hs.take i).map SV ++ (hs.drop (i + 1)).map SV) ∧ Below w.heap.size w w' := by
  obtain ⟨j0, ji, jz0, jz1, jz2⟩ := info_parts Try.info3
  obtain ⟨i0, hi', hz0, hz1, hz2⟩ := info_parts Try.info31
  have hts : ts.length = n := h.ints.length
  have hcT := h.ints.cap
  have hcD := h.cap
  simp only at hcT
  have hti : (ts.take i).length = i := by rw [List.length_take, hts]; omega
  obtain ⟨b, o, e1, -⟩ := h.ints.row.2 (by simp; omega)
  obtain ⟨b', o', e2, -⟩ := hV.2 (by omega)
  simp only at e1
  subst e1 e2
  obtain ⟨hA, hR, hb, hsz⟩ := two_boxes w (.slice (some ⟨b, o, none⟩) n cT) (.slice (some ⟨b', o', none⟩) n cD) (.int .i64 cnt) (.slice none 0 0) (.slice none 0 0) (.int .i64 0)
  unfold RT at hA hR hb hsz
  have hIT := h.ints.takeR (d := i) (by omega)
  have hID := h.ints.row.rest (c := cT) (d := i + 1) (by simp; omega) (by simpa using hcT)
  have hDT := hV.takeR (d := i) (by omega)
  have hDD := hV.rest (c := cD) (d := i + 1) (by omega) hcD
  simp only at hID
  rw [← List.map_drop] at hID hDD
  rw [← List.map_take] at hDT
  obtain ⟨p0, p1, p2, pF⟩ := box3_cells hA
  have B1 : i + (n - (i + 1)) ≤ maxLen := by unfold maxLen; omega
  have B2 : (i + (n - (i + 1))) * 24 ≤ 140737488355328 := by omega
  have HTI := Lib.hid hti
  clear hti hts h hV
  have H1 := Lib.hid hIT
  have F1 := Lib.hid (fun h0 : cT - (i + 1) = 0 => by have := hID; rw [if_pos h0] at this; exact this : cT - (i + 1) = 0 → RowV w (some ⟨b, o, none⟩) (n - (i + 1)) ((ts.drop (i + 1)).map iv))
  have F2 := Lib.hid (fun h0 : ¬ cT - (i + 1) = 0 => by have := hID; rw [if_neg h0] at this; exact this : ¬ cT - (i + 1) = 0 → RowV w (some ⟨b, o + (i + 1), none⟩) (n - (i + 1)) ((ts.drop (i + 1)).map iv))
  have F3 := Lib.hid hDT
  have F4 := Lib.hid (fun h0 : cD = i + 1 => by have := hDD; rw [if_pos (by omega)] at this; exact this : cD = i + 1 → RowV w (some ⟨b', o', none⟩) (n - (i + 1)) ((hs.drop (i + 1)).map SV))
  have F5 := Lib.hid (fun h0 : ¬ cD = i + 1 => by have := hDD; rw [if_neg (by omega)] at this; exact this : ¬ cD = i + 1 → RowV w (some ⟨b', o' + (i + 1), none⟩) (n - (i + 1)) ((hs.drop (i + 1)).map SV))
  clear hIT hID hDT hDD
  have H1b := Lib.hid (H1.out.below hb)
  clear H1
  go_enter Try.func17, Try.ntmps17
  go_wp2_with fail
  generalize hww : (w.alloc (.cells #[.slice (some ⟨b, o, none⟩) n cT, .slice (some ⟨b', o', none⟩) n cD, .int .i64 cnt] 29)).alloc (.cells #[.slice none 0 0, .slice none 0 0, .int .i64 0] 29) = w0 at hA hR hb hsz H1b p0 p1 p2 pF ⊢
  clear hww
  (with_reducible refine (copyInts_any _ _ _ (ts.take i) _ H1b.out (by omega)).mono ?_)
  rintro e w1 ⟨a1, c1, rfl, t1, b1⟩
  rw [HTI.out] at t1 ⊢
  have hA1 := box_below hA b1
  have hR1 := box_below hR b1
  have hb1 := hb.trans (b1.mono hb.size)
  have hs1 := b1.size
  rw [hsz] at t1 hs1
  obtain ⟨q0, q1, q2, qF⟩ := box3_cells hA1
  clear hA hR hb b1 H1b p0 p1 p2 pF
  go_wp2_with (first | (at_builtin; refine Hid.out ?_))
  all_goals
    refine Lib.hid ?_
    refine wpList_append_row rfl _ _ 26 rfl (w.heap.size + 2) 3 j0 (.int .i64 0) 8 Try.underlying26 ji jz0 jz1 jz2 rfl _ _ _ rfl t1 _ (n - (i + 1)) _ ((ts.drop (i + 1)).map iv) rfl (by first | exact (F1.out (by omega)).below hb1 | exact (F2.out (by omega)).below hb1) (fun h => by cases h) (iv_ones _) (by simp [maxLen]; omega) (by omega) (by omega) ?_
    intro v2 w2 t2 g2 _
    obtain ⟨a2, c2, rfl, -⟩ := ownsRow_parts t2
    have hne2 : ∀ k, (Value.slice a1 i c1).ownBlock = some k → w.heap.size + 2 ≤ k := fun k hk => (t1.lt k hk).1
    have hA2 := box_grown hA1 g2 (fun e => by have := hne2 _ e; omega)
    have hR2 := box_grown hR1 g2 (fun e => by have := hne2 _ e; omega)
    have hb2 := below_grown hb1 g2 (fun k hk => by have := hne2 k hk; omega)
    have hs2 : w1.heap.size ≤ w2.heap.size := g2.size
    obtain ⟨m, hm⟩ : ∃ m, m = i + (n - (i + 1)) := ⟨_, rfl⟩
    have hmn : m + 1 = n := by omega
    rw [← hm] at t2 ⊢
    have HM := Lib.hid hm
    clear hm
    have hA3 := box3_set0 hA2 (.slice a2 m c2)
    have hR3 := set_other (c := w.heap.size) (i := 0) hR2 (by omega) (.slice a2 m c2)
    have hA3' := box_below hA3 (below_alloc _ (.cells #[] 31))
    obtain ⟨q0, q1, q2, qF⟩ := box3_cells hA3'
    obtain ⟨p0, p1, p2, pF⟩ := box3_cells hA2
    have hb3 := hb2.setCell (p := ⟨w.heap.size, 0, none⟩) (Nat.le_refl _) (.slice a2 m c2)
    have t3 := own_set_other (c := w.heap.size) (i := 0) t2 (by omega) (.slice a2 m c2)
    have d0 := World.ownsRow_made (base := w.heap.size + 2) (e := 31) (size := 1) (w2.setCell ⟨w.heap.size, 0, none⟩ (.slice a2 m c2)) #[] 0 (by simp [World.setCell]; omega) (by simp [maxLen]) rfl
    rw [show (w2.setCell ⟨w.heap.size, 0, none⟩ (.slice a2 m c2)).heap.size = w2.heap.size by simp [World.setCell]] at d0
    clear g2 hA1 hR1 hb1 t1 hne2
    go_wp2_with (first | (at_builtin; refine Hid.out ?_))
  all_goals
    refine Lib.hid ?_
    refine wpList_append_row rfl _ _ 27 rfl (w.heap.size + 2) 31 i0 (.slice none 0 0) 24 Try.underlying27 hi' hz0 hz1 hz2 rfl _ _ _ rfl d0 (some ⟨b', o', none⟩) i cD ((hs.take i).map SV) rfl (F3.out.below (hb3.alloc hb3.size _)) (fun h => by cases h) (SV_one (hs.take i)) (by simp [maxLen]; omega) (by omega) (by simp [World.setCell]; omega) ?_
    intro v4 w4 d4 g4 _
    have g4' : ((w2.setCell ⟨w.heap.size, 0, none⟩ (.slice a2 m c2)).alloc (.cells #[] 31)).grownBy w4 (Value.slice (some ⟨w2.heap.size, 0, none⟩) 0 0).ownBlock := g4
    have hne4 : (Value.slice (some ⟨w2.heap.size, 0, none⟩) 0 0).ownBlock ≠ some w.heap.size := by intro e; simp [Value.ownBlock] at e; omega
    have hne4' : (Value.slice (some ⟨w2.heap.size, 0, none⟩) 0 0).ownBlock ≠ some (w.heap.size + 1) := by intro e; simp [Value.ownBlock] at e; omega
    have hA4 := box_grown hA3' g4' hne4
    have hR4 := box_grown (box_below hR3 (below_alloc _ _)) g4' hne4'
    have hb4 := below_grown (hb3.alloc hb3.size _) g4' (fun k hk => by simp [Value.ownBlock] at hk; omega)
    have t4 := (t3.alloc (.cells #[] 31)).kept g4' (.inr (fun e => by have := (t2.lt w2.heap.size (e.trans rfl)).2; omega))
    have hs4 := g4'.size
    rw [Nat.zero_add, List.nil_append] at d4
    obtain ⟨a4, c4, rfl, -⟩ := ownsRow_parts d4
    clear g4 g4' hA3' hR3 hb3 t3 hne4 hne4' q0 q1 q2 qF hA3 p0 p1 p2 pF hA2 hR2 hb2 t2 d0
    rw [World.size_alloc] at hs4
    have hs4' : w2.heap.size + 1 ≤ w4.heap.size := by simpa [World.setCell] using hs4
    clear hs4
    have hbs4 : w.heap.size + 2 ≤ w4.heap.size := by omega
    obtain ⟨q0, q1, q2, qF⟩ := box3_cells hA4
    go_wp2_with (first | (at_builtin; refine Hid.out ?_))
  all_goals
    refine Lib.hid ?_
    refine wpList_append_row rfl _ _ 27 rfl (w.heap.size + 2) 31 i0 (.slice none 0 0) 24 Try.underlying27 hi' hz0 hz1 hz2 rfl _ _ _ rfl d4 _ (n - (i + 1)) _ ((hs.drop (i + 1)).map SV) rfl (by first | exact (F4.out (by assumption)).below hb4 | exact (F5.out (by assumption)).below hb4) (fun h => by cases h) (SV_one (hs.drop (i + 1))) B1 B2 hbs4 ?_
    intro v6 w6 d6 g6 _
    rw [← HM.out] at d6
    have hA6 := box_grown hA4 g6 (fun e => by have := (d4.lt _ e).1; omega)
    have hR6 := box_grown hR4 g6 (fun e => by have := (d4.lt _ e).1; omega)
    have hb6 := below_grown hb4 g6 (fun k hk => by have := (d4.lt k hk).1; omega)
    have t6 := t4.kept g6 (own_ne t4 d4 (by decide))
    obtain ⟨a6, c6, rfl, -⟩ := ownsRow_parts d6
    clear q0 q1 q2 qF
    obtain ⟨p0, p1, p2, pF⟩ := box3_cells hA6
    have hA7 := box3_set1 hA6 (.slice a6 m c6)
    have hR7 := set_other (c := w.heap.size) (i := 1) hR6 (by omega) (.slice a6 m c6)
    obtain ⟨q0, q1, q2, qF⟩ := box3_cells hA7
    obtain ⟨s0, s1, s2, sF⟩ := box3_cells hR7
    clear g6 hA4 hR4 t4 d4
    go_wp2
    have hb9 := set3_below (g := w.heap.size + 1) (hb6.setCell (p := ⟨w.heap.size, 1, none⟩) (Nat.le_refl _) (.slice a6 m c6)) (by omega) (.slice a2 m c2) (.slice a6 m c6) (.int .i64 cnt)
    have t9 := own_set3 (c := w.heap.size + 1) (own_set_other (c := w.heap.size) (i := 1) t6 (by omega) (.slice a6 m c6)) (by omega) (.slice a2 m c2) (.slice a6 m c6) (.int .i64 cnt)
    have d9 := own_set3 (c := w.heap.size + 1) (own_set_other (c := w.heap.size) (i := 1) d6 (by omega) (.slice a6 m c6)) (by omega) (.slice a2 m c2) (.slice a6 m c6) (.int .i64 cnt)
    rw [← HM.out]
    exact bodyPost_ret (v := .tuple #[.agg #[.slice a2 m c2, .slice a6 m c6, .int .i64 cnt], .bool true]) (results_rlose _ _ _ _ _ rfl rfl (set3_same (.slice a2 m c2) (.slice a6 m c6) (.int .i64 cnt) hR7) rfl) rfl ⟨a2, c2, a6, c6, rfl, t9, d9, hb9⟩
end Go.Proofs.Ytbkbkhinpeoflaa
