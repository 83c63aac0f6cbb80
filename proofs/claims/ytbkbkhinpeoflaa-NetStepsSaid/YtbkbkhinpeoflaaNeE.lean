/-
  net: pull.
-/
import Derived.Test.YtbkbkhinpeoflaaNeD
namespace Go.Proofs.Ytbkbkhinpeoflaa
open Go.RowKit

set_option maxRecDepth 100000 in
set_option maxHeartbeats 4000000 in
theorem pull_no (g base : Nat) (v : Value) (sent : Int) (xs : List (Int × Hd)) (bs : List (List Nat)) (i : Int) (w : World) (h : NetV w g base v sent xs bs) (hi : i < 0 ∨ (xs.length : Int) ≤ i) :
    Calls Try.prog 26 #[.pointer (some ⟨g, 0, none⟩), .int .i64 i] w fun e w' => e = .returned (.tuple #[.agg #[.int .i64 0, .slice none 0 0], .bool false]) ∧ Below w.heap.size w w' := by
  have hA := heap_alloc_new w (.cells #[.int .i64 0, .slice none 0 0] 59)
  have hbA := below_alloc w (.cells #[.int .i64 0, .slice none 0 0] 59)
  have KA := at_no g base v sent xs bs i _ (h.below hbA) hi
  clear h hi
  go_enter Try.func26, Try.ntmps26
  go_wp2_with fail
  (with_reducible refine KA.mono ?_)
  rintro e w1 ⟨rfl, b1⟩
  have hA1 := (b1.block w.heap.size (by simp)).trans hA
  have hb1 := hbA.trans (b1.mono (by simp))
  clear hA KA b1
  have hA2 := (heap_alloc_old w1 (.cells #[.int .i64 0, .slice none 0 0] 59) (Array.getElem?_eq_some_iff.1 hA1).1).trans hA1
  obtain ⟨p0, p1, pF⟩ := box_cells hA2
  have HA2 := Lib.hid hA2
  clear hA1 hA2
  go_wp2
  exact bodyPost_ret (v := .tuple #[.agg #[.int .i64 0, .slice none 0 0], .bool false]) (results_pull _ _ _ _ _ rfl rfl (set2_same _ _ HA2.out) rfl) rfl ⟨rfl, set2_below (hb1.alloc hb1.size _) (Nat.le_refl _) _ _⟩

theorem set2_grown (w : World) (g : Nat) (v0 v1 : Value) : w.grownBy (set2 w g v0 v1) (some g) := grownBy_trans (grown_set w g 0 v0) (grown_set _ g 1 v1)
def PullGives (w : World) (g base : Nat) (v : Value) (sent : Int) (xs : List (Int × Hd)) (bs : List (List Nat)) (i : Nat) (x : Hd) (l : List Nat) (w' : World) : Prop :=
  ∃ v', NetV w' g base v' sent (xs.eraseIdx i) (bs.eraseIdx i) ∧ OnlyN w w' g v ∧ Follows w v v' ∧ w'.ownsRow base 5 1 (SV x) l.length (l.map bv) ∧ x.2.1 = l.length ∧ Bytes l ∧ l.length ≤ 140737488355328

theorem pull_end {w w2 w3 : World} {g base b m cap A i : Nat} {sent : Int} {xs : List (Int × Hd)} {bs : List (List Nat)} {x : Int × Hd} {l : List Nat} {a0 a1 : Value}
    (hN : NetV w2 g base (.slice (some ⟨b, 0, none⟩) m cap) sent xs bs) (hb : Below w.heap.size w w2) (hm : xs.length = m) (hi : i < m) (hg : w2.grownBy w3 (some b)) (o3 : w3.ownsRow base DT 2 (.slice (some ⟨b, 0, none⟩) (m - 1) cap) (m - 1) (dcells (xs.eraseIdx i)))
    (hA : w.heap.size ≤ A) (hA2 : A < w2.heap.size) (hA3 : w2.heap[A]? = some (.cells #[a0, a1] DT (0, 0))) (hne : b ≠ g) (hlg : g < w.heap.size) (hbw : b < w.heap.size) (hx : xs[i]? = some x) (hl : bs[i]? = some l) (z0 z1 : Value) :
    PullGives w g base (.slice (some ⟨b, 0, none⟩) m cap) sent xs bs i x.2 l (set2 (w3.setCell ⟨g, 0, none⟩ (.slice (some ⟨b, 0, none⟩) (m - 1) cap)) A z0 z1) := by
  have hsz := hb.size
  have hbx3 : w3.heap[g]? = some (.cells #[.slice (some ⟨b, 0, none⟩) m cap, .int .i64 sent] NT (0, 0)) := (hg.block g hN.lt (fun e => hne (by injection e with e; exact e.symm))).trans hN.box
  have hAx3 : w3.heap[A]? = some (.cells #[a0, a1] DT (0, 0)) := (hg.block A hA2 (fun e => by injection e with e; omega)).trans hA3
  have hgs := grown_set w3 g 0 (.slice (some ⟨b, 0, none⟩) (m - 1) cap)
  have hAx4 : (w3.setCell ⟨g, 0, none⟩ (.slice (some ⟨b, 0, none⟩) (m - 1) cap)).heap[A]? = some (.cells #[a0, a1] DT (0, 0)) := (heap_setCell_other _ ⟨g, 0, none⟩ A _ (by simp only; omega)).trans hAx3
  have hg5 := set2_grown (w3.setCell ⟨g, 0, none⟩ (.slice (some ⟨b, 0, none⟩) (m - 1) cap)) A z0 z1
  have key : ∀ (y : Hd) (k : Nat) (ys : List Value), w2.ownsRow base 5 1 (SV y) k ys → (set2 (w3.setCell ⟨g, 0, none⟩ (.slice (some ⟨b, 0, none⟩) (m - 1) cap)) A z0 z1).ownsRow base 5 1 (SV y) k ys := fun y k ys h => by
    have h3 := h.kept hg (by
      have := own_ne h hN.row (by decide)
      exact this)
    have h4 := h3.kept hgs (.inr (own_ne_box h3 hbx3 (by decide)))
    exact h4.kept hg5 (.inr (own_ne_box h4 hAx4 (by decide)))
  have hlen : (xs.eraseIdx i).length = m - 1 := by rw [List.length_eraseIdx, if_pos (by omega)]; omega
  have hown := hN.own.2 i x.2 l (by rw [List.getElem?_map, hx]; rfl) hl
  have hby := hN.bytes l (List.mem_of_getElem? hl)
  refine ⟨.slice (some ⟨b, 0, none⟩) (m - 1) cap, ⟨?_, ?_, ⟨?_, fun (j : Nat) (y : Hd) (q : List Nat) h1 h2 => ?_⟩, fun q hq => hN.bytes q (List.mem_of_mem_eraseIdx hq), hN.ge⟩, ⟨?_, ?_, ?_, ?_, ?_⟩, ?_, key _ _ _ hown.2, hown.1, hby⟩
  · rw [hg5.block g (by have := hg.size; have := hN.lt; simp [World.setCell]; omega) (fun e => by injection e with e; omega)]
    exact heap_setCell_same _ _ 0 _ _ _ hbx3
  · rw [hlen]
    have h4 := o3.kept hgs (.inr (own_ne_box o3 hbx3 (by decide)))
    exact h4.kept hg5 (.inr (by simp [Value.ownBlock]; omega))
  · have := hN.own.1
    simp only [List.length_map] at this
    rw [List.length_map, hlen, List.length_eraseIdx, if_pos (by omega)]
    omega
  · rw [List.getElem?_map, List.getElem?_eraseIdx] at h1
    rw [List.getElem?_eraseIdx] at h2
    have hk : ∃ k : Nat, (xs.map Prod.snd)[k]? = some y ∧ bs[k]? = some q := by
      by_cases hj : j < i
      · rw [if_pos hj] at h1 h2; exact ⟨j, by rw [List.getElem?_map]; exact h1, h2⟩
      · rw [if_neg hj] at h1 h2; exact ⟨j + 1, by rw [List.getElem?_map]; exact h1, h2⟩
    obtain ⟨k, k1, k2⟩ := hk
    have := hN.own.2 k y q k1 k2
    exact ⟨this.1, key _ _ _ this.2⟩
  · exact (hg5.os.trans (hgs.os.trans hg.os)).trans hb.os
  · exact (hg5.tape.trans (hgs.tape.trans hg.tape)).trans hb.tape
  · exact (hg5.output.trans (hgs.output.trans hg.output)).trans hb.output
  · have h1 := hg.size; have h2 := hg5.size; have h3 := hgs.size; omega
  · intro k h1 h2 h3
    have hkb : k ≠ b := fun e => h3 (by rw [e]; rfl)
    rw [hg5.block k (by have := hg.size; simp [World.setCell]; omega) (fun e => by injection e with e; omega), heap_setCell_other _ ⟨g, 0, none⟩ k _ h2, hg.block k (by omega) (fun e => hkb (by injection e))]
    exact hb.block k h1
  · intro k hk
    left
    simpa [Value.ownBlock] using hk

set_option maxRecDepth 100000 in
set_option maxHeartbeats 4000000 in
theorem pull_yes (g base : Nat) (v : Value) (sent : Int) (xs : List (Int × Hd)) (bs : List (List Nat)) (i : Nat) (x : Int × Hd) (l : List Nat) (w : World) (h : NetV w g base v sent xs bs) (hm4 : xs.length ≤ 400) (hx : xs[i]? = some x) (hl : bs[i]? = some l) :
    Calls Try.prog 26 #[.pointer (some ⟨g, 0, none⟩), .int .i64 (i : Nat)] w fun e w' => e = .returned (.tuple #[.agg #[.int .i64 x.1, SV x.2], .bool true]) ∧ PullGives w g base v sent xs bs i x.2 l w' := by
  have hA := heap_alloc_new w (.cells #[.int .i64 0, .slice none 0 0] 59)
  have hbA := below_alloc w (.cells #[.int .i64 0, .slice none 0 0] 59)
  have KA := at_yes g base v sent xs bs i x _ (h.below hbA) hx
  have hlg := h.lt
  have hi : i < xs.length := (List.getElem?_eq_some_iff.1 hx).1
  obtain ⟨b, cap, hv⟩ : ∃ b cap, v = .slice (some ⟨b, 0, none⟩) xs.length cap := by
    rcases h.row.2 with ⟨_, h0⟩ | ⟨g', cap, cur, e, _⟩
    · omega
    · exact ⟨g', cap, e⟩
  subst hv
  have hbw : b < w.heap.size := row_lt h.row rfl
  have hbg : b ≠ g := fun e => h.ne (by rw [e]; rfl)
  obtain ⟨to, a2, n2, c2⟩ := x
  have HX := Lib.hid hx
  unfold SV at KA ⊢
  simp only at KA ⊢
  obtain ⟨m, hm⟩ : ∃ m, m = xs.length := ⟨_, rfl⟩
  rw [← hm] at h hi hm4 ⊢
  have HM := Lib.hid hm
  clear hm hx
  go_enter Try.func26, Try.ntmps26
  go_wp2_with fail
  (with_reducible refine KA.mono ?_)
  rintro e w1 ⟨rfl, b1⟩
  have hA1 := (b1.block w.heap.size (by simp)).trans hA
  have hb1 := hbA.trans (b1.mono (by simp))
  clear hA KA b1 hbA
  have hb2 := hb1.alloc hb1.size (.cells #[.int .i64 to, .slice a2 n2 c2] 59)
  have hT := heap_alloc_new w1 (.cells #[.int .i64 to, .slice a2 n2 c2] 59)
  have hA2 := (heap_alloc_old w1 (.cells #[.int .i64 to, .slice a2 n2 c2] 59) (Array.getElem?_eq_some_iff.1 hA1).1).trans hA1
  have hAl := (Array.getElem?_eq_some_iff.1 hA1).1
  have hN2 := h.below hb2
  obtain ⟨cur, hcur, hbB, hc, hmx, hs, ht⟩ : ∃ cur, w1.alloc (.cells #[.int .i64 to, .slice a2 n2 c2] 59) |>.heap[b]? = some (.cells cur DT (0, 0)) ∧ base ≤ b ∧ m ≤ cap ∧ cap ≤ maxLen ∧ cur.size = cap * 2 ∧ cur.toList.take (m * 2) = dcells xs := by
    have hr := hN2.row
    rw [← HM.out] at hr
    rcases hr.2 with ⟨e, _⟩ | ⟨g', cap', cur, e, q1, q2, q3, q4, q5, q6⟩
    · cases e
    · cases e
      exact ⟨cur, q2, q1, q3, q4, q5, q6⟩
  have KD := delete_any b cap m i base cur xs _ hcur hbB HM.out.symm hc hmx hs ht hi hm4
  obtain ⟨p0, p1, pF⟩ := hN2.cells
  clear hcur hs ht
  have hne1 : w1.heap.size ≠ b := by have := hb1.size; omega
  have hneA : w.heap.size ≠ b := by omega
  obtain ⟨J, hJ⟩ : ∃ J, J = i + 1 := ⟨_, rfl⟩
  rw [← hJ] at KD
  have hiu : ((i : Int) + 1) = (J : Int) := by omega
  have HJ := Lib.hid hJ
  clear hJ
  go_wp2_with fail
  (with_reducible refine KD.mono ?_)
  rintro e w3 ⟨rfl, o3, g3⟩
  have hbx3 := (g3.block g hN2.lt (fun e => hbg (by injection e with e; exact e.symm))).trans hN2.box
  have hT3 := (g3.block w1.heap.size (by simp) (fun e => hne1 (by injection e))).trans hT
  have hA3 := (g3.block w.heap.size (by simp; omega) (fun e => hneA (by injection e))).trans hA2
  obtain ⟨r0, r1, rF⟩ := box_cells hbx3
  obtain ⟨t0, t1, tF⟩ := box_cells hT3
  obtain ⟨s0, s1, sF⟩ := box_cells hA3
  have hgw1 : g ≠ w1.heap.size := by omega
  have hgwA : g ≠ w.heap.size := by omega
  have hend := pull_end hN2 hb2 HM.out.symm hi g3 o3 (Nat.le_refl _) (by simp; omega) hA2 hbg hlg hbw HX.out hl (.int .i64 to) (.slice a2 n2 c2)
  have HEND := Lib.hid hend
  have hA4 := (heap_setCell_other w3 ⟨g, 0, none⟩ w.heap.size (.slice (some ⟨b, 0, none⟩) (m - 1) cap) (by simp only; omega)).trans hA3
  have HA4 := Lib.hid hA4
  clear hend KD hN2 hT hA2 hbx3 hT3 hA3 p0 p1 pF o3 g3 hiu hA4 hb1 hb2 h hA1
  go_wp2
  exact bodyPost_ret (v := .tuple #[.agg #[.int .i64 to, .slice a2 n2 c2], .bool true]) (results_pull _ _ _ _ _ rfl rfl (set2_same _ _ HA4.out) rfl) rfl ⟨rfl, HEND.out⟩
end Go.Proofs.Ytbkbkhinpeoflaa
