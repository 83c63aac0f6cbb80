/-
  msg: Encode, Check.
-/
import Derived.Test.YtopnjjehefaghaaDoorMMgH
namespace Go.Proofs.YtopnjjehefaghaaDoor
open Go.RowKit

def encM (M : MsR) : List Nat × Int := if (rightM M && decide ((msgLE M).length ≤ 65536)) = true then (msgLE M, 0) else ([], 110)
theorem metaOk_fits {m : MeR} (h : (metaOk m || noneB m) = true) : MeFits m := by
  rcases Bool.or_eq_true _ _ ▸ h with h | h
  · obtain ⟨⟨a, b, c, d⟩, e, f, g, i, j⟩ := metaB_facts h
    exact ⟨a, b, c, d, e, f, g, i, j⟩
  · obtain ⟨a, b, c, d, e, f⟩ := of_decide_eq_true h
    exact ⟨by omega, by omega, by omega, by omega, by omega, by omega, by omega, by omega, by rw [f]; simp⟩
theorem metaOk_only {m : MeR} (h : metaOk m = true) : MeFits m := metaOk_fits (by rw [h]; rfl)
theorem right_fits {M : MsR} (h : rightM M = true) : MsFits M := by
  have hc : ∀ i, i < 12 → cnd M i = true := fun i hi => List.all_eq_true.1 h i (List.mem_range.2 hi)
  have f2 := wiB_iff.1 (hc 2 (by decide))
  have f3 := wiB_iff.1 (hc 3 (by decide))
  have f4 := wiB_iff.1 (hc 4 (by decide))
  have f5 := wiB_iff.1 (hc 5 (by decide))
  have h9 : M.sy.any wrongS = false := by simpa [cnd] using hc 9 (by decide)
  have h11 : M.it.any wrongI = false := by simpa [cnd] using hc 11 (by decide)
  have h0 := of_decide_eq_true (hc 0 (by decide))
  refine ⟨by omega, of_decide_eq_true (hc 1 (by decide)), f2.1, f2.2, f3.1, f3.2, f4.1, f4.2, f5.1, f5.2, of_decide_eq_true (hc 6 (by decide)), metaOk_fits (hc 7 (by decide)), of_decide_eq_true (hc 8 (by decide)), fun p hp => ?_, of_decide_eq_true (hc 10 (by decide)), fun i hi => ?_⟩
  · have := List.any_eq_false.1 h9 p hp
    simp only [wrongS, Bool.or_eq_true, Bool.not_eq_true', not_or, Bool.not_eq_false, decide_eq_true_eq] at this
    obtain ⟨a, b, c⟩ := this
    have a := wiB_iff.1 a
    have b := wiB_iff.1 b
    exact ⟨a.1, a.2, b.1, by omega, by omega⟩
  · have := List.any_eq_false.1 h11 i hi
    simp only [wrongI, Bool.or_eq_true, Bool.not_eq_true', not_or, Bool.not_eq_false] at this
    have hk := of_decide_eq_true (show decide _ = true from this.1)
    exact ⟨by omega, metaOk_only this.2⟩
/-- what Encode gives. -/
def GivesM (M : MsR) (w : World) (e : Ending) (w' : World) : Prop := ∃ ad cap, e = .returned (.tuple #[.slice ad (encM M).1.length cap, .int .i64 (encM M).2]) ∧ w'.ownsRow w.heap.size 5 1 (.slice ad (encM M).1.length cap) (encM M).1.length ((encM M).1.map bv) ∧ Bytes (encM M).1 ∧ Below w.heap.size w w'
theorem givesM_no {M : MsR} {w w' : World} (h : encM M = ([], 110)) (hb : Below w.heap.size w w') : GivesM M w (.returned (.tuple #[.slice none 0 0, .int .i64 110])) w' := by
  unfold GivesM
  rw [h]
  exact ⟨none, 0, rfl, ⟨rfl, .inl ⟨rfl, rfl⟩⟩, (fun x hx => (nomatch hx)), hb⟩
set_option maxRecDepth 100000 in
set_option maxHeartbeats 8000000 in
theorem encode_anyM (M : MsR) (x : Option Addr × Nat × Nat) (sa : Option Addr) (sc : Nat) (ia : Option Addr) (ic : Nat) (w : World) (hM : MsV w M x sa ia) :
    Calls Tryd.prog 12 #[.agg (MsC M x sa sc ia ic)] w (GivesM M w) := by
  have KR := right_anyM M x sa sc ia ic
  have HM := Lib.hid hM
  obtain ⟨RB, hRB⟩ : ∃ B, B = rightM M := ⟨_, rfl⟩
  rw [← hRB] at KR
  have HRB := Lib.hid hRB
  have hb0 := below_alloc w (.cells (MsC M x sa sc ia ic) MMT)
  have hh0 := heap_alloc_new w (.cells (MsC M x sa sc ia ic) MMT)
  have K1 := KR (w.alloc (.cells (MsC M x sa sc ia ic) MMT)) (hM.below hb0)
  have HB0 := Lib.hid hb0
  obtain ⟨⟨c0, c1, c2, c3, c4, c5, c6⟩, c7, c8, c9, c10, c11, c12, c13⟩ := cells14 hh0
  clear hM KR hRB hb0
  go_enter Tryd.func12, Tryd.ntmps12
  go_wp2_with fail
  (with_reducible refine K1.mono ?_)
  rintro e w2 ⟨rfl, b2⟩
  have hh2 := (b2.block _ (Array.getElem?_eq_some_iff.1 hh0).1).trans hh0
  have hb2 := HB0.out.trans (b2.mono HB0.out.size)
  have HB2 := Lib.hid hb2
  clear K1 b2 hh0 hb2 c0 c1 c2 c3 c4 c5 c6 c7 c8 c9 c10 c11 c12 c13
  obtain ⟨⟨c0, c1, c2, c3, c4, c5, c6⟩, c7, c8, c9, c10, c11, c12, c13⟩ := cells14 hh2
  cases RB with
  | false =>
    go_wp2
    go_ret2
    exact givesM_no (by unfold encM; rw [← HRB.out]; rfl) HB2.out
  | true =>
    have hfit := right_fits HRB.out.symm
    obtain ⟨b, hb⟩ : ∃ b, b = w2.heap.size := ⟨_, rfl⟩
    obtain ⟨w3, hw3⟩ : ∃ x, x = w2.alloc (.cells #[.slice none 0 0] GT) := ⟨_, rfl⟩
    have hb3 : Below w2.heap.size w2 w3 := by rw [hw3]; exact below_alloc w2 _
    have hG : Gr w3 b [] := ⟨none, 0, by rw [hw3, hb]; exact heap_alloc_new w2 _, ⟨rfl, .inl ⟨rfl, rfl⟩⟩, (fun x hx => (nomatch hx))⟩
    have hlt : w.heap.size ≤ b := by rw [hb]; exact HB2.out.size
    have HB3 := Lib.hid (HB2.out.trans (hb3.mono HB2.out.size))
    have hh3 := (hb3.block _ (Array.getElem?_eq_some_iff.1 hh2).1).trans hh2
    have KM := gmsg_any b M x sa sc ia ic w w3 hG HB3.out hlt hfit HM.out
    have HW3 := Lib.hid hw3
    have HBB := Lib.hid hb
    clear hw3 hb3 hG hfit c0 c1 c2 c3 c4 c5 c6 c7 c8 c9 c10 c11 c12 c13 hh2 hb
    go_upto_region 4 with fail
    rw [← HBB.out, ← HW3.out]
    obtain ⟨⟨c0, c1, c2, c3, c4, c5, c6⟩, c7, c8, c9, c10, c11, c12, c13⟩ := cells14 hh3
    go_wp2_with fail
    (with_reducible refine KM.mono ?_)
    rintro e w4 ⟨rfl, ⟨ad, cap, hG4⟩, hK4⟩
    obtain ⟨L, hL⟩ : ∃ L, L = msgLE M := ⟨_, rfl⟩
    rw [← hL] at hG4
    have d0 : w4.cell? ⟨b, 0, none⟩ = some (.slice ad L.length cap) := cell_of_row _ _ 0 _ _ _ hG4.hh
    have HG4 := Lib.hid hG4
    have HB4 := Lib.hid (HB3.out.trans (hK4.below hlt HB3.out.size))
    have HLE := Lib.hid hL
    clear KM c0 c1 c2 c3 c4 c5 c6 c7 c8 c9 c10 c11 c12 c13 hh3 hG4 hK4 hL
    by_cases hbig : 65536 < L.length
    · have hbig' : 65536 < (L.length : Int) := by omega
      go_wp2
      go_ret2
      exact givesM_no (by unfold encM; rw [← HRB.out, ← HLE.out, decide_eq_false (by omega)]; rfl) HB4.out
    · have hbig' : ¬ 65536 < (L.length : Int) := by omega
      go_wp2
      go_ret2
      have he : encM M = (L, 0) := by unfold encM; rw [← HRB.out, ← HLE.out, decide_eq_true (by omega)]; rfl
      unfold GivesM
      rw [he]
      exact ⟨ad, cap, rfl, ownsRow_base HG4.out.own (by omega), HG4.out.by_, HB4.out⟩
set_option maxRecDepth 100000 in
set_option maxHeartbeats 8000000 in
theorem check_anyM (M : MsR) (x : Option Addr × Nat × Nat) (sa : Option Addr) (sc : Nat) (ia : Option Addr) (ic : Nat) (w : World) (hM : MsV w M x sa ia) :
    Calls Tryd.prog 15 #[.agg (MsC M x sa sc ia ic)] w fun e w' => e = .returned (.bool (decide ((encM M).2 = 0))) ∧ Below w.heap.size w w' := by
  have hb0 := below_alloc w (.cells (MsC M x sa sc ia ic) MMT)
  have hh0 := heap_alloc_new w (.cells (MsC M x sa sc ia ic) MMT)
  have K1 := encode_anyM M x sa sc ia ic (w.alloc (.cells (MsC M x sa sc ia ic) MMT)) (hM.below hb0)
  have HB0 := Lib.hid hb0
  obtain ⟨⟨c0, c1, c2, c3, c4, c5, c6⟩, c7, c8, c9, c10, c11, c12, c13⟩ := cells14 hh0
  clear hM hb0 hh0
  go_enter Tryd.func15, Tryd.ntmps15
  go_wp2_with fail
  (with_reducible refine K1.mono ?_)
  rintro e w2 ⟨ad, cap, rfl, -, -, b2⟩
  obtain ⟨E, hE⟩ : ∃ E, E = (encM M).2 := ⟨_, rfl⟩
  rw [← hE]
  have HB2 := Lib.hid (HB0.out.trans (b2.mono HB0.out.size))
  have HE := Lib.hid hE
  clear K1 b2 hE c0 c1 c2 c3 c4 c5 c6 c7 c8 c9 c10 c11 c12 c13
  go_wp2
  go_ret
  refine ⟨?_, HB2.out⟩
  show Ending.returned (.bool (E == 0)) = .returned (.bool (decide ((encM M).2 = 0)))
  rw [← HE.out]
  by_cases h : E = 0 <;> simp [h]
end Go.Proofs.YtopnjjehefaghaaDoor
