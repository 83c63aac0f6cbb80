/-
  rilllaw02: LinTold, LinBack.
-/
import Derived.Test.YtgnnfpnkhemimaaLiZ
namespace Go.Proofs.Ytgnnfpnkhemimaa
open Go.RowKit

abbrev Mem (ls : List (List Nat)) : Prop := ∀ l ∈ ls, Bytes l ∧ l.length ≤ 140737488355328
theorem told_all {cols : Int} {rows vs X : List (List Nat)} (h : solveR cols rows vs = (X, 0)) (hr : Mem rows) (hv : Mem vs) : applyR cols rows X = (vs, 0) ∧ X.length ≤ 128 := by
  unfold solveR at h
  by_cases hB : solveOK cols rows vs = true
  · rw [if_pos hB] at h
    obtain ⟨b1, b2, b3⟩ := solveOK_iff.1 hB
    obtain ⟨k1, k2, k3, k4, k5⟩ := right_rws b1 hr
    have hc := right_pos b1
    obtain ⟨e1, e2, e3⟩ := solve_told k2 b2 k1 (even_rws b3 hv) h rfl
    refine ⟨?_, by omega⟩
    unfold applyR
    rw [if_pos (applyOK_iff.2 ⟨b1, by omega, even_of_rws e2⟩), e3]
  · rw [if_neg hB] at h; injection h with _ h; cases h
theorem back_all {cols : Int} {rows xs : List (List Nat)} (hB : applyOK cols rows xs = true) (hr : Mem rows) (hx : Mem xs) :
    applyR cols rows xs = (applyOf rows xs, 0) ∧ rankR cols rows = (rankOf cols.toNat rows, 0) ∧ cols = (cols.toNat : Int) ∧ rankOf cols.toNat rows ≤ cols.toNat ∧ rankOf cols.toNat rows ≤ rows.length ∧ xs.length = cols.toNat ∧ cols.toNat ≤ 128 ∧ 0 < cols.toNat ∧ (applyOf rows xs).length = rows.length ∧ rows.length ≤ 256 ∧ (∀ r ∈ rows, r.length ≤ 128) ∧ (∀ B, (∀ x ∈ xs, x.length ≤ B) → widthB (applyOf rows xs) ≤ B) ∧
    solveR cols rows (applyOf rows xs) = if rankOf cols.toNat rows = cols.toNat then (xs, 0) else ([], 21) := by
  obtain ⟨b1, b2, b3⟩ := applyOK_iff.1 hB
  obtain ⟨k1, k2, k3, k4, k5⟩ := right_rws b1 hr
  have hc := right_pos b1
  have hxl : xs.length = cols.toNat := by omega
  have hw := even_rws b3 hx
  have hv := apply_rws k2 hxl k1 hw
  have hl : (applyOf rows xs).length = rows.length := by unfold applyOf; simp
  refine ⟨by unfold applyR; rw [if_pos hB], by unfold rankR; rw [if_pos b1], hc, (rank_le k1).1, (rank_le k1).2, hxl, k3, k2, hl, k4, k5, fun B hB' => ?_, ?_⟩
  · refine width_le fun v hv' => ?_
    rw [(hv v hv').2]
    exact width_le hB'
  · unfold solveR
    rw [if_pos (solveOK_iff.2 ⟨b1, hl, even_of_rws hv⟩)]
    exact solve_applied k2 hxl k1 hw
theorem apply_no {cols : Int} {rows xs : List (List Nat)} (hB : ¬ applyOK cols rows xs = true) : applyR cols rows xs = ([], 20) := by unfold applyR; rw [if_neg hB]

set_option maxRecDepth 100000 in
set_option maxHeartbeats 8000000 in
theorem linTold_walk (cols : Int) (a1 : Option Addr) (n1 c1 : Nat) (s1 : List HdT) (l1 : List (List Nat)) (a2 : Option Addr) (n2 c2 : Nat) (s2 : List HdT) (l2 : List (List Nat)) (w : World) (_w0 : (Lit.int .i64 cols).wf = true)
    (v1 : RowV w a1 n1 (s1.map SV)) (r1 : RowsV w s1 l1) (_t1 : n1 * 24 ≤ 140737488351232) (v2 : RowV w a2 n2 (s2.map SV)) (r2 : RowsV w s2 l2) (_t2 : n2 * 24 ≤ 140737488351232) :
    Calls Try.prog 7 #[.int .i64 cols, .slice a1 n1 c1, .slice a2 n2 c2] w fun e w' => e = .returned (.bool true) ∧ Below w.heap.size w w' := by
  have h1 : RD w a1 n1 l1 := ⟨by rw [← r1.1]; have := v1.1; simpa using this, s1, v1, r1⟩
  have h2 : RD w a2 n2 l2 := ⟨by rw [← r2.1]; have := v2.1; simpa using this, s2, v2, r2⟩
  have m1 := h1.mem
  have m2 := h2.mem
  have e1 := h1.1
  have e2 := h2.1
  have H1 := Lib.hid h1
  have H2 := Lib.hid h2
  have hk := solve_kinds cols l1 l2
  have htold := fun X (h : solveR cols l1 l2 = (X, 0)) => told_all h m1 m2
  have HT := Lib.hid htold
  have KS := fun ar nr cr ax nx cx w h k hn hx hw => solve_rd cols ar nr cr l1 ax nx cx l2 w h k hn hx hw
  obtain ⟨S, hS⟩ : ∃ S, S = solveR cols l1 l2 := ⟨_, rfl⟩
  rw [← hS] at hk HT KS
  have HK := Lib.hid hk
  have hwd := fun (hg : (∀ r ∈ l1, r.length ≤ 128) → ∀ x ∈ l2, x.length ≤ 60000) (hR : rightB cols l1 = true) => Nat.le_trans (width_le (hg (right_rws hR m1).2.2.2.2)) (show 60000 ≤ 100000 by omega)
  have HWD := Lib.hid hwd
  have HE1 := Lib.hid e1
  have HE2 := Lib.hid e2
  clear h1 h2 m1 m2 v1 r1 v2 r2 hk htold hS e1 e2 hwd
  go_enter Try.func7, Try.ntmps7
  go_wp2_with fail
  (with_reducible refine (alive_any _).mono ?_)
  rintro e w1 ⟨rfl, hb1⟩
  go_wp2_with fail
  (with_reducible refine (great_rd _ _ _ l1 _ _ _ l2 _ (H1.out.below hb1) (H2.out.below hb1)).mono ?_)
  rintro e w2 ⟨t, rfl, b2, hg⟩
  have hb2 := hb1.trans (b2.mono hb1.size)
  cases t with
  | true =>
    clear hg
    go_wp2
    go_ret
    exact ⟨rfl, hb2⟩
  | false =>
    obtain ⟨g1, g2, g3⟩ := hg rfl
    rw [HE1.out] at g1
    rw [HE2.out] at g2
    have HG := Lib.hid (HWD.out g3)
    clear hg g3 b2 hb1
    go_wp2_with fail
    (with_reducible refine (copyRows_rd _ _ _ l1 _ (H1.out.below hb2) (by omega)).mono ?_)
    rintro e w3 ⟨a3, c3, rfl, h3, b3⟩
    have hb3 := hb2.trans (b3.mono hb2.size)
    clear b3 hb2
    go_wp2_with fail
    (with_reducible refine (copyRows_rd _ _ _ l2 _ (H2.out.below hb3) (by omega)).mono ?_)
    rintro e w4 ⟨a4, c4, rfl, h4, b4⟩
    have hb4 := hb3.trans (b4.mono hb3.size)
    have h34 := h3.below b4
    clear b4 hb3 h3
    go_wp2_with fail
    (with_reducible refine (KS _ _ _ _ _ _ _ h34 h4 (by omega) (by omega) HG.out).mono ?_)
    rintro e w5 ⟨a5, c5, rfl, h5, b5⟩
    have hb5 := hb4.trans (b5.mono hb4.size)
    clear KS b5 hb4 h34 h4
    obtain ⟨X, code⟩ := S
    rcases HK.out with hz | ⟨hn, hz⟩
    · simp only at hz h5 ⊢
      subst hz
      obtain ⟨k1, k2⟩ := HT.out X rfl
      have HK1 := Lib.hid k1
      clear k1
      go_wp2_with fail
      (with_reducible refine (copyRows_rd _ _ _ l1 _ (H1.out.below hb5) (by omega)).mono ?_)
      rintro e w6 ⟨a6, c6, rfl, h6, b6⟩
      have hb6 := hb5.trans (b6.mono hb5.size)
      have h56 := h5.below b6
      clear b6 hb5 h5
      have KA := apply_rd cols a6 n1 c6 l1 a5 X.length c5 X w6 h6 h56 (by omega) (by omega)
      rw [HK1.out] at KA
      go_wp2_with fail
      (with_reducible refine KA.mono ?_)
      rintro e w7 ⟨a7, c7, rfl, h7, b7⟩
      have hb7 := hb6.trans (b7.mono hb6.size)
      clear KA b7 hb6 h6 h56
      simp only at h7 ⊢
      have KQ := sameRows_rd a7 l2.length c7 l2 a2 n2 c2 l2 w7 h7 (H2.out.below hb7) (by rw [HE2.out]; omega)
      rw [decide_eq_true rfl] at KQ
      go_wp2_with fail
      (with_reducible refine KQ.mono ?_)
      rintro e w8 ⟨rfl, b8⟩
      go_wp2
      go_ret
      exact ⟨rfl, hb7.trans (b8.mono hb7.size)⟩
    · simp only at hn hz h5 ⊢
      subst hn
      rcases hz with rfl | rfl | rfl
      all_goals
        go_wp2
        go_ret
        exact ⟨rfl, hb5⟩

set_option maxRecDepth 100000 in
set_option maxHeartbeats 8000000 in
theorem linBack_walk (cols : Int) (a1 : Option Addr) (n1 c1 : Nat) (s1 : List HdT) (l1 : List (List Nat)) (a2 : Option Addr) (n2 c2 : Nat) (s2 : List HdT) (l2 : List (List Nat)) (w : World) (_w0 : (Lit.int .i64 cols).wf = true)
    (v1 : RowV w a1 n1 (s1.map SV)) (r1 : RowsV w s1 l1) (_t1 : n1 * 24 ≤ 140737488351232) (v2 : RowV w a2 n2 (s2.map SV)) (r2 : RowsV w s2 l2) (_t2 : n2 * 24 ≤ 140737488351232) :
    Calls Try.prog 6 #[.int .i64 cols, .slice a1 n1 c1, .slice a2 n2 c2] w fun e w' => e = .returned (.bool true) ∧ Below w.heap.size w w' := by
  have h1 : RD w a1 n1 l1 := ⟨by rw [← r1.1]; have := v1.1; simpa using this, s1, v1, r1⟩
  have h2 : RD w a2 n2 l2 := ⟨by rw [← r2.1]; have := v2.1; simpa using this, s2, v2, r2⟩
  have m1 := h1.mem
  have m2 := h2.mem
  have HE1 := Lib.hid h1.1
  have HE2 := Lib.hid h2.1
  have H1 := Lib.hid h1
  have H2 := Lib.hid h2
  have HM1 := Lib.hid m1
  have HM2 := Lib.hid m2
  clear h1 h2 m1 m2 v1 r1 v2 r2
  go_enter Try.func6, Try.ntmps6
  go_wp2_with fail
  (with_reducible refine (alive_any _).mono ?_)
  rintro e w1 ⟨rfl, hb1⟩
  go_wp2_with fail
  (with_reducible refine (great_rd _ _ _ l1 _ _ _ l2 _ (H1.out.below hb1) (H2.out.below hb1)).mono ?_)
  rintro e w2 ⟨t, rfl, b2, hg⟩
  have hb2 := hb1.trans (b2.mono hb1.size)
  cases t with
  | true =>
    clear hg
    go_wp2
    go_ret
    exact ⟨rfl, hb2⟩
  | false =>
    obtain ⟨g1, g2, g3⟩ := hg rfl
    rw [HE1.out] at g1
    rw [HE2.out] at g2
    have HG := Lib.hid g3
    clear hg g3 b2 hb1
    go_wp2_with fail
    (with_reducible refine (copyRows_rd _ _ _ l1 _ (H1.out.below hb2) (by omega)).mono ?_)
    rintro e w3 ⟨a3, c3, rfl, h3, b3⟩
    have hb3 := hb2.trans (b3.mono hb2.size)
    clear b3 hb2
    go_wp2_with fail
    (with_reducible refine (copyRows_rd _ _ _ l2 _ (H2.out.below hb3) (by omega)).mono ?_)
    rintro e w4 ⟨a4, c4, rfl, h4, b4⟩
    have hb4 := hb3.trans (b4.mono hb3.size)
    have h34 := h3.below b4
    clear b4 hb3 h3
    have KA := apply_rd cols a3 n1 c3 l1 a4 n2 c4 l2 w4 h34 h4 (by omega) (by omega)
    clear h34 h4
    by_cases hB : applyOK cols l1 l2 = true
    rotate_left 1
    · rw [apply_no hB] at KA
      clear hB
      go_wp2_with fail
      (with_reducible refine KA.mono ?_)
      rintro e w5 ⟨a5, c5, rfl, h5, b5⟩
      have hb5 := hb4.trans (b5.mono hb4.size)
      simp only
      clear KA h5
      go_wp2
      go_ret
      exact ⟨rfl, hb5⟩
    · obtain ⟨k1, k2, k3, k4, k5, k6, k7, k8, k9, k10, k11, k12, k13⟩ := back_all hB HM1.out HM2.out
      rw [k1] at KA
      have KR := fun a n c w h hn => rank_rd cols a n c l1 w h hn
      rw [k2] at KR
      have hwV := k12 60000 (HG.out k11)
      have KS := fun ar nr cr ax nx cx w h k hn hx hw => solve_rd cols ar nr cr l1 ax nx cx (applyOf l1 l2) w h k hn hx hw
      rw [k13] at KS
      obtain ⟨V, hV⟩ : ∃ V, V = applyOf l1 l2 := ⟨_, rfl⟩
      rw [← hV] at KA KS hwV k9
      obtain ⟨R, hR⟩ : ∃ R, R = rankOf cols.toNat l1 := ⟨_, rfl⟩
      rw [← hR] at KR KS k4 k5
      obtain ⟨m, hm⟩ : ∃ m, m = cols.toNat := ⟨_, rfl⟩
      rw [← hm] at k3 k4 k7 KS k8
      have HWV := Lib.hid hwV
      have HK9 := Lib.hid k9
      rw [HE1.out] at k5 k10
      clear hB k1 k2 k6 k11 k12 k13 hV hR hm hwV k9
      subst k3
      go_wp2_with fail
      (with_reducible refine KA.mono ?_)
      rintro e w5 ⟨a5, c5, rfl, h5, b5⟩
      have hb5 := hb4.trans (b5.mono hb4.size)
      simp only at h5 ⊢
      clear KA b5 hb4
      go_wp2_with fail
      (with_reducible refine (copyRows_rd _ _ _ l1 _ (H1.out.below hb5) (by omega)).mono ?_)
      rintro e w6 ⟨a6, c6, rfl, h6, b6⟩
      have hb6 := hb5.trans (b6.mono hb5.size)
      have h56 := h5.below b6
      clear b6 hb5 h5
      go_wp2_with fail
      (with_reducible refine (KR _ _ _ _ h6 (by omega)).mono ?_)
      rintro e w7 ⟨rfl, b7⟩
      have hb7 := hb6.trans (b7.mono hb6.size)
      have h57 := h56.below b7
      clear KR b7 hb6 h56 h6
      go_wp2_with fail
      (with_reducible refine (copyRows_rd _ _ _ l1 _ (H1.out.below hb7) (by omega)).mono ?_)
      rintro e w8 ⟨a8, c8, rfl, h8, b8⟩
      have hb8 := hb7.trans (b8.mono hb7.size)
      have h58 := h57.below b8
      clear b8 hb7 h57
      go_wp2_with fail
      (with_reducible refine (KS _ _ _ _ _ _ _ h8 h58 (by omega) (by rw [HK9.out, HE1.out]; omega) (fun _ => by have := HWV.out; omega)).mono ?_)
      rintro e w9 ⟨a9, c9, rfl, h9, b9⟩
      have hb9 := hb8.trans (b9.mono hb8.size)
      clear KS b9 hb8 h8 h58
      by_cases hf : R = m
      · rw [if_pos hf] at h9 ⊢
        subst hf
        simp only at h9 ⊢
        have KQ := sameRows_rd a9 l2.length c9 l2 a2 n2 c2 l2 w9 h9 (H2.out.below hb9) (by rw [HE2.out]; omega)
        rw [decide_eq_true rfl] at KQ
        go_wp2_with fail
        (with_reducible refine KQ.mono ?_)
        rintro e w10 ⟨rfl, b10⟩
        go_wp2
        go_ret
        exact ⟨rfl, hb9.trans (b10.mono hb9.size)⟩
      · rw [if_neg hf] at h9 ⊢
        simp only at h9 ⊢
        have hlt : R < m := by omega
        clear hf
        go_wp2
        go_ret
        exact ⟨rfl, hb9⟩
end Go.Proofs.Ytgnnfpnkhemimaa
