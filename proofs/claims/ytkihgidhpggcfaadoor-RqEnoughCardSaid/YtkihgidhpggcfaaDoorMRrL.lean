/-
  rilllaw04: RqRows, RqEnough.
-/
import Derived.Test.YtkihgidhpggcfaaDoorMRqT
import Derived.Test.YtkihgidhpggcfaaDoorMRrK
namespace Go.Proofs.YtkihgidhpggcfaaDoor
open Go.RowKit

theorem fixedR_len (k : Int) : (fixedR k).1.length ≤ 1000 := by
  unfold fixedR
  split
  · rename_i h
    obtain ⟨m, rfl, e, h1, hk⟩ := okK_nat h
    rw [e]
    have := fixed_length (k := m) (code_facts h1 hk).2.2.2.1
    have := (cL_facts h1 hk).2.1
    simp only
    omega
  · simp
theorem rowR_bytes (k e : Int) : Bytes (rowR k e).1 ∧ (rowR k e).1.length ≤ 1000 := by
  unfold rowR
  split
  · rename_i h
    obtain ⟨m, rfl, e1, h1, hk⟩ := okK_nat h
    rw [e1]
    split
    · have := (cL_facts h1 hk).2.1
      exact ⟨symR_bytes _ _, by rw [symR_length]; omega⟩
    · exact ⟨fun x h => by simp at h, by simp⟩
  · exact ⟨fun x h => by simp at h, by simp⟩
set_option maxRecDepth 100000 in
set_option maxHeartbeats 8000000 in
theorem rqRows_walk (k esi : Int) (w : World) (hg : Bnd w) (_w0 : (Lit.int .i64 k).wf = true) (_w1 : (Lit.int .i64 esi).wf = true) :
    Calls Tryd.prog 3 #[.int .i64 k, .int .i64 esi] w fun e w' => e = .returned (.bool true) ∧ Below w.heap.size w w' := by
  have HG := Lib.hid hg
  obtain ⟨F, hF⟩ : ∃ F, F = fixedR k := ⟨_, rfl⟩
  obtain ⟨R, hR⟩ : ∃ R, R = rowR k esi := ⟨_, rfl⟩
  have hFl : F.1.length ≤ 1000 := by rw [hF]; exact fixedR_len k
  have hRb : Bytes R.1 ∧ R.1.length ≤ 1000 := by rw [hR]; exact rowR_bytes k esi
  have KF := fun W h => fixed_rd k W h
  have KF2 := fun W => refFixed_rd k W
  have KR := fun W h => row_rd k esi W h
  have KR2 := fun W => refRow_rd k esi W
  simp only [← hF] at KF KF2
  simp only [← hR] at KR KR2
  have HRB := Lib.hid hRb
  obtain ⟨FL, fc⟩ := F
  obtain ⟨RL, rc⟩ := R
  clear hF hR hRb hg
  go_enter Tryd.func3, Tryd.ntmps3
  go_wp2_with fail
  (with_reducible refine (alive_any _ HG.out).mono ?_)
  rintro e w1 ⟨rfl, hb1⟩
  go_wp2_with fail
  (with_reducible refine (KF _ (HG.out.below hb1)).mono ?_)
  rintro e w2 ⟨a2, c2, rfl, h2, b2⟩
  simp only at h2 ⊢
  have hb2 := hb1.trans (b2.mono hb1.size)
  clear b2 hb1 KF
  go_wp2_with fail
  (with_reducible refine (KF2 _).mono ?_)
  rintro e w3 ⟨a3, c3, rfl, h3, b3⟩
  simp only at h3 hFl ⊢
  have hb3 := hb2.trans (b3.mono hb2.size)
  have KQ := sameRows_rd a2 FL.length c2 FL a3 FL.length c3 FL w3 (h2.below b3) h3 hFl
  rw [decide_eq_true rfl] at KQ
  clear b3 hb2 KF2 h2 h3
  go_wp2_with fail
  (with_reducible refine KQ.mono ?_)
  rintro e w4 ⟨rfl, b4⟩
  have hb4 := hb3.trans (b4.mono hb3.size)
  clear KQ b4 hb3
  go_wp2_with fail
  (with_reducible refine (KR _ (HG.out.below hb4)).mono ?_)
  rintro e w5 ⟨a5, c5, rfl, o5, b5⟩
  simp only at o5 ⊢
  have hb5 := hb4.trans (b5.mono hb4.size)
  have x5 := bytesV_of_owns o5 HRB.out.1 (by have := HRB.out.2; omega)
  clear b5 hb4 KR o5
  go_wp2_with fail
  (with_reducible refine (KR2 _).mono ?_)
  rintro e w6 ⟨a6, c6, rfl, o6, b6⟩
  simp only at o6 ⊢
  have hb6 := hb5.trans (b6.mono hb5.size)
  have x6 := bytesV_of_owns o6 HRB.out.1 (by have := HRB.out.2; omega)
  have KB := sameBytes_any a5 RL.length c5 RL a6 RL.length c6 RL w6 (x5.below b6) x6
  rw [decide_eq_true rfl] at KB
  clear b6 hb5 KR2 o6 x5 x6
  go_wp2_with fail
  (with_reducible refine KB.mono ?_)
  rintro e w7 ⟨rfl, b7⟩
  have hb7 := hb6.trans (b7.mono hb6.size)
  clear KB b7 hb6
  go_wp2
  go_ret
  exact ⟨rfl, hb7⟩

set_option maxRecDepth 100000 in
set_option maxHeartbeats 8000000 in
theorem rqEnough_walk (k : Int) (a1 : Option Addr) (n1 c1 : Nat) (l1 : List Int) (w : World) (hg : Bnd w) (_w0 : (Lit.int .i64 k).wf = true) (v1 : IntsV w (a1, n1, c1) l1) (_t1 : n1 * 8 ≤ 140737488351232) (_z1 : ∀ z ∈ l1, (Lit.int .i64 z).wf = true) :
    Calls Tryd.prog 6 #[.int .i64 k, .slice a1 n1 c1] w fun e w' => e = .returned (.bool true) ∧ Below w.heap.size w w' := by
  have HG := Lib.hid hg
  have HE1 := Lib.hid (show l1.length = n1 from v1.length)
  have H1 := Lib.hid v1
  have h1s := v1.small
  simp only at h1s
  clear v1 hg
  go_enter Tryd.func6, Tryd.ntmps6
  go_wp2_with fail
  (with_reducible refine (alive_any _ HG.out).mono ?_)
  rintro e w1 ⟨rfl, hb1⟩
  by_cases hn : n1 ≤ 200
  rotate_left 1
  · have hn60 : ¬ n1 ≤ 60 := by omega
    have hn129 : ¬ n1 < 129 := by omega
    go_wp2
    go_ret
    exact ⟨rfl, hb1⟩
  by_cases hm : 60 < n1 ∧ n1 < 129
  · obtain ⟨hm1, hm2⟩ := hm
    go_wp2
    go_ret
    exact ⟨rfl, hb1⟩
  have HM := Lib.hid hm
  clear hm
  have HB1 := Lib.hid hb1
  clear hb1
  by_cases h60 : n1 ≤ 60
  all_goals
    have hn129 : n1 < 129 ∨ 129 ≤ n1 := by omega
    rcases hn129 with h129 | h129
    all_goals first
      | (exfalso; have := HM.out; omega)
      | skip
    all_goals
      go_wp2_with fail
      (with_reducible refine (copyInts_rd _ _ _ l1 _ (H1.out.below HB1.out) (by omega)).mono ?_)
      rintro e w3 ⟨a3, c3, rfl, o3, b3⟩
      have hb3 := HB1.out.trans (b3.mono HB1.out.size)
      have KN := enough_rd k a3 l1.length c3 l1 w3 (intsV_ownQ o3 (by rw [HE1.out]; omega)) (HG.out.below hb3)
      obtain ⟨t, ht⟩ : ∃ t, t = enoughB k l1 := ⟨_, rfl⟩
      have KN2 := fun W h => refEnough_rd k a1 n1 c1 l1 W h
      rw [← ht] at KN
      simp only [← ht] at KN2
      clear b3 o3 ht
      go_wp2_with fail
      (with_reducible refine KN.mono ?_)
      rintro e w4 ⟨rfl, b4⟩
      have hb4 := hb3.trans (b4.mono hb3.size)
      clear KN b4 hb3
      go_wp2_with fail
      (with_reducible refine (KN2 _ (H1.out.below hb4)).mono ?_)
      rintro e w5 ⟨rfl, b5⟩
      have hb5 := hb4.trans (b5.mono hb4.size)
      clear KN2 b5 hb4
      cases t with
      | false =>
        go_wp2
        go_ret
        exact ⟨rfl, hb5⟩
      | true =>
        go_wp2
        go_ret
        exact ⟨rfl, hb5⟩
end Go.Proofs.YtkihgidhpggcfaaDoor
