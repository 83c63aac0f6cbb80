/-
  tally: what is done stays done, and what is lost stays lost.
-/
import Derived.Test.YtehaijdbmnljnaaTaI
namespace Go.Proofs.Ytehaijdbmnljnaa
open Go.RowKit

theorem step1_more (N : Nat) (x a : Int) (said : List Int) (hx : x = 1 ∨ x = 2) (hN : N ≤ said.length) : cnt said N 1 ≤ cnt (step1 N x said a) N 1 ∧ cnt (step1 N x said a) N 1 + cnt (step1 N x said a) N 0 ≤ cnt said N 1 + cnt said N 0 := by
  unfold step1
  split
  · rename_i h
    have hi : a.toNat < N := by omega
    have h0 := cnt_set hi hN x 0 (by omega) h.2.2
    have h1 := cnt_set hi hN x 1 (by omega) h.2.2
    have hp := cnt_pos hi hN h.2.2
    simp at h0 h1
    rw [h0, h1]
    split <;> omega
  · omega
theorem steps_more (N : Nat) (x : Int) (hx : x = 1 ∨ x = 2) : ∀ (l said : List Int), N ≤ said.length → cnt said N 1 ≤ cnt (steps N x said l) N 1 ∧ cnt (steps N x said l) N 1 + cnt (steps N x said l) N 0 ≤ cnt said N 1 + cnt said N 0
  | [], said, _ => ⟨Nat.le_refl _, Nat.le_refl _⟩
  | a :: l, said, h => by
    obtain ⟨h1, h2⟩ := step1_more N x a said hx h
    obtain ⟨h3, h4⟩ := steps_more N x hx l (step1 N x said a) (by rw [step1_length]; exact h)
    exact ⟨Nat.le_trans h1 h3, Nat.le_trans h4 h2⟩
theorem whatOf_is (y : Bool) : whatOf y = 1 ∨ whatOf y = 2 := by cases y <;> simp [whatOf]

set_option maxRecDepth 10000 in
set_option maxHeartbeats 8000000 in
theorem tallyStays_walk (nodes need : Int) (a0 : Option Addr) (n0 c0 : Nat) (Y : Nat → Bool) (Hd : Nat → Option Addr × Nat × Nat) (LL : Nat → List Int) (w : World) (_w0 : (Lit.int .i64 nodes).wf = true) (_w1 : (Lit.int .i64 need).wf = true) (hS : SaysV w a0 n0 c0 Y Hd LL) :
    Calls Try.prog 4 #[.int .i64 nodes, .int .i64 need, .slice a0 n0 c0] w fun x w' => x = .returned (.bool true) ∧ Below w.heap.size w w' := by
  have KA := alive_any
  obtain ⟨N, hN⟩ : ∃ N, nodesOf nodes = N := ⟨_, rfl⟩
  have HNN := Lib.hid hN
  obtain ⟨vd0, hvd0⟩ : ∃ v, decide (need ≤ cnt zeros N 1) = v := ⟨_, rfl⟩
  obtain ⟨vl0, hvl0⟩ : ∃ v, decide ((cnt zeros N 1 : Int) + cnt zeros N 0 < need) = v := ⟨_, rfl⟩
  have HVD0 := Lib.hid hvd0
  have HVL0 := Lib.hid hvl0
  clear hvd0 hvl0 hN
  go_enter Try.func4, Try.ntmps4
  go_wp2_with (first
    | (go_at_call 8; (with_reducible refine (KA _).mono ?_); rintro e w1 ⟨rfl, hb1⟩)
    | (go_at_call 9; (with_reducible refine (new_any nodes need w1).mono ?_); rw [HNN.out]; rintro e w2 ⟨rfl, hT2, hd2⟩; have hb2 := trans_belowT hb1 hd2 hb1.size)
    | (go_at_call 11; (with_reducible refine (cut_any _ _ _ Y Hd LL w2 (hS.below hb2)).mono ?_); rintro e w3 ⟨m, hm, hmn, rfl, _, rfl⟩)
    | (go_at_call 16; (with_reducible refine (done_is hT2 vd0 HVD0.out).mono ?_); rintro e w4 ⟨rfl, hd4⟩; have hb4 := trans_belowT hb2 hd4 hb2.size; have hT4 := hT2.below hd4)
    | (go_at_call 18; (with_reducible refine (lost_is hT4 vl0 HVL0.out).mono ?_); rintro e w5 ⟨rfl, hd5⟩; have hb5 := trans_belowT hb4 hd5 hb4.size; have hT5 := hT4.below hd5))
  have hSm := hS.cut hmn
  clear hS
  have hlt := hT2.v.lt
  have hbs := hb1.size
  clear hT2 hd2 hd4 hT4 hd5 KA hb4
  generalize hbb : w1.heap.size = b at hT5 hlt hbs ⊢
  have hbw5 : b < w5.heap.size := hT5.v.lt
  go_loopw [8, 9, 10] (fun vd vl i wr => ∃ k : Nat, k ≤ m ∧ i = .int .i64 k ∧ (∃ (sd : List Int) (d l : Bool), vd = .bool d ∧ vl = .bool l ∧ Hid (decide (need ≤ cnt sd N 1) = d) ∧ Hid (decide ((cnt sd N 1 : Int) + cnt sd N 0 < need) = l) ∧ TallyI wr b need sd N) ∧ Below w.heap.size w wr) (fun _ _ i _ => m - (intOf i).toNat)
  case atStart => exact ⟨0, Nat.zero_le _, rfl, ⟨zeros, vd0, vl0, rfl, rfl, HVD0, HVL0, hT5⟩, hb5⟩
  case round =>
    clear HVD0 HVL0 hT5 hb5 hb1 hb2 hbw5 hlt
    obtain ⟨k, hk, rfl, ⟨sd, d, l, rfl, rfl, HD, HL, hT⟩, hb⟩ := hrel
    have hSr := hSm.below hb
    by_cases hkm : k < m
    · obtain ⟨b2, o2, e2, hlt2, hc⟩ := hSr.row (by omega)
      subst e2
      obtain ⟨cy, cs, hI⟩ := hc k hkm
      have hsm := hSr.small
      clear hc
      generalize Hd k = hd at cs hI
      obtain ⟨ad, n, c⟩ := hd
      simp only at cs hI
      by_cases hn : n ≤ 100
      · have hI2 := hI hn
        have hmore := steps_more N (whatOf (Y k)) (whatOf_is _) (LL k) sd (by rw [hT.len]; exact hT.le)
        generalize LL k = ls at hI2 hmore
        generalize Y k = y at cy hmore
        obtain ⟨sd', hsd'⟩ : ∃ s, s = steps N (whatOf y) sd ls := ⟨_, rfl⟩
        rw [← hsd'] at hmore
        obtain ⟨d', hd'⟩ : ∃ v, decide (need ≤ cnt sd' N 1) = v := ⟨_, rfl⟩
        obtain ⟨l', hl'⟩ : ∃ v, decide ((cnt sd' N 1 : Int) + cnt sd' N 0 < need) = v := ⟨_, rfl⟩
        have h1 : d = true → d' = true := by
          have := HD.out
          intro e
          rw [← hd']
          rw [e] at this
          have := of_decide_eq_true this
          exact decide_eq_true (by omega)
        have h2 : l = true → l' = true := by
          have := HL.out
          intro e
          rw [← hl']
          rw [e] at this
          have := of_decide_eq_true this
          exact decide_eq_true (by omega)
        have h3 : ¬ (d' = true ∧ l' = true) := by
          rintro ⟨e1, e2⟩
          rw [e1] at hd'
          rw [e2] at hl'
          have := of_decide_eq_true hd'
          have := of_decide_eq_true hl'
          omega
        have HD' := Lib.hid hd'
        have HL' := Lib.hid hl'
        have HS := Lib.hid hsd'
        clear hmore hd' hl' hsd' HD HL hI
        cases d <;> cases l <;> cases d' <;> cases l' <;> first | (exfalso; revert h1 h2 h3; decide) | skip
        all_goals clear h1 h2 h3
        all_goals go_wp2_with (first
          | (go_at_call 12; (with_reducible refine (saylaw_any b need sd N y _ _ _ ls wr hT hI2 hn).mono ?_); rw [← HS.out]; rintro e w20 ⟨rfl, hT20, hg20⟩; have hb20 := grow_more hb hg20 hbs hb.size)
          | (go_at_call 16; (with_reducible refine (done_is hT20 _ HD'.out).mono ?_); rintro e w21 ⟨rfl, hd21⟩; have hb21 := trans_belowT hb20 hd21 hb20.size; have hT21 := hT20.below hd21)
          | (go_at_call 18; (with_reducible refine (lost_is hT20 _ HL'.out).mono ?_); rintro e w21 ⟨rfl, hd21⟩; have hb21 := trans_belowT hb20 hd21 hb20.size; have hT21 := hT20.below hd21)
          | (go_at_call 16; (with_reducible refine (done_is hT21 _ HD'.out).mono ?_); rintro e w22 ⟨rfl, hd22⟩; have hb22 := trans_belowT hb21 hd22 hb21.size; have hT22 := hT21.below hd22)
          | (go_at_call 18; (with_reducible refine (lost_is hT21 _ HL'.out).mono ?_); rintro e w22 ⟨rfl, hd22⟩; have hb22 := trans_belowT hb21 hd22 hb21.size; have hT22 := hT21.below hd22)
          | (go_at_call 16; (with_reducible refine (done_is hT22 _ HD'.out).mono ?_); rintro e w23 ⟨rfl, hd23⟩; have hb23 := trans_belowT hb22 hd23 hb22.size; have hT23 := hT22.below hd23)
          | (go_at_call 18; (with_reducible refine (lost_is hT22 _ HL'.out).mono ?_); rintro e w23 ⟨rfl, hd23⟩; have hb23 := trans_belowT hb22 hd23 hb22.size; have hT23 := hT22.below hd23)
          | (go_at_call 16; (with_reducible refine (done_is hT23 _ HD'.out).mono ?_); rintro e w24 ⟨rfl, hd24⟩; have hb24 := trans_belowT hb23 hd24 hb23.size; have hT24 := hT23.below hd24)
          | (go_at_call 18; (with_reducible refine (lost_is hT23 _ HL'.out).mono ?_); rintro e w24 ⟨rfl, hd24⟩; have hb24 := trans_belowT hb23 hd24 hb23.size; have hT24 := hT23.below hd24)
          | (go_at_call 16; (with_reducible refine (done_is hT24 _ HD'.out).mono ?_); rintro e w25 ⟨rfl, hd25⟩; have hb25 := trans_belowT hb24 hd25 hb24.size; have hT25 := hT24.below hd25)
          | (go_at_call 18; (with_reducible refine (lost_is hT24 _ HL'.out).mono ?_); rintro e w25 ⟨rfl, hd25⟩; have hb25 := trans_belowT hb24 hd25 hb24.size; have hT25 := hT24.below hd25)
          | (go_at_call 16; (with_reducible refine (done_is hT25 _ HD'.out).mono ?_); rintro e w26 ⟨rfl, hd26⟩; have hb26 := trans_belowT hb25 hd26 hb25.size; have hT26 := hT25.below hd26)
          | (go_at_call 18; (with_reducible refine (lost_is hT25 _ HL'.out).mono ?_); rintro e w26 ⟨rfl, hd26⟩; have hb26 := trans_belowT hb25 hd26 hb25.size; have hT26 := hT25.below hd26)
          | (go_at_call 16; (with_reducible refine (done_is hT26 _ HD'.out).mono ?_); rintro e w27 ⟨rfl, hd27⟩; have hb27 := trans_belowT hb26 hd27 hb26.size; have hT27 := hT26.below hd27)
          | (go_at_call 18; (with_reducible refine (lost_is hT26 _ HL'.out).mono ?_); rintro e w27 ⟨rfl, hd27⟩; have hb27 := trans_belowT hb26 hd27 hb26.size; have hT27 := hT26.below hd27)
          | (go_at_call 16; (with_reducible refine (done_is hT27 _ HD'.out).mono ?_); rintro e w28 ⟨rfl, hd28⟩; have hb28 := trans_belowT hb27 hd28 hb27.size; have hT28 := hT27.below hd28)
          | (go_at_call 18; (with_reducible refine (lost_is hT27 _ HL'.out).mono ?_); rintro e w28 ⟨rfl, hd28⟩; have hb28 := trans_belowT hb27 hd28 hb27.size; have hT28 := hT27.below hd28))
        all_goals go_roundw
        case rel => (first | exact ⟨k + 1, by omega, by go_num, ⟨sd', _, _, rfl, rfl, HD', HL', hT27⟩, hb27⟩ | exact ⟨k + 1, by omega, by go_num, ⟨sd', _, _, rfl, rfl, HD', HL', hT26⟩, hb26⟩ | exact ⟨k + 1, by omega, by go_num, ⟨sd', _, _, rfl, rfl, HD', HL', hT25⟩, hb25⟩ | exact ⟨k + 1, by omega, by go_num, ⟨sd', _, _, rfl, rfl, HD', HL', hT24⟩, hb24⟩ | exact ⟨k + 1, by omega, by go_num, ⟨sd', _, _, rfl, rfl, HD', HL', hT23⟩, hb23⟩ | exact ⟨k + 1, by omega, by go_num, ⟨sd', _, _, rfl, rfl, HD', HL', hT22⟩, hb22⟩ | exact ⟨k + 1, by omega, by go_num, ⟨sd', _, _, rfl, rfl, HD', HL', hT21⟩, hb21⟩ | exact ⟨k + 1, by omega, by go_num, ⟨sd', _, _, rfl, rfl, HD', HL', hT20⟩, hb20⟩)
        case measure => simp [intOf]; omega
        case rel => (first | exact ⟨k + 1, by omega, by go_num, ⟨sd', _, _, rfl, rfl, HD', HL', hT27⟩, hb27⟩ | exact ⟨k + 1, by omega, by go_num, ⟨sd', _, _, rfl, rfl, HD', HL', hT26⟩, hb26⟩ | exact ⟨k + 1, by omega, by go_num, ⟨sd', _, _, rfl, rfl, HD', HL', hT25⟩, hb25⟩ | exact ⟨k + 1, by omega, by go_num, ⟨sd', _, _, rfl, rfl, HD', HL', hT24⟩, hb24⟩ | exact ⟨k + 1, by omega, by go_num, ⟨sd', _, _, rfl, rfl, HD', HL', hT23⟩, hb23⟩ | exact ⟨k + 1, by omega, by go_num, ⟨sd', _, _, rfl, rfl, HD', HL', hT22⟩, hb22⟩ | exact ⟨k + 1, by omega, by go_num, ⟨sd', _, _, rfl, rfl, HD', HL', hT21⟩, hb21⟩ | exact ⟨k + 1, by omega, by go_num, ⟨sd', _, _, rfl, rfl, HD', HL', hT20⟩, hb20⟩)
        case measure => simp [intOf]; omega
        case rel => (first | exact ⟨k + 1, by omega, by go_num, ⟨sd', _, _, rfl, rfl, HD', HL', hT27⟩, hb27⟩ | exact ⟨k + 1, by omega, by go_num, ⟨sd', _, _, rfl, rfl, HD', HL', hT26⟩, hb26⟩ | exact ⟨k + 1, by omega, by go_num, ⟨sd', _, _, rfl, rfl, HD', HL', hT25⟩, hb25⟩ | exact ⟨k + 1, by omega, by go_num, ⟨sd', _, _, rfl, rfl, HD', HL', hT24⟩, hb24⟩ | exact ⟨k + 1, by omega, by go_num, ⟨sd', _, _, rfl, rfl, HD', HL', hT23⟩, hb23⟩ | exact ⟨k + 1, by omega, by go_num, ⟨sd', _, _, rfl, rfl, HD', HL', hT22⟩, hb22⟩ | exact ⟨k + 1, by omega, by go_num, ⟨sd', _, _, rfl, rfl, HD', HL', hT21⟩, hb21⟩ | exact ⟨k + 1, by omega, by go_num, ⟨sd', _, _, rfl, rfl, HD', HL', hT20⟩, hb20⟩)
        case measure => simp [intOf]; omega
        case rel => (first | exact ⟨k + 1, by omega, by go_num, ⟨sd', _, _, rfl, rfl, HD', HL', hT27⟩, hb27⟩ | exact ⟨k + 1, by omega, by go_num, ⟨sd', _, _, rfl, rfl, HD', HL', hT26⟩, hb26⟩ | exact ⟨k + 1, by omega, by go_num, ⟨sd', _, _, rfl, rfl, HD', HL', hT25⟩, hb25⟩ | exact ⟨k + 1, by omega, by go_num, ⟨sd', _, _, rfl, rfl, HD', HL', hT24⟩, hb24⟩ | exact ⟨k + 1, by omega, by go_num, ⟨sd', _, _, rfl, rfl, HD', HL', hT23⟩, hb23⟩ | exact ⟨k + 1, by omega, by go_num, ⟨sd', _, _, rfl, rfl, HD', HL', hT22⟩, hb22⟩ | exact ⟨k + 1, by omega, by go_num, ⟨sd', _, _, rfl, rfl, HD', HL', hT21⟩, hb21⟩ | exact ⟨k + 1, by omega, by go_num, ⟨sd', _, _, rfl, rfl, HD', HL', hT20⟩, hb20⟩)
        case measure => simp [intOf]; omega
        case rel => (first | exact ⟨k + 1, by omega, by go_num, ⟨sd', _, _, rfl, rfl, HD', HL', hT27⟩, hb27⟩ | exact ⟨k + 1, by omega, by go_num, ⟨sd', _, _, rfl, rfl, HD', HL', hT26⟩, hb26⟩ | exact ⟨k + 1, by omega, by go_num, ⟨sd', _, _, rfl, rfl, HD', HL', hT25⟩, hb25⟩ | exact ⟨k + 1, by omega, by go_num, ⟨sd', _, _, rfl, rfl, HD', HL', hT24⟩, hb24⟩ | exact ⟨k + 1, by omega, by go_num, ⟨sd', _, _, rfl, rfl, HD', HL', hT23⟩, hb23⟩ | exact ⟨k + 1, by omega, by go_num, ⟨sd', _, _, rfl, rfl, HD', HL', hT22⟩, hb22⟩ | exact ⟨k + 1, by omega, by go_num, ⟨sd', _, _, rfl, rfl, HD', HL', hT21⟩, hb21⟩ | exact ⟨k + 1, by omega, by go_num, ⟨sd', _, _, rfl, rfl, HD', HL', hT20⟩, hb20⟩)
        case measure => simp [intOf]; omega
      · have hn2 : 100 < n := by omega
        clear hI hn
        go_wp2
        go_ret
        exact ⟨rfl, hb⟩
    · obtain rfl : k = m := by omega
      go_wp2
      go_ret
      exact ⟨rfl, hb⟩
end Go.Proofs.Ytehaijdbmnljnaa
